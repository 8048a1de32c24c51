/- The law WireCut answers true, whatever it is handed. -/
import Derived.Test.YtlledongbfjkiaaWp
namespace Go.Proofs.Ytlledongbfjkiaa
open Go.RowKit

def chooseV (c n : Int) : Int := if c < 0 then -((c + 1).tmod n) else c % n
theorem choose_range (c n : Int) (hn : 0 < n) : 0 ≤ chooseV c n ∧ chooseV c n < n := by
  unfold chooseV
  split
  · rename_i h
    rw [← Int.neg_tmod, Int.tmod_eq_emod_of_nonneg (by omega)]
    exact ⟨Int.emod_nonneg _ (by omega), Int.emod_lt_of_pos _ hn⟩
  · exact ⟨Int.emod_nonneg _ (by omega), Int.emod_lt_of_pos _ hn⟩

/-- Which of n things a raw number speaks of. -/
theorem choose_any (c n : Int) (w : World) (hc0 : -9223372036854775808 ≤ c) (hc1 : c ≤ 9223372036854775807) (hn0 : 0 < n) (hn1 : n ≤ 65536) :
    Calls Try.prog 19 #[.int .i64 c, .int .i64 n] w fun e w' => e = .returned (.int .i64 (chooseV c n)) ∧ w' = w := by
  have hz : n ≠ 0 := by omega
  unfold chooseV
  by_cases hneg : c < 0
  · rw [if_pos hneg]
    have h1 : IntKind.i64.wrap (c + 1) = c + 1 := by rw [IntKind.wrap_i64]; omega
    have h2 : IntKind.i64.wrap (-(c + 1)) = -(c + 1) := by rw [IntKind.wrap_i64]; omega
    go_enter Try.func19, Try.ntmps19
    go_wp2
    go_ret
    exact ⟨rfl, rfl⟩
  · rw [if_neg hneg]
    go_enter Try.func19, Try.ntmps19
    go_wp2
    go_ret
    exact ⟨rfl, rfl⟩


theorem choose_nat (c : Int) (N : Nat) (hc0 : -9223372036854775808 ≤ c) (hc1 : c ≤ 9223372036854775807) (hN : N ≤ 65535) : ∃ k : Nat, k ≤ N ∧ ∀ w, Calls Try.prog 19 #[.int .i64 c, .int .i64 ((N : Int) + 1)] w fun e w' => e = .returned (.int .i64 k) ∧ w' = w := by
  obtain ⟨r0, r1⟩ := choose_range c ((N : Int) + 1) (by omega)
  refine ⟨(chooseV c ((N : Int) + 1)).toNat, by omega, fun w => ?_⟩
  rw [Int.toNat_of_nonneg r0]
  exact choose_any c _ w hc0 hc1 (by omega) (by omega)
theorem CS.take {w : World} {x : Option Addr} {n : Nat} {cs : List Cm} (h : CS w x n cs) (j : Nat) (hj : j ≤ n) : CS w x j (cs.take j) := by
  refine ⟨by rw [List.length_take, h.len]; omega, fun i hi => ?_⟩
  have e : cmAt (cs.take j) i = cmAt cs i := by
    rw [cmAt_get (by rw [List.length_take, h.len]; omega), cmAt_get (by rw [h.len]; omega), List.getElem_take]
  rw [e]
  exact h.cells i (by omega)
theorem lo_zero {cs : List Cm} (h : loE cs = 0) : (∀ c ∈ cs, okCm c = true) ∧ cs.length ≤ 200 ∧ loS cs = logB cs := by
  cases ha : cs.all okCm
  · unfold loE at h
    rw [ha] at h
    simp at h
  · by_cases hn : 200 < cs.length
    · unfold loE at h
      rw [ha, if_pos rfl, if_pos hn] at h
      simp at h
    · refine ⟨fun c hc => ?_, by omega, ?_⟩
      · rw [List.all_eq_true] at ha
        exact ha c hc
      · unfold loS
        rw [ha, if_pos rfl, if_neg hn]
theorem isB_log (cs : List Cm) : isB (logB cs) := fun x hx => by
  obtain ⟨c, hc, hx⟩ := List.mem_flatMap.1 hx
  exact isB_frame (isB_cmdB c) (by rw [cmdB_len]; omega) x hx

/-- What the parts come to. -/
theorem cut_parts {cs : List Cm} (h : loE cs = 0) (k : Nat) (hk : k ≤ 42 * cs.length) (tail : ByteArray) (ht : tail.size ≤ 4096) :
    (strOfNums (loS cs)).size = 42 * cs.length ∧ reC ((strOfNums (loS cs)).extract 0 k) = cs.take (k / 42) ∧ reE ((strOfNums (loS cs)).extract 0 k) = 0 ∧ (∃ ds, reC (strOfNums (loS cs) ++ tail) = cs ++ ds) ∧ reE (strOfNums (loS cs) ++ tail) = 0 := by
  obtain ⟨hok, h200, hS⟩ := lo_zero h
  rw [hS]
  have hz : (strOfNums (logB cs)).size = 42 * cs.length := by rw [strOfNums_size, logB_len]
  have hz2 : ((strOfNums (logB cs)).extract 0 k).size = k := by rw [size_sub _ 0 k (by omega) (by omega)]; rfl
  have hz3 : (strOfNums (logB cs) ++ tail).size = 42 * cs.length + tail.size := by rw [ByteArray.size_append, hz]
  have hcat : bs (strOfNums (logB cs) ++ tail) = logB cs ++ bs tail := by
    have : strOfNums (logB cs) ++ tail = strOfNums (logB cs ++ bs tail) := by rw [← str_app, str_bs]
    rw [this, bs_str (isB_append (isB_log cs) (isB_bs tail))]
  refine ⟨hz, ?_, ?_, ?_, ?_⟩
  · rw [(re_few (by omega)).1, bs_extract, bs_str (isB_log cs), List.drop_zero, Nat.sub_zero]
    exact rp_cut cs 200 k hok h200 hk
  · exact (re_few (by omega)).2
  · rw [(re_few (by omega)).1, hcat, rp_more cs 200 _ hok h200]
    exact ⟨_, rfl⟩
  · exact (re_few (by omega)).2
set_option maxRecDepth 20000 in
set_option maxHeartbeats 1600000 in
theorem cut_bad (hbeg : BegunAny) (x : Option Addr) (n cap : Nat) (cs : List Cm) (cut : Int) (tail : ByteArray) (w : World) (hp : CS w x n cs) (hn : 42 * n ≤ 140737488355328) (hE : loE cs ≠ 0) :
    Calls Try.prog 5 #[.slice x n cap, .int .i64 cut, .string tail] w fun e w' => e = .returned (.bool true) ∧ Below w.heap.size w w' := by
  have h1 := log_any x n cap cs w hp hn
  have hb : (loE cs != 0) = true := by simpa using hE
  generalize strOfNums (loS cs) = t at h1
  generalize loE cs = e1 at h1 hb
  clear hE
  go_enter Try.func5, Try.ntmps5
  go_wp2_with fail
  refine h1.mono ?_
  rintro e w1 ⟨rfl, hb1⟩
  go_wp2_with fail
  refine (hbeg _).mono ?_
  rintro e w2 ⟨rfl, hb2⟩
  go_wp2
  go_ret
  exact ⟨rfl, hb1.trans (hb2.mono hb1.size)⟩
set_option maxRecDepth 20000 in
set_option maxHeartbeats 1600000 in
theorem cut_ok (hbeg : BegunAny) (x : Option Addr) (n cap : Nat) (cs : List Cm) (cut : Int) (tail : ByteArray) (w : World) (hp : CS w x n cs) (hnc : n ≤ cap) (hcm : cap ≤ 9223372036854775807) (hE : loE cs = 0) (hc0 : -9223372036854775808 ≤ cut) (hc1 : cut ≤ 9223372036854775807) :
    Calls Try.prog 5 #[.slice x n cap, .int .i64 cut, .string tail] w fun e w' => e = .returned (.bool true) ∧ Below w.heap.size w w' := by
  obtain ⟨-, h200, -⟩ := lo_zero hE
  have hlen : Hid (cs.length = n) := hp.len
  rw [hlen.out] at h200
  have h1 := log_any x n cap cs w hp (by omega)
  rw [hE] at h1
  obtain ⟨k, hk, hch⟩ := choose_nat cut (42 * n) hc0 hc1 (by omega)
  obtain ⟨hz, hr1, hr2, -⟩ := cut_parts hE k (by rw [hlen.out]; exact hk) ⟨#[]⟩ (by decide)
  have hr3 := fun ht => (cut_parts hE k (by rw [hlen.out]; exact hk) tail ht).2.2.2
  rw [hlen.out] at hz
  generalize strOfNums (loS cs) = t at h1 hz hr1 hr2 hr3
  have h2 := replay_any (t.extract 0 k)
  unfold RePost at h2
  rw [hr1, hr2, show (cs.take (k / 42)).length = k / 42 by rw [List.length_take, hlen.out]; omega] at h2
  clear hr1 hr2
  have hp2 := hp.take (k / 42) (by omega)
  generalize cs.take (k / 42) = ms at h2 hp2
  have hdiv : Int.tdiv (k : Int) 42 = ((k / 42 : Nat) : Int) := by rw [Int.tdiv_eq_ediv_of_nonneg (by omega)]; omega
  generalize hj : k / 42 = j at h2 hp2 hdiv
  have hjk : 42 * j ≤ k := by omega
  have hj' : j ≤ n := by omega
  clear hj
  go_enter Try.func5, Try.ntmps5
  go_wp2_with fail
  refine h1.mono ?_
  rintro e w1 ⟨rfl, hb1⟩
  go_wp2_with fail
  refine (hch _).mono ?_
  rintro e w1' ⟨rfl, rfl⟩
  go_wp2_with fail
  refine (h2 _).mono ?_
  rintro e w2 ⟨x2, c2, rfl, hb2, hc2, hc2', hp22⟩
  go_wp2_with fail
  refine (same_yes x2 x j c2 cap ms _ hp22 ((hp2.later hb1).later hb2) (by omega)).mono ?_
  rintro e w3 ⟨rfl, hb3⟩
  have hB2 := hb1.trans (hb2.mono hb1.size)
  have hB3 := hB2.trans (hb3.mono hB2.size)
  have hp3 := hp.later hB3
  clear hb2 hb3 hB2 hp22 hp2 h2 h1 hch hb1
  by_cases ht : tail.size ≤ 4096
  · obtain ⟨⟨ds, hr4⟩, hr5⟩ := hr3 ht
    have h4 := replay_any (t ++ tail)
    have hl4 := reC_len (t ++ tail)
    have hadd := fun w => run_string_add_sum (P := Try.prog) (w := w) t tail (by omega)
    unfold RePost at h4
    rw [hr4, hr5, List.length_append, hlen.out] at h4
    rw [hr4, List.length_append, hlen.out] at hl4
    have htk : Hid ((cs ++ ds).take n = cs) := by unfold Hid; rw [← hlen.out]; exact List.take_left
    generalize t ++ tail = tt at h4 hadd
    clear hr3 hr4 hr5
    generalize ds.length = m at h4 hl4
    go_wp2_with fail
    refine (h4 _).mono ?_
    rintro e w4 ⟨x4, c4, rfl, hb4, hc4, hc4', hp4⟩
    have hB4 := hB3.trans (hb4.mono hB3.size)
    have hp34 := hp3.later hb4
    clear hb4 hp3 h4 hadd
    go_wp2_with fail
    refine (hbeg _).mono ?_
    rintro e w5 ⟨rfl, hb5⟩
    have hB5 := hB4.trans (hb5.mono hB4.size)
    have hp5 := hp34.later hb5
    have hp45 := (hp4.later hb5).take n (by omega)
    rw [htk.out] at hp45
    clear hb5 hp34 hp4
    go_wp2_with fail
    refine (same_yes x4 x n c4 cap cs _ hp45 hp5 (by omega)).mono ?_
    rintro e w6 ⟨rfl, hb6⟩
    go_wp2
    go_ret
    exact ⟨rfl, hB5.trans (hb6.mono hB5.size)⟩
  · clear hr3
    go_wp2_with fail
    refine (hbeg _).mono ?_
    rintro e w5 ⟨rfl, hb5⟩
    go_wp2
    go_ret
    exact ⟨rfl, hB3.trans (hb5.mono hB3.size)⟩
theorem cut_any (hbeg : BegunAny) (x : Option Addr) (n cap : Nat) (cs : List Cm) (cut : Int) (tail : ByteArray) (w : World) (hp : CS w x n cs) (hn : 42 * n ≤ 140737488355328) (hnc : n ≤ cap) (hcm : cap ≤ 9223372036854775807) (hc0 : -9223372036854775808 ≤ cut) (hc1 : cut ≤ 9223372036854775807) :
    Calls Try.prog 5 #[.slice x n cap, .int .i64 cut, .string tail] w fun e w' => e = .returned (.bool true) ∧ Below w.heap.size w w' := by
  by_cases hE : loE cs = 0
  · exact cut_ok hbeg x n cap cs cut tail w hp hnc hcm hE hc0 hc1
  · exact cut_bad hbeg x n cap cs cut tail w hp hn hE
end Go.Proofs.Ytlledongbfjkiaa
