/- The law SpaceWhole answers true, whatever it is handed. -/
import Derived.Test.YtbnkgecblaffeaaZ
namespace Go.Proofs.Ytbnkgecblaffeaa
open Go.RowKit Go.Shelf

def chooseV (c n : Int) : Int := if c < 0 then -((c + 1).tmod n) else c % n
theorem choose_range (c n : Int) (hn : 0 < n) : 0 ≤ chooseV c n ∧ chooseV c n < n := by
  unfold chooseV
  split
  · rename_i h
    rw [← Int.neg_tmod, Int.tmod_eq_emod_of_nonneg (by omega)]
    exact ⟨Int.emod_nonneg _ (by omega), Int.emod_lt_of_pos _ hn⟩
  · exact ⟨Int.emod_nonneg _ (by omega), Int.emod_lt_of_pos _ hn⟩

/-- Which of n things a raw number speaks of. -/
theorem choose_any (c n : Int) (w : World) (hc0 : -9223372036854775808 ≤ c) (hc1 : c ≤ 9223372036854775807) (hn0 : 0 < n) (hn1 : n ≤ 65536) :
    Calls Try.prog 21 #[.int .i64 c, .int .i64 n] w fun e w' => e = .returned (.int .i64 (chooseV c n)) ∧ w' = w := by
  have hz : n ≠ 0 := by omega
  unfold chooseV
  by_cases hneg : c < 0
  · rw [if_pos hneg]
    have h1 : IntKind.i64.wrap (c + 1) = c + 1 := by rw [IntKind.wrap_i64]; omega
    have h2 : IntKind.i64.wrap (-(c + 1)) = -(c + 1) := by rw [IntKind.wrap_i64]; omega
    go_enter Try.func21, Try.ntmps21
    go_wp2
    go_ret
    exact ⟨rfl, rfl⟩
  · rw [if_neg hneg]
    go_enter Try.func21, Try.ntmps21
    go_wp2
    go_ret
    exact ⟨rfl, rfl⟩

theorem size_is (a l : Int) (h : rt a l = true) (w : World) :
    Calls Try.prog 22 #[.agg #[.int .i64 a, .int .i64 l]] w fun e w' => e = .returned (.int .i64 (sp l)) ∧ Below w.heap.size w w' := by
  have := size_any a l w
  rw [if_pos h] at this
  exact this

/-- In how many of the first k an address is. -/
def cnt (ps : List (Int × Int)) (x : Int) (k : Nat) : Nat := (ps.take k).countP fun g => hld g.1 g.2 x
theorem cnt_zero (ps : List (Int × Int)) (x : Int) : cnt ps x 0 = 0 := by simp [cnt]
theorem cnt_all (ps : List (Int × Int)) (x : Int) : cnt ps x ps.length = ps.countP fun g => hld g.1 g.2 x := by simp [cnt]
theorem cnt_step (ps : List (Int × Int)) (x : Int) (k : Nat) (hk : k < ps.length) : cnt ps x (k + 1) = cnt ps x k + (if hld (at0 ps k) (at1 ps k) x then 1 else 0) := by
  unfold cnt
  rw [List.take_add_one, List.countP_append, List.getElem?_eq_getElem hk, at0_get hk, at1_get hk]
  simp only [Option.toList_some, List.countP_cons, List.countP_nil, Nat.zero_add]
theorem cnt_le (ps : List (Int × Int)) (x : Int) (k : Nat) : cnt ps x k ≤ k := by
  unfold cnt
  exact Nat.le_trans List.countP_le_length (by simp; omega)

theorem holds_is (a l x : Int) (t : Bool) (h : hld a l x = t) (w : World) :
    Calls Try.prog 23 #[.agg #[.int .i64 a, .int .i64 l], .int .i64 x] w fun e w' => e = .returned (.bool t) ∧ Below w.heap.size w w' := by
  subst h
  exact holds_any a l x w

set_option maxRecDepth 100000 in
set_option maxHeartbeats 1600000 in
theorem whole_any (a l y : Int) (x : Option Addr) (n c : Nat) (ps : List (Int × Int)) (w : World) (hp : n ≤ 32 → PS w x n ps) (hy0 : -9223372036854775808 ≤ y) (hy1 : y ≤ 9223372036854775807) :
    Calls Try.prog 6 #[.agg #[.int .i64 a, .int .i64 l, .slice x n c], .int .i64 y] w fun e w' => e = .returned (.bool true) ∧ Below w.heap.size w w' := by
  have hh := holes_any a l x n c ps
  by_cases hv : chkS a l n ps = 0
  · obtain ⟨hn, hr, hap⟩ := chkS_ok hv
    have hp' := hp hn
    have hU := used_of hap
    obtain ⟨l0, l1, a0, a1, -⟩ := rt_range hr
    have hH := hol_are ps (16 - l).toNat a l hr (by omega)
    have hlen : (hol ps (16 - l).toNat a l).length ≤ 65536 := Nat.le_trans (hol_len ps _ a l) (Nat.le_trans (Nat.pow_le_pow_right (by omega) (show (16 - l).toNat ≤ 16 by omega)) (by decide))
    have hS : holS a l n ps = hol ps (16 - l).toNat a l := by unfold holS; rw [if_pos hv]
    rw [hS, hv] at hh
    generalize hol ps (16 - l).toNat a l = H at hh hH hlen
    clear hS hv hap
    obtain ⟨r0, r1⟩ := choose_range y (sp l) (sp_pos l)
    have hpos := sp_pos l
    have hsle := sp_le l
    have htop := rt_top hr
    have hone := whole hr hH hU (x := a + chooseV y (sp l)) (by omega) (by omega)
    have hmax : max 1 (sp l) = sp l := by omega
    have hwr : IntKind.i64.wrap (a + chooseV y (sp l)) = a + chooseV y (sp l) := by rw [IntKind.wrap_i64]; omega
    go_enter Try.func6, Try.ntmps6
    go_wp2_with fail
    refine (hh _ (fun _ => hp'.later (bl1 w _))).mono ?_
    rintro e w1 ⟨x1, c1, rfl, hb1, hp1⟩
    have s1 : w1.heap[w.heap.size]? = some (.cells #[.int .i64 a, .int .i64 l, .slice x n c] 26) := (hb1.block _ (by simp)).trans (heap_new _ rfl)
    have hB1 : Below w.heap.size w w1 := (bl1 w _).trans (hb1.mono (by simp))
    clear hb1 hh
    obtain ⟨e0, e1, e2, -⟩ := box3 s1
    have g0 := Ws.here e0
    have g1 := Ws.here e1
    go_upto_region 4 with fail
    refine wp_region_ws w1.heap.size (by kernel_rfl) (by kernel_rfl) ?_
    repeat (go_big_quiet_step (first | (go_at_call 22; exact Calls.in_ws (Nat.le_refl _) (size_is a l hr _)) | (go_at_call 21; exact Calls.in_ws_same (choose_any y (sp l) _ hy0 hy1 hpos hsle))))
    refine wpQuiet_nil ?_
    rintro _ ⟨u, rfl⟩
    have hu : Below w1.heap.size w1 u.val := u.property
    generalize u.val = w2 at hu ⊢
    clear u g0 g1 e0 e1 e2
    have s2 := (hu.block _ (Array.getElem?_eq_some_iff.1 s1).1).trans s1
    have hp2 := hp1.later hu
    have hB2 := hB1.trans (hu.mono hB1.size)
    have hpw := hp'.later hB2
    clear hu s1 hp1 hB1
    have hH1 := hp2.len
    generalize a + chooseV y (sp l) = z at hone
    go_wp2
    go_loopw [9, 8] (fun i t wr => ∃ k : Nat, k ≤ H.length ∧ i = .int .i64 k ∧ t = .int .i64 (cnt H z k : Nat) ∧ Below w2.heap.size w2 wr) (fun i _ _ => H.length - (intOf i).toNat)
    case atStart => exact ⟨0, by omega, rfl, by rw [cnt_zero]; rfl, Below.refl _ _⟩
    case round =>
      obtain ⟨k, hk, rfl, rfl, hB⟩ := hrel
      have hle := cnt_le H z k
      by_cases hlt : k < H.length
      · obtain ⟨b, o, rfl, c0, c1'⟩ := (hp2.later hB).cells k hlt
        have hst := cnt_step H z k hlt
        have hlt' := hlt
        cases hd : hld (at0 H k) (at1 H k) z
        all_goals rw [hd] at hst
        all_goals go_wp2_with (go_at_call 23; refine (holds_is _ _ _ _ hd _).mono ?_; rintro e w3 ⟨rfl, hb3⟩)
        all_goals go_roundw
        case rel => exact ⟨k + 1, hlt', by go_num, by rw [hst]; rfl, hB.trans (hb3.mono hB.size)⟩
        case measure => simp [intOf]; omega
        case rel => exact ⟨k + 1, hlt', by go_num, by rw [hst]; go_num, hB.trans (hb3.mono hB.size)⟩
        case measure => simp [intOf]; omega
      · obtain rfl : k = H.length := by omega
        have s3 := (hB.block _ (Array.getElem?_eq_some_iff.1 s2).1).trans s2
        have hpw3 := hpw.later hB
        have hB3 := hB2.trans (hB.mono hB2.size)
        obtain ⟨e0, e1, e2, -⟩ := box3 s3
        go_wp2
        obtain ⟨w3, rfl⟩ : ∃ w3, w3 = wr := ⟨wr, rfl⟩
        clear e0 e1 e2
        go_loopw [10, 8] (fun i t wr => ∃ k : Nat, k ≤ n ∧ i = .int .i64 k ∧ t = .int .i64 (cnt H z H.length + cnt ps z k : Nat) ∧ Below w3.heap.size w3 wr) (fun i _ _ => n - (intOf i).toNat)
        case atStart => exact ⟨0, by omega, rfl, by rw [cnt_zero]; rfl, Below.refl _ _⟩
        case round =>
          obtain ⟨k, hk, rfl, rfl, hC⟩ := hrel
          have hle2 := cnt_le ps z k
          have s4 := (hC.block _ (Array.getElem?_eq_some_iff.1 s3).1).trans s3
          obtain ⟨e0, e1, e2, -⟩ := box3 s4
          have hB4 := hB3.trans (hC.mono hB3.size)
          have hpl := hp'.len
          by_cases hlt : k < n
          · obtain ⟨b, o, rfl, c0, c1'⟩ := (hpw3.later hC).cells k hlt
            have hst := cnt_step ps z k (by omega)
            have hlt' := hlt
            cases hd : hld (at0 ps k) (at1 ps k) z
            all_goals rw [hd] at hst
            all_goals go_wp2_with (go_at_call 23; refine (holds_is _ _ _ _ hd _).mono ?_; rintro e w5 ⟨rfl, hb5⟩)
            all_goals go_roundw
            case rel => exact ⟨k + 1, hlt', by go_num, by rw [hst]; rfl, hC.trans (hb5.mono hC.size)⟩
            case measure => simp [intOf]; omega
            case rel => exact ⟨k + 1, hlt', by go_num, by rw [hst]; go_num, hC.trans (hb5.mono hC.size)⟩
            case measure => simp [intOf]; omega
          · obtain rfl : k = n := by omega
            have htot : cnt H z H.length + cnt ps z k = 1 := by rw [← hpl, cnt_all, cnt_all]; exact hone
            rw [htot]
            go_wp2_with (go_at_call 12; refine (begun_any _).mono ?_; rintro e w5 ⟨rfl, hb5⟩)
            go_ret
            exact ⟨rfl, hB4.trans (hb5.mono hB4.size)⟩
  · have hb : (chkS a l n ps != 0) = true := by simpa using hv
    generalize chkS a l n ps = v at hh hb hv
    go_enter Try.func6, Try.ntmps6
    go_wp2_with fail
    refine (hh _ (fun h => (hp h).later (bl1 w _))).mono ?_
    rintro e w1 ⟨x1, c1, rfl, hb1, -⟩
    have hB1 : Below w.heap.size w w1 := (bl1 w _).trans (hb1.mono (by simp))
    go_wp2_with (go_at_call 12; refine (begun_any _).mono ?_; rintro e w5 ⟨rfl, hb5⟩)
    go_ret
    exact ⟨rfl, hB1.trans (hb5.mono hB1.size)⟩
end Go.Proofs.Ytbnkgecblaffeaa
