/- Commands in memory; what Log of package wire, and LogOf of package parcelwayref, come to. -/
import Derived.Test.YtlledongbfjkiaaWh
namespace Go.Proofs.Ytlledongbfjkiaa
open Go.RowKit

def cmAt (cs : List Cm) (i : Nat) : Cm := cs.getD i zeroC
theorem cmAt_get {cs : List Cm} {i : Nat} (h : i < cs.length) : cmAt cs i = cs[i] := by simp [cmAt, List.getD_eq_getElem?_getD, h]
/-- The slice (x, n) holds these commands in that world. -/
structure CS (w : World) (x : Option Addr) (n : Nat) (cs : List Cm) : Prop where
  len : cs.length = n
  cells : ∀ i, i < n → ∃ b o, x = some ⟨b, o, none⟩ ∧ w.cell? ⟨b, o + i * 10, none⟩ = some (.int .i64 (cmAt cs i).op) ∧ w.cell? ⟨b, o + i * 10 + 1, none⟩ = some (.int .i64 (cmAt cs i).a) ∧ w.cell? ⟨b, o + i * 10 + 2, none⟩ = some (.int .i64 (cmAt cs i).b) ∧ w.cell? ⟨b, o + i * 10 + 3, none⟩ = some (.int .i64 (cmAt cs i).c) ∧ w.cell? ⟨b, o + i * 10 + 4, none⟩ = some (.int .i64 (cmAt cs i).p) ∧ w.cell? ⟨b, o + i * 10 + 5, none⟩ = some (.int .i64 (cmAt cs i).l) ∧ w.cell? ⟨b, o + i * 10 + 6, none⟩ = some (.int .i64 (cmAt cs i).mn) ∧ w.cell? ⟨b, o + i * 10 + 7, none⟩ = some (.int .i64 (cmAt cs i).mx) ∧ w.cell? ⟨b, o + i * 10 + 8, none⟩ = some (.int .i64 (cmAt cs i).us) ∧ w.cell? ⟨b, o + i * 10 + 9, none⟩ = some (.int .i64 (cmAt cs i).co)
theorem CS.later {w w' : World} {x : Option Addr} {n : Nat} {cs : List Cm} (h : CS w x n cs) (hb : Below w.heap.size w w') : CS w' x n cs where
  len := h.len
  cells := fun i hi => by
    obtain ⟨b, o, hx, c0, c1, c2, c3, c4, c5, c6, c7, c8, c9⟩ := h.cells i hi
    exact ⟨b, o, hx, cell_later hb c0, cell_later hb c1, cell_later hb c2, cell_later hb c3, cell_later hb c4, cell_later hb c5, cell_later hb c6, cell_later hb c7, cell_later hb c8, cell_later hb c9⟩

/-- What Log answers. -/
def loE (cs : List Cm) : Int := if cs.all okCm = true then (if 200 < cs.length then 2 else 0) else 3
def loS (cs : List Cm) : List Int := if cs.all okCm = true then (if 200 < cs.length then [] else logB cs) else []
theorem lo_bad {cs : List Cm} {k : Nat} (hk : k < cs.length) (h : okCm (cmAt cs k) = false) : loE cs = 3 ∧ loS cs = [] := by
  have : cs.all okCm = false := by
    rw [List.all_eq_false]
    rw [cmAt_get hk] at h
    exact ⟨cs[k], List.getElem_mem hk, by simp [h]⟩
  unfold loE loS
  rw [this]
  exact ⟨rfl, rfl⟩
theorem all_ok {cs : List Cm} (h : ∀ j, j < cs.length → okCm (cmAt cs j) = true) : cs.all okCm = true := by
  rw [List.all_eq_true]
  intro c hc
  obtain ⟨j, hj, rfl⟩ := List.getElem_of_mem hc
  rw [← cmAt_get hj]
  exact h j hj
theorem lo_many {cs : List Cm} (h : ∀ j, j < cs.length → okCm (cmAt cs j) = true) (hn : 200 < cs.length) : loE cs = 2 ∧ loS cs = [] := by
  unfold loE loS
  rw [all_ok h, if_pos rfl, if_pos rfl, if_pos hn, if_pos hn]
  exact ⟨rfl, rfl⟩
theorem lo_ok {cs : List Cm} (h : ∀ j, j < cs.length → okCm (cmAt cs j) = true) (hn : cs.length ≤ 200) : loE cs = 0 ∧ loS cs = logB cs := by
  unfold loE loS
  rw [all_ok h, if_pos rfl, if_pos rfl, if_neg (by omega), if_neg (by omega)]
  exact ⟨rfl, rfl⟩
theorem log_next {cs : List Cm} {k : Nat} (hk : k < cs.length) : logB (cs.take (k + 1)) = logB (cs.take k) ++ frameB (cmdB (cmAt cs k)) := by
  rw [List.take_add_one, List.getElem?_eq_getElem hk, ← cmAt_get hk]
  exact logB_snoc _ _
theorem log_take_len {cs : List Cm} {k : Nat} (hk : k ≤ cs.length) : (logB (cs.take k)).length = 42 * k := by rw [logB_len, List.length_take]; congr 1; omega

theorem write_ok {c : Cm} (h : okCm c = true) (w : World) :
    Calls Try.prog 6 #[cmV c] w fun e w' => e = .returned (.tuple #[.string (strOfNums (cmdB c)), .int .i64 0]) ∧ Below w.heap.size w w' := by
  have := write_any c w
  rw [(wr_yes h).1, (wr_yes h).2] at this
  exact this
theorem write_bad {c : Cm} (h : okCm c = false) (w : World) :
    Calls Try.prog 6 #[cmV c] w fun e w' => e = .returned (.tuple #[.string (strOfNums []), .int .i64 3]) ∧ Below w.heap.size w w' := by
  have := write_any c w
  rw [(wr_no h).1, (wr_no h).2] at this
  exact this
theorem isB_cmdB (c : Cm) : isB (cmdB c) := isB_cmdTo c 9
theorem bs_cmd (c : Cm) : bs (strOfNums (cmdB c)) = cmdB c := bs_str (isB_cmdB c)
theorem bs_frame (c : Cm) : bs (strOfNums (frameB (cmdB c))) = frameB (cmdB c) := bs_str (isB_frame (isB_cmdB c) (by rw [cmdB_len]; omega))
theorem convert_row {w : World} {base : Nat} {v : Value} {xs : List Int} (h : OB w base v xs) : (convert 49 9 v).run Try.prog w = .ok (.string (strOfNums xs)) w := by
  rcases h.2 with ⟨rfl, h0⟩ | ⟨g, c, cur, rfl, -⟩
  · obtain rfl := List.eq_nil_of_length_eq_zero h0
    exact run_convert_bytes_nil w 49 5 under_bytes under_u8 0 0 9 under_str
  · exact convert_ob h rfl
theorem frame_cmd (c : Cm) (w : World) :
    Calls Try.prog 11 #[.string (strOfNums (cmdB c))] w fun e w' => e = .returned (.tuple #[.string (strOfNums (frameB (cmdB c))), .int .i64 0]) ∧ Below w.heap.size w w' := by
  have h := frame_yes (strOfNums (cmdB c)) w (by rw [strOfNums_size, cmdB_len]; omega)
  rw [bs_cmd] at h
  exact h

set_option maxRecDepth 20000 in
set_option maxHeartbeats 1600000 in
theorem log_any (x : Option Addr) (n cap : Nat) (cs : List Cm) (w : World) (hp : CS w x n cs) (hn : 42 * n ≤ 140737488355328) :
    Calls Try.prog 14 #[.slice x n cap] w fun e w' => e = .returned (.tuple #[.string (strOfNums (loS cs)), .int .i64 (loE cs)]) ∧ Below w.heap.size w w' := by
  have hpl : Hid (cs.length = n) := hp.len
  go_enter Try.func14, Try.ntmps14
  go_wp2
  go_loopw [4, 13] (fun v i wr => ∃ k : Nat, k ≤ n ∧ i = .int .i64 k ∧ (∀ j, j < k → okCm (cmAt cs j) = true) ∧ OB wr w.heap.size v (logB (cs.take k)) ∧ Below w.heap.size w wr) (fun _ i _ => n - (intOf i).toNat)
  case atStart => exact ⟨0, by omega, rfl, fun j hj => by omega, OB.nil _ _, Below.refl _ _⟩
  case round =>
    obtain ⟨k, hk, rfl, hok, hO, hB⟩ := hrel
    have hll : (logB (cs.take k)).length = 42 * k := log_take_len (by rw [hpl.out]; exact hk)
    have hlx : Hid ((logB (cs.take k)).length = 42 * k) := hll
    clear hll
    by_cases hlt : k < n
    · obtain ⟨b, o, rfl, c0, c1, c2, c3, c4, c5, c6, c7, c8, c9⟩ := (hp.later hB).cells k hlt
      have hlt' := hlt
      cases hc : okCm (cmAt cs k)
      · go_wp2_with (go_at_call 6; refine (write_bad hc _).mono ?_; rintro e w1 ⟨rfl, hb1⟩)
        go_ret2
        have hbad := lo_bad (cs := cs) (by rw [hpl.out]; exact hlt') hc
        exact ⟨ret_two (by rw [hbad.2]; rfl) hbad.1.symm, hB.trans (((bl1 wr _).trans (hb1.mono (by simp))).mono hB.size)⟩
      · go_wp2_with (first | (go_at_call 6; refine (write_ok hc _).mono ?_; rintro e w1 ⟨rfl, hb1⟩) | (go_at_call 11; refine (frame_cmd (cmAt cs k) _).mono ?_; rintro e w2 ⟨rfl, hb2⟩) | (at_builtin; refine Hid.out ?_))
        unfold Hid
        have h01 : Below wr.heap.size wr w1 := (bl1 wr _).trans (hb1.mono (by simp))
        have h02 := h01.trans (hb2.mono h01.size)
        refine wpList_append_obs rfl _ _ rfl w.heap.size _ _ rfl (hO.later h02) (strOfNums (frameB (cmdB (cmAt cs k)))) rfl (by rw [hlx.out, strOfNums_size, fr_len]; omega) (by have := hB.size; have := h02.size; omega) ?_
        intro v' w' hO' hg'
        have hB' := below_grown (hB.trans (h02.mono hB.size)) hg' (fun k e => (hO.lt k e).1)
        rw [bs_frame] at hO'
        go_wp2
        go_roundw
        case rel => exact ⟨k + 1, hlt', by go_num, fun j hj => by
          by_cases hj2 : j < k
          · exact hok j hj2
          · obtain rfl : j = k := by omega
            exact hc, by rw [log_next (by rw [hpl.out]; exact hlt')]; exact hO', hB'⟩
        case measure => simp [intOf]; omega
    · obtain rfl : k = n := by omega
      have htk : Hid (cs.take k = cs) := by unfold Hid; rw [← hpl.out]; exact List.take_length
      rw [htk.out] at hO hlx
      by_cases hmany : 200 < k
      · go_wp2
        go_ret2
        have hb := lo_many (cs := cs) (by rw [hpl.out]; exact hok) (by rw [hpl.out]; exact hmany)
        exact ⟨ret_two (by rw [hb.2]; rfl) hb.1.symm, hB⟩
      · have hb : Hid (loE cs = 0 ∧ loS cs = logB cs) := lo_ok (cs := cs) (by rw [hpl.out]; exact hok) (by rw [hpl.out]; omega)
        have hcv := convert_row hO
        go_wp2
        go_ret2
        exact ⟨ret_two (by rw [hb.out.2]) hb.out.1.symm, hB⟩

theorem writeE_is {c : Cm} {t : Bool} (h : okCm c = t) (w : World) :
    Calls Try.prog 7 #[cmV c] w fun e w' => e = .returned (.int .i64 (if t = true then 0 else 3)) ∧ Below w.heap.size w w' := by
  have := writeError_any c w
  unfold wrE at this
  rw [h] at this
  exact this
theorem frameOf_cmd (c : Cm) (w : World) :
    Calls Try.prog 12 #[.string (strOfNums (cmdB c))] w fun e w' => e = .returned (.string (strOfNums (frameB (cmdB c)))) ∧ Below w.heap.size w w' := by
  have h := frameOf_any (strOfNums (cmdB c)) w (by rw [strOfNums_size, cmdB_len]; omega)
  rw [bs_cmd] at h
  exact h
theorem str_app (xs ys : List Int) : strOfNums xs ++ strOfNums ys = strOfNums (xs ++ ys) := by
  unfold strOfNums
  rw [ByteArray.mk_append_mk, List.map_append]

set_option maxRecDepth 20000 in
set_option maxHeartbeats 1600000 in
theorem logOf_any (x : Option Addr) (n cap : Nat) (cs : List Cm) (w : World) (hp : CS w x n cs) (hn : 42 * n ≤ 140737488355328) :
    Calls Try.prog 15 #[.slice x n cap] w fun e w' => e = .returned (.tuple #[.string (strOfNums (loS cs)), .int .i64 (loE cs)]) ∧ Below w.heap.size w w' := by
  have hpl : Hid (cs.length = n) := hp.len
  go_enter Try.func15, Try.ntmps15
  go_wp2
  go_loopw [5] (fun i wr => ∃ k : Nat, k ≤ n ∧ i = .int .i64 k ∧ (∀ j, j < k → okCm (cmAt cs j) = true) ∧ Below w.heap.size w wr) (fun i _ => n - (intOf i).toNat)
  case atStart => exact ⟨0, by omega, rfl, fun j hj => by omega, Below.refl _ _⟩
  case round =>
    obtain ⟨k, hk, rfl, hok, hB⟩ := hrel
    by_cases hlt : k < n
    · obtain ⟨b, o, rfl, c0, c1, c2, c3, c4, c5, c6, c7, c8, c9⟩ := (hp.later hB).cells k hlt
      have hlt' := hlt
      cases hc : okCm (cmAt cs k)
      · go_wp2_with (go_at_call 7; refine (writeE_is hc _).mono ?_; rintro e w1 ⟨rfl, hb1⟩)
        go_ret2
        have hbad := lo_bad (cs := cs) (by rw [hpl.out]; exact hlt') hc
        exact ⟨ret_two (by rw [hbad.2]; rfl) hbad.1.symm, hB.trans (hb1.mono hB.size)⟩
      · go_wp2_with (go_at_call 7; refine (writeE_is hc _).mono ?_; rintro e w1 ⟨rfl, hb1⟩)
        go_roundw
        case rel => exact ⟨k + 1, hlt', by go_num, fun j hj => by
          by_cases hj2 : j < k
          · exact hok j hj2
          · obtain rfl : j = k := by omega
            exact hc, hB.trans (hb1.mono hB.size)⟩
        case measure => simp [intOf]; omega
    · obtain rfl : k = n := by omega
      by_cases hmany : 200 < k
      · go_wp2
        go_ret2
        have hb := lo_many (cs := cs) (by rw [hpl.out]; exact hok) (by rw [hpl.out]; exact hmany)
        exact ⟨ret_two (by rw [hb.2]; rfl) hb.1.symm, hB⟩
      · have hb : Hid (loE cs = 0 ∧ loS cs = logB cs) := lo_ok (cs := cs) (by rw [hpl.out]; exact hok) (by rw [hpl.out]; omega)
        obtain ⟨w2, rfl⟩ : ∃ w2, w2 = wr := ⟨wr, rfl⟩
        have hdk : decide (200 < (k : Int)) = false := by simp; omega
        go_wp2
        go_loopw [4, 7] (fun t i wr => ∃ j : Nat, j ≤ k ∧ i = .int .i64 j ∧ t = .string (strOfNums (logB (cs.take j))) ∧ Below w.heap.size w wr) (fun _ i _ => k - (intOf i).toNat)
        case atStart => exact ⟨0, by omega, rfl, rfl, hB⟩
        case round =>
          obtain ⟨j, hj, rfl, rfl, hC⟩ := hrel
          have hsz : (strOfNums (logB (cs.take j))).size = 42 * j := by rw [strOfNums_size]; exact log_take_len (by rw [hpl.out]; exact hj)
          have hsz2 : (strOfNums (frameB (cmdB (cmAt cs j)))).size = 42 := by rw [strOfNums_size, fr_len]
          by_cases hlt2 : j < k
          · obtain ⟨b, o, rfl, c0, c1, c2, c3, c4, c5, c6, c7, c8, c9⟩ := (hp.later hC).cells j hlt2
            have hlt3 := hlt2
            have hadd := fun w => run_string_add_sum (P := Try.prog) (w := w) (strOfNums (logB (cs.take j))) (strOfNums (frameB (cmdB (cmAt cs j)))) (by omega)
            clear hsz hsz2
            rw [str_app, ← log_next (by rw [hpl.out]; exact hlt3)] at hadd
            go_wp2_with (first | (go_at_call 8; refine (cmdBytes_any (cmAt cs j) _).mono ?_; rintro e w3 ⟨rfl, hb3⟩) | (go_at_call 12; refine (frameOf_cmd (cmAt cs j) _).mono ?_; rintro e w4 ⟨rfl, hb4⟩))
            go_roundw
            case rel => exact ⟨j + 1, hlt3, by go_num, rfl, by
              have h1 := hC.trans (hb3.mono hC.size)
              exact h1.trans (hb4.mono h1.size)⟩
            case measure => simp [intOf]; omega
          · obtain rfl : j = k := by omega
            have htk : Hid (cs.take j = cs) := by unfold Hid; rw [← hpl.out]; exact List.take_length
            clear hsz hsz2
            go_wp2
            go_ret2
            exact ⟨ret_two (by rw [htk.out, hb.out.2]) hb.out.1.symm, hC⟩
end Go.Proofs.Ytlledongbfjkiaa
