/- What within, WriteError and CmdBytes of package parcelwayref come to. -/
import Derived.Test.YtlledongbfjkiaaWc
namespace Go.Proofs.Ytlledongbfjkiaa
open Go.RowKit

theorem ret_bool {a b : Bool} (h : a = b) : Ending.returned (.bool a) = .returned (.bool b) := by rw [h]
theorem ret_int {k : IntKind} {a b : Int} (h : a = b) : Ending.returned (.int k a) = .returned (.int k b) := by rw [h]
theorem ret_str {a b : ByteArray} (h : a = b) : Ending.returned (.string a) = .returned (.string b) := by rw [h]
theorem within_any (n lo hi : Int) (w : World) :
    Calls Try.prog 23 #[.int .i64 n, .int .i64 lo, .int .i64 hi] w fun e w' => e = .returned (.bool (decide (lo ≤ n) && decide (n ≤ hi))) ∧ w' = w := by
  by_cases h1 : lo ≤ n
  · by_cases h2 : n ≤ hi
    · go_enter Try.func23, Try.ntmps23
      go_wp2
      go_ret
      exact ⟨ret_bool (by rw [decide_eq_true h1, decide_eq_true h2]; rfl), rfl⟩
    · go_enter Try.func23, Try.ntmps23
      go_wp2
      go_ret
      exact ⟨ret_bool (by first | exact (decide_eq_false (by omega)).symm | rw [decide_eq_true h1, decide_eq_false (p := n ≤ hi) (by omega)]; rfl), rfl⟩
  · go_enter Try.func23, Try.ntmps23
    go_wp2
    go_ret
    exact ⟨ret_bool (by rw [decide_eq_false (p := lo ≤ n) (by omega), Bool.false_and]), rfl⟩
theorem within_is (n lo hi : Int) (t : Bool) (h : (decide (lo ≤ n) && decide (n ≤ hi)) = t) (w : World) :
    Calls Try.prog 23 #[.int .i64 n, .int .i64 lo, .int .i64 hi] w fun e w' => e = .returned (.bool t) ∧ w' = w := by
  subst h
  exact within_any n lo hi w

/-- The nine numbers lie in that block. -/
def At9 (w : World) (b : Nat) (c : Cm) : Prop := w.heap[b]? = some (.cells #[.int .i64 c.a, .int .i64 c.b, .int .i64 c.c, .int .i64 c.p, .int .i64 c.l, .int .i64 c.mn, .int .i64 c.mx, .int .i64 c.us, .int .i64 c.co] 50)
theorem At9.later {w w' : World} {b : Nat} {c : Cm} (h : At9 w b c) (hb : Below w.heap.size w w') : At9 w' b c := heap_later hb h
theorem At9.cell {w : World} {b : Nat} {c : Cm} (h : At9 w b c) (k : Nat) (hk : k < 9) : w.cell? ⟨b, k, none⟩ = some (.int .i64 (c.num k)) := by
  unfold At9 at h
  rcases k with _ | _ | _ | _ | _ | _ | _ | _ | _ | k
  case succ.succ.succ.succ.succ.succ.succ.succ.succ => omega
  all_goals simp [World.cell?, h, Cm.num]

set_option maxRecDepth 20000 in
set_option maxHeartbeats 1600000 in
theorem writeError_any (c : Cm) (w : World) :
    Calls Try.prog 7 #[cmV c] w fun e w' => e = .returned (.int .i64 (wrE c)) ∧ Below w.heap.size w w' := by
  cases ho : (decide (0 ≤ c.op) && decide (c.op ≤ 255))
  · have hno : wrE c = 3 := (wr_no (okCm_out (by rw [Bool.and_eq_false_iff, decide_eq_false_iff_not, decide_eq_false_iff_not] at ho; omega))).1
    rw [hno]
    go_enter Try.func7, Try.ntmps7
    go_wp2_with (go_at_call 23; refine (within_is c.op 0 255 _ ho _).mono ?_; rintro e w1 ⟨rfl, rfl⟩)
    go_ret
    exact ⟨rfl, bl1 w _⟩
  · have hop : 0 ≤ c.op ∧ c.op ≤ 255 := by simpa using ho
    go_enter Try.func7, Try.ntmps7
    go_wp2_with (first | (go_at_call 23; refine (within_is c.op 0 255 _ ho _).mono ?_; rintro e w1 ⟨rfl, rfl⟩) | (go_at_call 24; refine (numbersR_any c _).mono ?_; rintro e w2 ⟨rfl, hb2⟩))
    have hB0 : Below w.heap.size w w2 := (bl1 w _).trans (hb2.mono (by simp))
    have h9 : At9 (w2.alloc (.cells #[.int .i64 c.a, .int .i64 c.b, .int .i64 c.c, .int .i64 c.p, .int .i64 c.l, .int .i64 c.mn, .int .i64 c.mx, .int .i64 c.us, .int .i64 c.co] 50)) w2.heap.size c := heap_new _ rfl
    have hB1 := hB0.alloc hB0.size (.cells #[.int .i64 c.a, .int .i64 c.b, .int .i64 c.c, .int .i64 c.p, .int .i64 c.l, .int .i64 c.mn, .int .i64 c.mx, .int .i64 c.us, .int .i64 c.co] 50)
    go_loop [4] (fun i => ∃ k : Nat, k ≤ 9 ∧ i = .int .i64 k ∧ (∀ j, j < k → fits (c.num j) = true)) (fun i => 9 - (intOf i).toNat)
    case atStart => exact ⟨0, by omega, rfl, fun j hj => by omega⟩
    case round =>
      obtain ⟨k, hk, rfl, hf⟩ := hrel
      by_cases hlt : k < 9
      · have hlt' := hlt
        have hc := h9.cell k hlt
        cases hfk : fits (c.num k)
        · go_wp2_with (go_at_call 23; refine (within_is (c.num k) (-2147483648) 2147483647 _ hfk _).mono ?_; rintro e w3 ⟨rfl, rfl⟩)
          go_ret
          exact ⟨ret_int (wr_no (okCm_no hlt' hfk)).1.symm, hB1⟩
        · go_wp2_with (go_at_call 23; refine (within_is (c.num k) (-2147483648) 2147483647 _ hfk _).mono ?_; rintro e w3 ⟨rfl, rfl⟩)
          go_round
          case rel => exact ⟨k + 1, hlt', by go_num, fun j hj => by
            by_cases hj2 : j < k
            · exact hf j hj2
            · obtain rfl : j = k := by omega
              exact hfk⟩
          case measure => simp [intOf]; omega
      · obtain rfl : k = 9 := by omega
        go_wp2
        go_ret
        exact ⟨ret_int (wr_yes (okCm_yes hop.1 hop.2 hf)).1.symm, hB1⟩

theorem OB.ne {w : World} {base b : Nat} {v : Value} {xs : List Int} {cs : Array Value} {t : TypeId} {fr : Nat × Nat} (h : OB w base v xs) (hb : w.heap[b]? = some (.cells cs t fr)) (ht : t ≠ 5) : v.ownBlock ≠ some b := by
  rcases h.2 with ⟨rfl, -⟩ | ⟨g, cap, cur, rfl, -, h2, -⟩
  · simp [Value.ownBlock]
  · intro e
    simp only [Value.ownBlock, Option.some.injEq] at e
    rw [e, hb] at h2
    simp only [Option.some.injEq, Obj.cells.injEq] at h2
    exact ht h2.2.1
set_option maxRecDepth 20000 in
set_option maxHeartbeats 1600000 in
theorem cmdBytes_any (c : Cm) (w : World) :
    Calls Try.prog 8 #[cmV c] w fun e w' => e = .returned (.string (strOfNums (cmdB c))) ∧ Below w.heap.size w w' := by
  go_enter Try.func8, Try.ntmps8
  go_wp2_with (go_at_call 24; refine (numbersR_any c _).mono ?_; rintro e w2 ⟨rfl, hb2⟩)
  have hB0 : Below w.heap.size w w2 := (bl2 w _ _).trans (hb2.mono (by simp; omega))
  have hO0 : OB w2 w.heap.size (.slice (some ⟨w.heap.size + 1, 0, none⟩) 1 1) (cmdTo c 0) := (OB.one (w.alloc _) w.heap.size (w.heap.size + 1) (c.op % 256) (by simp) (by omega)).later hb2
  have h9 : At9 (w2.alloc (.cells #[.int .i64 c.a, .int .i64 c.b, .int .i64 c.c, .int .i64 c.p, .int .i64 c.l, .int .i64 c.mn, .int .i64 c.mx, .int .i64 c.us, .int .i64 c.co] 50)) w2.heap.size c := heap_new _ rfl
  have hB1 := hB0.alloc hB0.size (.cells #[.int .i64 c.a, .int .i64 c.b, .int .i64 c.c, .int .i64 c.p, .int .i64 c.l, .int .i64 c.mn, .int .i64 c.mx, .int .i64 c.us, .int .i64 c.co] 50)
  have hO1 := hO0.alloc (.cells #[.int .i64 c.a, .int .i64 c.b, .int .i64 c.c, .int .i64 c.p, .int .i64 c.l, .int .i64 c.mn, .int .i64 c.mx, .int .i64 c.us, .int .i64 c.co] 50)
  clear hb2 hO0
  go_loopw [3, 5] (fun v i wr => ∃ k : Nat, k ≤ 9 ∧ i = .int .i64 k ∧ OB wr w.heap.size v (cmdTo c k) ∧ Below w.heap.size w wr ∧ At9 wr w2.heap.size c) (fun _ i _ => 9 - (intOf i).toNat)
  case atStart => exact ⟨0, by omega, rfl, hO1, hB1, h9⟩
  case round =>
    obtain ⟨k, hk, rfl, hO, hB, h9'⟩ := hrel
    have hcl : (cmdTo c k).length ≤ 37 := by rw [cmdTo_len]; omega
    by_cases hlt : k < 9
    · have hlt' := hlt
      have hc := h9'.cell k hlt
      go_wp2_with (at_builtin; refine Hid.out ?_)
      unfold Hid
      refine wpList_append_ob rfl _ _ rfl w.heap.size _ _ rfl (hO.alloc _) wr.heap.size 4 4 (be4 (c.num k)) rfl rfl (fun i hi => ?_) (by omega) (by have := hB.size; simp; omega) ?_
      · unfold be4 at hi ⊢
        rcases i with _ | _ | _ | _ | i
        case succ.succ.succ.succ => simp only [List.length_cons, List.length_nil] at hi; omega
        all_goals simp [byt]
      · intro v' w' hO' hg
        have hB' := below_grown (hB.alloc hB.size _) hg (fun k e => (hO.lt k e).1)
        have h9'' : At9 w' w2.heap.size c := (hg.block _ (by have := (Array.getElem?_eq_some_iff.1 h9').1; simp; omega) (fun e => (hO.ne h9' (by decide)) e.symm)).trans (heap_old _ h9')
        go_wp2
        go_roundw
        case rel => exact ⟨k + 1, hlt', by go_num, hO', hB', h9''⟩
        case measure => simp [intOf]; omega
    · obtain rfl : k = 9 := by omega
      obtain ⟨g, cap, -, rfl, -⟩ := hO.shape (by simp [cmdTo])
      have hcv := convert_ob hO rfl
      go_wp2
      go_ret
      exact ⟨rfl, hB⟩
end Go.Proofs.Ytlledongbfjkiaa
