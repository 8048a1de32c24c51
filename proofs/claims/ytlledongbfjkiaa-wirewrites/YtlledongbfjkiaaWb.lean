/- What slices.Reverse at four bytes of the call's own, numbers and Write of package wire come to. -/
import Derived.Test.YtlledongbfjkiaaWa
namespace Go.Proofs.Ytlledongbfjkiaa
open Go.RowKit

def swap4 (w : World) (g : Nat) (x0 x1 x2 x3 : Int) : World :=
  ((((w.setCell ⟨g, 0, none⟩ (.int .u8 x3)).setCell ⟨g, 3, none⟩ (.int .u8 x0)).setCell ⟨g, 1, none⟩ (.int .u8 x2)).setCell ⟨g, 2, none⟩ (.int .u8 x1)).drew.drew
set_option maxRecDepth 20000 in
set_option maxHeartbeats 800000 in
theorem reverse4 (g cap : Nat) (x0 x1 x2 x3 : Int) (w : World) (c0 : w.cell? ⟨g, 0, none⟩ = some (.int .u8 x0)) (c1 : w.cell? ⟨g, 1, none⟩ = some (.int .u8 x1)) (c2 : w.cell? ⟨g, 2, none⟩ = some (.int .u8 x2)) (c3 : w.cell? ⟨g, 3, none⟩ = some (.int .u8 x3))
    (f0 : w.frozen? ⟨g, 0, none⟩ = false) (f1 : w.frozen? ⟨g, 1, none⟩ = false) (f2 : w.frozen? ⟨g, 2, none⟩ = false) (f3 : w.frozen? ⟨g, 3, none⟩ = false) :
    Calls Try.prog 22 #[.slice (some ⟨g, 0, none⟩) 4 cap] w fun e w' => e = .returned (.tuple #[]) ∧ w' = swap4 w g x0 x1 x2 x3 := by
  go_enter Try.func22, Try.ntmps22
  go_wp2
  refine wp_loop_rounds 3 ?_
  rw [rounds_succ]
  go_wp2
  go_region
  go_wp2
  rw [rounds_succ]
  go_wp2
  go_region
  go_wp2
  rw [rounds_succ]
  go_wp2
  go_end0
  exact ⟨rfl, rfl⟩
theorem swap4_grown (w : World) (g : Nat) (x0 x1 x2 x3 : Int) : w.grownBy (swap4 w g x0 x1 x2 x3) (some g) := by
  refine ⟨rfl, rfl, rfl, by simp [swap4], fun k _ hne => ?_⟩
  have hk : k ≠ g := fun e => hne (by rw [e])
  show ((((w.setCell ⟨g, 0, none⟩ (.int .u8 x3)).setCell ⟨g, 3, none⟩ (.int .u8 x0)).setCell ⟨g, 1, none⟩ (.int .u8 x2)).setCell ⟨g, 2, none⟩ (.int .u8 x1)).heap[k]? = _
  rw [heap_setCell_other _ _ _ _ hk, heap_setCell_other _ _ _ _ hk, heap_setCell_other _ _ _ _ hk, heap_setCell_other _ _ _ _ hk]
theorem take_4 {l : List Value} {a b c d : Value} (h : l.take 4 = [a, b, c, d]) : ∃ r, l = a :: b :: c :: d :: r := by
  rcases l with _ | ⟨p, _ | ⟨q, _ | ⟨r, _ | ⟨s, t⟩⟩⟩⟩
  all_goals simp at h
  obtain ⟨rfl, rfl, rfl, rfl⟩ := h
  exact ⟨t, rfl⟩
theorem swap4_own {w : World} {base g cap : Nat} {x0 x1 x2 x3 : Int} (h : OB w base (.slice (some ⟨g, 0, none⟩) 4 cap) [x0, x1, x2, x3]) : OB (swap4 w g x0 x1 x2 x3) base (.slice (some ⟨g, 0, none⟩) 4 cap) [x3, x2, x1, x0] := by
  rcases h.2 with ⟨hv, -⟩ | ⟨g', cap', cur, hv, h1, h2, h3, h4, h5, h6⟩
  · simp at hv
  · simp only [Value.slice.injEq, Option.some.injEq, Addr.mk.injEq] at hv
    obtain ⟨⟨rfl, -⟩, -, rfl⟩ := hv
    refine ⟨rfl, .inr ⟨g, cap, (((cur.setIfInBounds 0 (.int .u8 x3)).setIfInBounds 3 (.int .u8 x0)).setIfInBounds 1 (.int .u8 x2)).setIfInBounds 2 (.int .u8 x1), rfl, h1, ?_, h3, h4, by simpa using h5, ?_⟩⟩
    · have e0 := heap_setCell_same w g 0 _ 5 (.int .u8 x3) h2
      have e1 := heap_setCell_same _ g 3 _ 5 (.int .u8 x0) e0
      have e2 := heap_setCell_same _ g 1 _ 5 (.int .u8 x2) e1
      exact heap_setCell_same _ g 2 _ 5 (.int .u8 x1) e2
    · obtain ⟨r, hr⟩ := take_4 h6
      simp [hr]

theorem OB.frozen {w : World} {base g n cap : Nat} {xs : List Int} (h : OB w base (.slice (some ⟨g, 0, none⟩) n cap) xs) (i : Nat) : w.frozen? ⟨g, i, none⟩ = false := by
  rcases h.2 with ⟨hv, -⟩ | ⟨g', cap', cur, hv, h1, h2, h3, h4, h5, h6⟩
  · simp at hv
  · simp only [Value.slice.injEq, Option.some.injEq, Addr.mk.injEq] at hv
    obtain ⟨⟨rfl, -⟩, -, rfl⟩ := hv
    simp [World.frozen?, h2]
theorem reverse_own {base g cap : Nat} {x0 x1 x2 x3 : Int} {w : World} (h : OB w base (.slice (some ⟨g, 0, none⟩) 4 cap) [x0, x1, x2, x3]) :
    Calls Try.prog 22 #[.slice (some ⟨g, 0, none⟩) 4 cap] w fun e w' => e = .returned (.tuple #[]) ∧ OB w' base (.slice (some ⟨g, 0, none⟩) 4 cap) [x3, x2, x1, x0] ∧ w.grownBy w' (some g) := by
  refine (reverse4 g cap x0 x1 x2 x3 w (h.cell 0 (by simp)) (h.cell 1 (by simp)) (h.cell 2 (by simp)) (h.cell 3 (by simp)) (h.frozen 0) (h.frozen 1) (h.frozen 2) (h.frozen 3)).mono ?_
  rintro e w' ⟨rfl, rfl⟩
  exact ⟨rfl, swap4_own h, swap4_grown _ _ _ _ _ _⟩

/-- A command as a value, as cells; its numbers. -/
abbrev cmV (c : Cm) : Value := .agg #[.int .i64 c.op, .int .i64 c.a, .int .i64 c.b, .int .i64 c.c, .int .i64 c.p, .int .i64 c.l, .int .i64 c.mn, .int .i64 c.mx, .int .i64 c.us, .int .i64 c.co]
abbrev nmV (c : Cm) : Value := .agg #[.int .i64 c.a, .int .i64 c.b, .int .i64 c.c, .int .i64 c.p, .int .i64 c.l, .int .i64 c.mn, .int .i64 c.mx, .int .i64 c.us, .int .i64 c.co]

set_option maxRecDepth 20000 in
set_option maxHeartbeats 800000 in
theorem numbers_any (c : Cm) (w : World) :
    Calls Try.prog 20 #[cmV c] w fun e w' => e = .returned (nmV c) ∧ Below w.heap.size w w' := by
  go_enter Try.func20, Try.ntmps20
  go_wp2
  exact bodyPost_ret (v := nmV c) (by simp [results, Try.results20, go_sem]) rfl ⟨rfl, bl2 w _ _⟩
set_option maxRecDepth 20000 in
set_option maxHeartbeats 800000 in
theorem numbersR_any (c : Cm) (w : World) :
    Calls Try.prog 24 #[cmV c] w fun e w' => e = .returned (nmV c) ∧ Below w.heap.size w w' := by
  go_enter Try.func24, Try.ntmps24
  go_wp2
  exact bodyPost_ret (v := nmV c) (by simp [results, Try.results24, go_sem]) rfl ⟨rfl, bl2 w _ _⟩
theorem idx9 (c : Cm) (k : Nat) (hk : k < 9) (w : World) : (Instr.index 50 (nmV c) (.int .i64 k)).run Try.prog w = .ok (.int .i64 (c.num k)) w := by
  rcases k with _ | _ | _ | _ | _ | _ | _ | _ | _ | k
  case succ.succ.succ.succ.succ.succ.succ.succ.succ => omega
  all_goals kernel_rfl

end Go.Proofs.Ytlledongbfjkiaa
