/- The law CidrChecks answers true, whatever it is handed. -/
import Derived.Test.YtgojhaicaolbaaaDoorI
namespace Go.Proofs.YtgojhaicaolbaaaDoor
open Go.RowKit

theorem size_no (a l : Int) (w : World) (h : rt a l = false) :
    Calls Tryd.prog 10 #[.agg #[.int .i64 a, .int .i64 l]] w fun e w' => e = .returned (.int .i64 0) ∧ Below w.heap.size w w' := by
  have k := size_any a l w
  rw [h] at k
  exact k
theorem size_yes (a l : Int) (w : World) (h : rt a l = true) :
    Calls Tryd.prog 10 #[.agg #[.int .i64 a, .int .i64 l]] w fun e w' => e = .returned (.int .i64 (sp l)) ∧ Below w.heap.size w w' := by
  have k := size_any a l w
  rw [h] at k
  exact k

theorem wrap_pow (l : Int) (h0 : 0 ≤ l) (h1 : l ≤ 16) : wrap64 (2 ^ (16 - l).toNat) = sp l := by
  rw [← sp_eq l h0 h1]
  have := sp_pos l
  have := sp_le l
  unfold wrap64
  omega

set_option maxHeartbeats 1600000 in
theorem checks_any (a l c m x : Int) (w : World) (hE : Env w) :
    Calls Tryd.prog 3 #[.agg #[.int .i64 a, .int .i64 l], .agg #[.int .i64 c, .int .i64 m], .int .i64 x] w fun e w' => e = .returned (.bool true) ∧ Below w.heap.size w w' := by
  cases h : rt a l
  · have hb := chk_ne h
    go_enter Tryd.func3, Tryd.ntmps3
    go_wp2_with fail
    refine (checkPrefix_any a l _).mono ?_
    rintro e w1 ⟨rfl, hb1⟩
    have e0 : w1.cell? ⟨w.heap.size, 0, none⟩ = some (.int .i64 a) := (hb1.cell (p := ⟨w.heap.size, 0, none⟩) (by simp; omega)).trans (by simp)
    have e1 : w1.cell? ⟨w.heap.size, 1, none⟩ = some (.int .i64 l) := (hb1.cell (p := ⟨w.heap.size, 1, none⟩) (by simp; omega)).trans (by simp)
    have e2 : w1.cell? ⟨w.heap.size + 1, 0, none⟩ = some (.int .i64 c) := (hb1.cell (p := ⟨w.heap.size + 1, 0, none⟩) (by simp)).trans (by simp)
    have e3 : w1.cell? ⟨w.heap.size + 1, 1, none⟩ = some (.int .i64 m) := (hb1.cell (p := ⟨w.heap.size + 1, 1, none⟩) (by simp)).trans (by simp)
    have d0 := Ws.cell (n := w.heap.size + 1 + 1) (w := w1) (by omega) e0
    have d1 := Ws.cell (n := w.heap.size + 1 + 1) (w := w1) (by omega) e1
    have d2 := Ws.cell (n := w.heap.size + 1 + 1) (w := w1) (by omega) e2
    have d3 := Ws.cell (n := w.heap.size + 1 + 1) (w := w1) (by omega) e3
    have hz := hb1.size
    simp only [World.size_alloc] at hz
    have hB := (bl2 w _ _).trans (hb1.mono (by simp; omega))
    have hE1 := hE.below hE.size hB
    have hEu : ∀ u : Ws (w.heap.size + 1 + 1) w1, Env u.val := fun u => hE1.below (by have := hE.size; omega) u.property
    clear hb1
    go_upto_region 5 with fail
    refine wp_region_ws (w.heap.size + 1 + 1) (by kernel_rfl) (by kernel_rfl) ?_
    clear e0 e1 e2 e3 hE1
    repeat (go_big_quiet_step (first | (go_at_call 8; exact Calls.in_ws (by omega) (begun_any _ (hEu _))) | (go_at_call 9; exact Calls.in_ws (by omega) (check_any _ _ _)) | (go_at_call 10; exact Calls.in_ws (by omega) (size_no a l _ h)) | (go_at_call 11; exact Calls.in_ws (by omega) (holds_any _ _ _ _)) | (go_at_call 12; exact Calls.in_ws (by omega) (holdsIt_any _ _ _ _)) | (go_at_call 13; exact Calls.in_ws (by omega) (inside_any _ _ _ _ _)) | (go_at_call 14; exact Calls.in_ws (by omega) (insideOf_any _ _ _ _ _)) | (go_at_call 15; exact Calls.in_ws (by omega) (meets_any _ _ _ _ _)) | (go_at_call 16; exact Calls.in_ws (by omega) (meet_any _ _ _ _ _))))
    refine wpQuiet_nil ?_
    rintro _ ⟨u, rfl⟩
    have hu := hB.trans (u.property.mono (by omega))
    go_wp2
    go_ret
    exact ⟨rfl, hu⟩
  · have hb : (chk a l == 0) = true := h
    obtain ⟨l0, l1, a0, a1, -⟩ := rt_range h
    go_enter Tryd.func3, Tryd.ntmps3
    go_wp2_with fail
    refine (checkPrefix_any a l _).mono ?_
    rintro e w1 ⟨rfl, hb1⟩
    have e0 : w1.cell? ⟨w.heap.size, 0, none⟩ = some (.int .i64 a) := (hb1.cell (p := ⟨w.heap.size, 0, none⟩) (by simp; omega)).trans (by simp)
    have e1 : w1.cell? ⟨w.heap.size, 1, none⟩ = some (.int .i64 l) := (hb1.cell (p := ⟨w.heap.size, 1, none⟩) (by simp; omega)).trans (by simp)
    have e2 : w1.cell? ⟨w.heap.size + 1, 0, none⟩ = some (.int .i64 c) := (hb1.cell (p := ⟨w.heap.size + 1, 0, none⟩) (by simp)).trans (by simp)
    have e3 : w1.cell? ⟨w.heap.size + 1, 1, none⟩ = some (.int .i64 m) := (hb1.cell (p := ⟨w.heap.size + 1, 1, none⟩) (by simp)).trans (by simp)
    have d0 := Ws.cell (n := w.heap.size + 1 + 1) (w := w1) (by omega) e0
    have d1 := Ws.cell (n := w.heap.size + 1 + 1) (w := w1) (by omega) e1
    have d2 := Ws.cell (n := w.heap.size + 1 + 1) (w := w1) (by omega) e2
    have d3 := Ws.cell (n := w.heap.size + 1 + 1) (w := w1) (by omega) e3
    have hz := hb1.size
    simp only [World.size_alloc] at hz
    have hB := (bl2 w _ _).trans (hb1.mono (by simp; omega))
    have hE1 := hE.below hE.size hB
    have hEu : ∀ u : Ws (w.heap.size + 1 + 1) w1, Env u.val := fun u => hE1.below (by have := hE.size; omega) u.property
    clear hb1
    go_upto_region 5 with fail
    rw [wrap_pow l l0 l1]
    refine wp_region_ws (w.heap.size + 1 + 1) (by kernel_rfl) (by kernel_rfl) ?_
    clear e0 e1 e2 e3 hE1
    repeat (go_big_quiet_step (first | (go_at_call 8; exact Calls.in_ws (by omega) (begun_any _ (hEu _))) | (go_at_call 9; exact Calls.in_ws (by omega) (check_any _ _ _)) | (go_at_call 10; exact Calls.in_ws (by omega) (size_yes a l _ h)) | (go_at_call 11; exact Calls.in_ws (by omega) (holds_any _ _ _ _)) | (go_at_call 12; exact Calls.in_ws (by omega) (holdsIt_any _ _ _ _)) | (go_at_call 13; exact Calls.in_ws (by omega) (inside_any _ _ _ _ _)) | (go_at_call 14; exact Calls.in_ws (by omega) (insideOf_any _ _ _ _ _)) | (go_at_call 15; exact Calls.in_ws (by omega) (meets_any _ _ _ _ _)) | (go_at_call 16; exact Calls.in_ws (by omega) (meet_any _ _ _ _ _))))
    refine wpQuiet_nil ?_
    rintro _ ⟨u, rfl⟩
    have hu := hB.trans (u.property.mono (by omega))
    go_wp2
    go_ret
    exact ⟨rfl, hu⟩
end Go.Proofs.YtgojhaicaolbaaaDoor
