/- What must be in any case of prefixes: cidrBegun answers true. -/
import Derived.Test.YtgojhaicaolbaaaDoorH
import Derived.Deep.Cut
namespace Go.Proofs.YtgojhaicaolbaaaDoor
open Go.RowKit

theorem dd_384 : showL 384 9 = [49, 46, 49, 50, 56, 47, 57] := by
  have h1 : Lib.decDigits 1 = [49] := by rw [Lib.decDigits]; rfl
  have h12 : Lib.decDigits 12 = [49, 50] := by rw [Lib.decDigits]; simp [h1]
  have h128 : Lib.decDigits 128 = [49, 50, 56] := by rw [Lib.decDigits]; simp [h12]
  have h9 : Lib.decDigits 9 = [57] := by rw [Lib.decDigits]; rfl
  show Lib.decDigits 1 ++ [46] ++ Lib.decDigits 128 ++ [47] ++ Lib.decDigits 9 = _
  rw [h1, h128, h9]
  rfl

theorem rt_256 : rt 256 8 = true := by decide
theorem rt_384 : rt 384 9 = true := by decide

theorem show_384 (w : World) (hE : Env w) : Calls Tryd.prog 20 #[.agg #[.int .i64 384, .int .i64 9]] w fun e w' => e = .returned (.tuple #[.string ⟨#[49, 46, 49, 50, 56, 47, 57]⟩, .int .i64 0]) ∧ Below w.heap.size w w' := by
  have h := show_ok 384 9 w hE rt_384
  rw [dd_384] at h
  exact h
theorem read_384 (w : World) (hE : Env w) : Calls Tryd.prog 22 #[.string ⟨#[49, 46, 49, 50, 56, 47, 57]⟩] w fun e w' => e = .returned (.tuple #[.agg #[.int .i64 384, .int .i64 9], .int .i64 0]) ∧ Below w.heap.size w w' := by
  have h := read_ok 384 9 w hE rt_384
  rw [dd_384] at h
  exact h
theorem halves_256 (w : World) : Calls Tryd.prog 17 #[.agg #[.int .i64 256, .int .i64 8]] w fun e w' => e = .returned (.tuple #[.agg #[.int .i64 256, .int .i64 9], .agg #[.int .i64 384, .int .i64 9], .int .i64 0]) ∧ Below w.heap.size w w' :=
  halves_ok 256 8 w rt_256 (by omega)
theorem up_384 (w : World) : Calls Tryd.prog 18 #[.agg #[.int .i64 384, .int .i64 9]] w fun e w' => e = .returned (.tuple #[.agg #[.int .i64 256, .int .i64 8], .int .i64 0]) ∧ Below w.heap.size w w' :=
  up_ok 384 9 w rt_384 (by omega)

theorem check_256 (w : World) : Calls Tryd.prog 9 #[.agg #[.int .i64 256, .int .i64 8]] w fun e w' => e = .returned (.int .i64 0) ∧ Below w.heap.size w w' := by
  have h := check_any 256 8 w
  rwa [show chk 256 8 = 0 from by decide] at h
theorem check_1 (w : World) : Calls Tryd.prog 9 #[.agg #[.int .i64 1, .int .i64 0]] w fun e w' => e = .returned (.int .i64 1) ∧ Below w.heap.size w w' := by
  have h := check_any 1 0 w
  rwa [show chk 1 0 = 1 from by decide] at h
theorem size_256 (w : World) : Calls Tryd.prog 10 #[.agg #[.int .i64 256, .int .i64 8]] w fun e w' => e = .returned (.int .i64 256) ∧ Below w.heap.size w w' := by
  have h := size_any 256 8 w
  rwa [show (if rt 256 8 = true then sp 8 else 0) = 256 from by decide] at h
theorem meets_256 (w : World) : Calls Tryd.prog 15 #[.agg #[.int .i64 256, .int .i64 8], .agg #[.int .i64 384, .int .i64 9]] w fun e w' => e = .returned (.bool true) ∧ Below w.heap.size w w' := by
  have h := meets_any 256 8 384 9 w
  rwa [show mts 256 8 384 9 = true from by decide] at h
theorem inside_384 (w : World) : Calls Tryd.prog 13 #[.agg #[.int .i64 384, .int .i64 9], .agg #[.int .i64 256, .int .i64 8]] w fun e w' => e = .returned (.bool true) ∧ Below w.heap.size w w' := by
  have h := inside_any 384 9 256 8 w
  rwa [show ins 384 9 256 8 = true from by decide] at h
theorem holds_256 (w : World) : Calls Tryd.prog 11 #[.agg #[.int .i64 256, .int .i64 8], .int .i64 511] w fun e w' => e = .returned (.bool true) ∧ Below w.heap.size w w' := by
  have h := holds_any 256 8 511 w
  rwa [show hld 256 8 511 = true from by decide] at h

theorem two_new (w : World) (x y : Obj) : Below w.heap.size w ((w.alloc x).alloc y) := bl2 w x y

set_option maxHeartbeats 1600000 in
theorem begun_any (w : World) (hE : Env w) :
    Calls Tryd.prog 8 #[] w fun e w' => e = .returned (.bool true) ∧ Below w.heap.size w w' := by
  go_enter Tryd.func8, Tryd.ntmps8
  go_wp2_with fail
  refine (halves_256 _).mono ?_
  rintro e w1 ⟨rfl, hb1⟩
  go_wp2_with fail
  refine (up_384 _).mono ?_
  rintro e w2 ⟨rfl, hb2⟩
  have D2 := hb1.trans (((bl2 w1 _ _).trans (hb2.mono (by simp; omega))).mono hb1.size)
  have c3a : w2.cell? ⟨w1.heap.size + 1, 0, none⟩ = some (.int .i64 384) := (hb2.cell (p := ⟨w1.heap.size + 1, 0, none⟩) (by simp)).trans (by simp)
  have c3b : w2.cell? ⟨w1.heap.size + 1, 1, none⟩ = some (.int .i64 9) := (hb2.cell (p := ⟨w1.heap.size + 1, 1, none⟩) (by simp)).trans (by simp)
  have hz2 := hb2.size
  simp only [World.size_alloc] at hz2
  have k3a : ∀ o, (w2.alloc o).cell? ⟨w1.heap.size + 1, 0, none⟩ = some (.int .i64 384) := fun o => ((bl1 w2 o).cell (p := ⟨w1.heap.size + 1, 0, none⟩) (by show w1.heap.size + 1 < _; omega)).trans c3a
  have k3b : ∀ o, (w2.alloc o).cell? ⟨w1.heap.size + 1, 1, none⟩ = some (.int .i64 9) := fun o => ((bl1 w2 o).cell (p := ⟨w1.heap.size + 1, 1, none⟩) (by show w1.heap.size + 1 < _; omega)).trans c3b
  have hE2 := hE.below hE.size ((bl1 w _).trans (D2.mono (by simp)))
  go_wp2_with fail
  refine (show_384 _ (hE2.below hE2.size (bl1 _ _))).mono ?_
  rintro e w3 ⟨rfl, hb3⟩
  have hE3 := hE2.below hE2.size ((bl1 w2 _).trans (hb3.mono (by simp)))
  go_wp2_with fail
  refine (read_384 _ hE3).mono ?_
  rintro e w4 ⟨rfl, hb4⟩
  have F4 := hb3.trans (hb4.mono hb3.size)
  have D4 := hb2.trans (((bl1 w2 _).trans (F4.mono (by simp))).mono hb2.size)
  have C4 := hb1.trans (((bl2 w1 _ _).trans (D4.mono (by simp; omega))).mono hb1.size)
  have z1 := hb1.size
  have z4 := F4.size
  simp only [World.size_alloc] at z1 z4
  clear hb3 hb4 hE2 hE3 D2 c3a c3b k3a k3b hE hb1 hb2
  go_upto_region 6 with fail
  have G4 := bl1 w4 (.cells #[.int .i64 384, .int .i64 9] 23)
  have a0 : ∀ u : Ws (w4.heap.size + 1) (w4.alloc (.cells #[.int .i64 384, .int .i64 9] 23)), u.val.cell? ⟨w.heap.size, 0, none⟩ = some (.int .i64 256) :=
    Ws.cell (by omega) ((G4.cell (p := ⟨w.heap.size, 0, none⟩) (by show w.heap.size < _; omega)).trans ((C4.cell (p := ⟨w.heap.size, 0, none⟩) (by simp)).trans (by simp)))
  have a1 : ∀ u : Ws (w4.heap.size + 1) (w4.alloc (.cells #[.int .i64 384, .int .i64 9] 23)), u.val.cell? ⟨w.heap.size, 1, none⟩ = some (.int .i64 8) :=
    Ws.cell (by omega) ((G4.cell (p := ⟨w.heap.size, 1, none⟩) (by show w.heap.size < _; omega)).trans ((C4.cell (p := ⟨w.heap.size, 1, none⟩) (by simp)).trans (by simp)))
  have b0 : ∀ u : Ws (w4.heap.size + 1) (w4.alloc (.cells #[.int .i64 384, .int .i64 9] 23)), u.val.cell? ⟨w1.heap.size, 0, none⟩ = some (.int .i64 256) :=
    Ws.cell (by omega) ((G4.cell (p := ⟨w1.heap.size, 0, none⟩) (by show w1.heap.size < _; omega)).trans ((D4.cell (p := ⟨w1.heap.size, 0, none⟩) (by simp; omega)).trans (by simp)))
  have b2 : ∀ u : Ws (w4.heap.size + 1) (w4.alloc (.cells #[.int .i64 384, .int .i64 9] 23)), u.val.cell? ⟨w1.heap.size + 1, 0, none⟩ = some (.int .i64 384) :=
    Ws.cell (by omega) ((G4.cell (p := ⟨w1.heap.size + 1, 0, none⟩) (by show w1.heap.size + 1 < _; omega)).trans ((D4.cell (p := ⟨w1.heap.size + 1, 0, none⟩) (by simp)).trans (by simp)))
  have b3 : ∀ u : Ws (w4.heap.size + 1) (w4.alloc (.cells #[.int .i64 384, .int .i64 9] 23)), u.val.cell? ⟨w1.heap.size + 1, 1, none⟩ = some (.int .i64 9) :=
    Ws.cell (by omega) ((G4.cell (p := ⟨w1.heap.size + 1, 1, none⟩) (by show w1.heap.size + 1 < _; omega)).trans ((D4.cell (p := ⟨w1.heap.size + 1, 1, none⟩) (by simp)).trans (by simp)))
  have d0 : ∀ u : Ws (w4.heap.size + 1) (w4.alloc (.cells #[.int .i64 384, .int .i64 9] 23)), u.val.cell? ⟨w2.heap.size, 0, none⟩ = some (.int .i64 256) :=
    Ws.cell (by omega) ((G4.cell (p := ⟨w2.heap.size, 0, none⟩) (by show w2.heap.size < _; omega)).trans ((F4.cell (p := ⟨w2.heap.size, 0, none⟩) (by simp)).trans (by simp)))
  have d1 : ∀ u : Ws (w4.heap.size + 1) (w4.alloc (.cells #[.int .i64 384, .int .i64 9] 23)), u.val.cell? ⟨w2.heap.size, 1, none⟩ = some (.int .i64 8) :=
    Ws.cell (by omega) ((G4.cell (p := ⟨w2.heap.size, 1, none⟩) (by show w2.heap.size < _; omega)).trans ((F4.cell (p := ⟨w2.heap.size, 1, none⟩) (by simp)).trans (by simp)))
  have f0 : ∀ u : Ws (w4.heap.size + 1) (w4.alloc (.cells #[.int .i64 384, .int .i64 9] 23)), u.val.cell? ⟨w4.heap.size, 0, none⟩ = some (.int .i64 384) :=
    Ws.cell (by omega) (by simp)
  have f1 : ∀ u : Ws (w4.heap.size + 1) (w4.alloc (.cells #[.int .i64 384, .int .i64 9] 23)), u.val.cell? ⟨w4.heap.size, 1, none⟩ = some (.int .i64 9) :=
    Ws.cell (by omega) (by simp)
  have hB : Below w.heap.size w (w4.alloc (.cells #[.int .i64 384, .int .i64 9] 23)) := (bl1 w _).trans ((C4.mono (by simp)).trans (G4.mono (by omega)))
  clear C4 D4 F4 G4
  refine wp_region_wf (w4.heap.size + 1) ?_
  repeat (go_big_quiet_step (first | (go_at_call_of 9 (256 : Int); exact Calls.in_ws (by simp) (check_256 _)) | (go_at_call 9; exact Calls.in_ws (by simp) (check_1 _)) | (go_at_call 10; exact Calls.in_ws (by simp) (size_256 _)) | (go_at_call 15; exact Calls.in_ws (by simp) (meets_256 _)) | (go_at_call 13; exact Calls.in_ws (by simp) (inside_384 _)) | (go_at_call 11; exact Calls.in_ws (by simp) (holds_256 _))))
  refine wpQuiet_nil ?_
  rintro _ ⟨u, rfl⟩
  have hu := hB.trans (u.property.mono (by omega))
  go_wp2
  go_ret
  exact ⟨rfl, hu⟩
end Go.Proofs.YtgojhaicaolbaaaDoor
