/- The law CidrTurns answers true, whatever it is handed. -/
import Derived.Test.YtgojhaicaolbaaaDoorI
namespace Go.Proofs.YtgojhaicaolbaaaDoor
open Go.RowKit

theorem bl3 (w : World) (o p q : Obj) : Below w.heap.size w (((w.alloc o).alloc p).alloc q) := (bl2 w o p).alloc (by simp; omega) _

/-- An old cell, in every world of the class. -/
theorem Ws.old {n : Nat} {w w0 : World} {b o : Nat} {v : Value} (h : w0.cell? ⟨b, o, none⟩ = some v) (hB : Below w0.heap.size w0 w) (hn : w0.heap.size ≤ n) (u : Ws n w) : u.val.cell? ⟨b, o, none⟩ = some v := by
  have hl : b < w0.heap.size := block_lt_of_cell h
  exact Ws.cell (by omega) (cell_later hB h) u

theorem wrap_half (a l : Int) (h0 : 0 ≤ l) (h1 : l < 16) (a0 : 0 ≤ a) (a1 : a ≤ 65535) : IntKind.i64.wrap (a + IntKind.i64.wrap (2 ^ ((16 - l).toNat - 1))) = a + sp (l + 1) := by
  have e : (16 - l).toNat - 1 = (16 - (l + 1)).toNat := by omega
  rw [e, ← sp_eq (l + 1) (by omega) (by omega)]
  have := sp_pos (l + 1)
  have := sp_le (l + 1)
  rw [IntKind.wrap_i64, IntKind.wrap_i64]
  omega

theorem up_0' (a l : Int) (w : World) (h : rt a l = true) (hl : l = 0) :
    Calls Tryd.prog 18 #[.agg #[.int .i64 a, .int .i64 l]] w fun e w' => e = .returned (.tuple #[.agg #[.int .i64 0, .int .i64 0], .int .i64 3]) ∧ Below w.heap.size w w' := by
  subst hl
  exact up_0 a w h
theorem halves_16' (a l : Int) (w : World) (h : rt a l = true) (hl : l = 16) :
    Calls Tryd.prog 17 #[.agg #[.int .i64 a, .int .i64 l]] w fun e w' => e = .returned (.tuple #[.agg #[.int .i64 0, .int .i64 0], .agg #[.int .i64 0, .int .i64 0], .int .i64 3]) ∧ Below w.heap.size w w' := by
  subst hl
  exact halves_16 a w h

set_option maxHeartbeats 1600000 in
theorem turns_bad (a l : Int) (w : World) (hE : Env w) (h : rt a l = false) :
    Calls Tryd.prog 4 #[.agg #[.int .i64 a, .int .i64 l]] w fun e w' => e = .returned (.bool true) ∧ Below w.heap.size w w' := by
  have hb := chk_ne h
  go_enter Tryd.func4, Tryd.ntmps4
  go_wp2_with fail
  refine (halves_bad a l _ h).mono ?_
  rintro e w1 ⟨rfl, hb1⟩
  have p0 : w1.cell? ⟨w.heap.size, 0, none⟩ = some (.int .i64 a) := (hb1.cell (p := ⟨w.heap.size, 0, none⟩) (by simp)).trans (by simp)
  have p1 : w1.cell? ⟨w.heap.size, 1, none⟩ = some (.int .i64 l) := (hb1.cell (p := ⟨w.heap.size, 1, none⟩) (by simp)).trans (by simp)
  have hB1 : Below w.heap.size w w1 := (bl1 w _).trans (hb1.mono (by simp))
  have k0 : ∀ o p, ((w1.alloc o).alloc p).cell? ⟨w.heap.size, 0, none⟩ = some (.int .i64 a) := fun o p => cell_later (bl2 w1 o p) p0
  have k1 : ∀ o p, ((w1.alloc o).alloc p).cell? ⟨w.heap.size, 1, none⟩ = some (.int .i64 l) := fun o p => cell_later (bl2 w1 o p) p1
  clear hb1
  go_wp2_with fail
  refine (up_bad a l _ h).mono ?_
  rintro e w2 ⟨rfl, hb2⟩
  clear k0 k1
  have hC2 : Below w1.heap.size w1 w2 := (bl2 w1 _ _).trans (hb2.mono (by simp; omega))
  have hB2 : Below w.heap.size w w2 := hB1.trans (hC2.mono hB1.size)
  have q0 : w2.cell? ⟨w.heap.size, 0, none⟩ = some (.int .i64 a) := cell_later hC2 p0
  have q1 : w2.cell? ⟨w.heap.size, 1, none⟩ = some (.int .i64 l) := cell_later hC2 p1
  have l0 : w2.cell? ⟨w1.heap.size, 0, none⟩ = some (.int .i64 0) := (hb2.cell (p := ⟨w1.heap.size, 0, none⟩) (by simp; omega)).trans (by simp)
  have l1 : w2.cell? ⟨w1.heap.size, 1, none⟩ = some (.int .i64 0) := (hb2.cell (p := ⟨w1.heap.size, 1, none⟩) (by simp; omega)).trans (by simp)
  have h0 : w2.cell? ⟨w1.heap.size + 1, 0, none⟩ = some (.int .i64 0) := (hb2.cell (p := ⟨w1.heap.size + 1, 0, none⟩) (by simp)).trans (by simp)
  have h1 : w2.cell? ⟨w1.heap.size + 1, 1, none⟩ = some (.int .i64 0) := (hb2.cell (p := ⟨w1.heap.size + 1, 1, none⟩) (by simp)).trans (by simp)
  have k0 : ∀ o, (w2.alloc o).cell? ⟨w.heap.size, 0, none⟩ = some (.int .i64 a) := fun o => cell_later (bl1 w2 o) q0
  have k1 : ∀ o, (w2.alloc o).cell? ⟨w.heap.size, 1, none⟩ = some (.int .i64 l) := fun o => cell_later (bl1 w2 o) q1
  clear hb2 p0 p1
  go_wp2_with fail
  refine (checkPrefix_any a l _).mono ?_
  rintro e w3 ⟨rfl, hb3⟩
  clear k0 k1
  have hC3 : Below w2.heap.size w2 w3 := (bl1 w2 _).trans (hb3.mono (by simp))
  have hB3 : Below w.heap.size w w3 := hB2.trans (hC3.mono hB2.size)
  have r0 : w3.cell? ⟨w.heap.size, 0, none⟩ = some (.int .i64 a) := cell_later hC3 q0
  have r1 : w3.cell? ⟨w.heap.size, 1, none⟩ = some (.int .i64 l) := cell_later hC3 q1
  have l2 := cell_later hC3 l0
  have l3 := cell_later hC3 l1
  have h2 := cell_later hC3 h0
  have h3 := cell_later hC3 h1
  have u0 : w3.cell? ⟨w2.heap.size, 0, none⟩ = some (.int .i64 0) := (hb3.cell (p := ⟨w2.heap.size, 0, none⟩) (by simp)).trans (by simp)
  have u1 : w3.cell? ⟨w2.heap.size, 1, none⟩ = some (.int .i64 0) := (hb3.cell (p := ⟨w2.heap.size, 1, none⟩) (by simp)).trans (by simp)
  clear hb3 hC2 hC3 hB1 hB2 q0 q1 l0 l1 h0 h1
  have k0 : ∀ o p q, (((w3.alloc o).alloc p).alloc q).cell? ⟨w.heap.size, 0, none⟩ = some (.int .i64 a) := fun o p q => cell_later (bl3 w3 o p q) r0
  have k1 : ∀ o p q, (((w3.alloc o).alloc p).alloc q).cell? ⟨w.heap.size, 1, none⟩ = some (.int .i64 l) := fun o p q => cell_later (bl3 w3 o p q) r1
  go_upto_region 15 with fail
  clear k0 k1
  have m1 : w1.heap.size < w3.heap.size := block_lt_of_cell l2
  have m2 : w1.heap.size + 1 < w3.heap.size := block_lt_of_cell h2
  have m3 : w2.heap.size < w3.heap.size := block_lt_of_cell u0
  have hBf : Below w.heap.size w (((w3.alloc (.cells #[.int .i64 0, .int .i64 0] 23)).alloc (.cells #[.int .i64 0, .int .i64 0] 23)).alloc (.cells #[.int .i64 0, .int .i64 0] 23)) := hB3.trans ((bl3 w3 _ _ _).mono hB3.size)
  have hEf := hE.below hE.size hBf
  have hsz : w3.heap.size + 1 + 1 + 1 ≤ (((w3.alloc (.cells #[.int .i64 0, .int .i64 0] 23)).alloc (.cells #[.int .i64 0, .int .i64 0] 23)).alloc (.cells #[.int .i64 0, .int .i64 0] 23)).heap.size := by simp
  have z3 := hB3.size
  have hEu : ∀ u : Ws (w3.heap.size + 1 + 1 + 1) (((w3.alloc (.cells #[.int .i64 0, .int .i64 0] 23)).alloc (.cells #[.int .i64 0, .int .i64 0] 23)).alloc (.cells #[.int .i64 0, .int .i64 0] 23)), Env u.val := fun u => hEf.below (by have := hE.size; omega) u.property
  have g0 : ∀ u : Ws (w3.heap.size + 1 + 1 + 1) (((w3.alloc (.cells #[.int .i64 0, .int .i64 0] 23)).alloc (.cells #[.int .i64 0, .int .i64 0] 23)).alloc (.cells #[.int .i64 0, .int .i64 0] 23)), u.val.cell? ⟨w1.heap.size, 0, none⟩ = some (.int .i64 0) := Ws.cell (by omega) (cell_later (bl3 w3 _ _ _) l2)
  have g1 : ∀ u : Ws (w3.heap.size + 1 + 1 + 1) (((w3.alloc (.cells #[.int .i64 0, .int .i64 0] 23)).alloc (.cells #[.int .i64 0, .int .i64 0] 23)).alloc (.cells #[.int .i64 0, .int .i64 0] 23)), u.val.cell? ⟨w1.heap.size, 1, none⟩ = some (.int .i64 0) := Ws.cell (by omega) (cell_later (bl3 w3 _ _ _) l3)
  have g2 : ∀ u : Ws (w3.heap.size + 1 + 1 + 1) (((w3.alloc (.cells #[.int .i64 0, .int .i64 0] 23)).alloc (.cells #[.int .i64 0, .int .i64 0] 23)).alloc (.cells #[.int .i64 0, .int .i64 0] 23)), u.val.cell? ⟨w1.heap.size + 1, 0, none⟩ = some (.int .i64 0) := Ws.cell (by omega) (cell_later (bl3 w3 _ _ _) h2)
  have g3 : ∀ u : Ws (w3.heap.size + 1 + 1 + 1) (((w3.alloc (.cells #[.int .i64 0, .int .i64 0] 23)).alloc (.cells #[.int .i64 0, .int .i64 0] 23)).alloc (.cells #[.int .i64 0, .int .i64 0] 23)), u.val.cell? ⟨w1.heap.size + 1, 1, none⟩ = some (.int .i64 0) := Ws.cell (by omega) (cell_later (bl3 w3 _ _ _) h3)
  have g4 : ∀ u : Ws (w3.heap.size + 1 + 1 + 1) (((w3.alloc (.cells #[.int .i64 0, .int .i64 0] 23)).alloc (.cells #[.int .i64 0, .int .i64 0] 23)).alloc (.cells #[.int .i64 0, .int .i64 0] 23)), u.val.cell? ⟨w2.heap.size, 0, none⟩ = some (.int .i64 0) := Ws.cell (by omega) (cell_later (bl3 w3 _ _ _) u0)
  have g5 : ∀ u : Ws (w3.heap.size + 1 + 1 + 1) (((w3.alloc (.cells #[.int .i64 0, .int .i64 0] 23)).alloc (.cells #[.int .i64 0, .int .i64 0] 23)).alloc (.cells #[.int .i64 0, .int .i64 0] 23)), u.val.cell? ⟨w2.heap.size, 1, none⟩ = some (.int .i64 0) := Ws.cell (by omega) (cell_later (bl3 w3 _ _ _) u1)
  have g6 : ∀ u : Ws (w3.heap.size + 1 + 1 + 1) (((w3.alloc (.cells #[.int .i64 0, .int .i64 0] 23)).alloc (.cells #[.int .i64 0, .int .i64 0] 23)).alloc (.cells #[.int .i64 0, .int .i64 0] 23)), u.val.cell? ⟨w3.heap.size, 0, none⟩ = some (.int .i64 0) := Ws.cell (by omega) (by go_simp)
  have g7 : ∀ u : Ws (w3.heap.size + 1 + 1 + 1) (((w3.alloc (.cells #[.int .i64 0, .int .i64 0] 23)).alloc (.cells #[.int .i64 0, .int .i64 0] 23)).alloc (.cells #[.int .i64 0, .int .i64 0] 23)), u.val.cell? ⟨w3.heap.size, 1, none⟩ = some (.int .i64 0) := Ws.cell (by omega) (by go_simp)
  have g8 : ∀ u : Ws (w3.heap.size + 1 + 1 + 1) (((w3.alloc (.cells #[.int .i64 0, .int .i64 0] 23)).alloc (.cells #[.int .i64 0, .int .i64 0] 23)).alloc (.cells #[.int .i64 0, .int .i64 0] 23)), u.val.cell? ⟨w3.heap.size + 1, 0, none⟩ = some (.int .i64 0) := Ws.cell (by omega) (by go_simp)
  have g9 : ∀ u : Ws (w3.heap.size + 1 + 1 + 1) (((w3.alloc (.cells #[.int .i64 0, .int .i64 0] 23)).alloc (.cells #[.int .i64 0, .int .i64 0] 23)).alloc (.cells #[.int .i64 0, .int .i64 0] 23)), u.val.cell? ⟨w3.heap.size + 1, 1, none⟩ = some (.int .i64 0) := Ws.cell (by omega) (by go_simp)
  have g10 : ∀ u : Ws (w3.heap.size + 1 + 1 + 1) (((w3.alloc (.cells #[.int .i64 0, .int .i64 0] 23)).alloc (.cells #[.int .i64 0, .int .i64 0] 23)).alloc (.cells #[.int .i64 0, .int .i64 0] 23)), u.val.cell? ⟨w3.heap.size + 1 + 1, 0, none⟩ = some (.int .i64 0) := Ws.cell (by omega) (by go_simp)
  have g11 : ∀ u : Ws (w3.heap.size + 1 + 1 + 1) (((w3.alloc (.cells #[.int .i64 0, .int .i64 0] 23)).alloc (.cells #[.int .i64 0, .int .i64 0] 23)).alloc (.cells #[.int .i64 0, .int .i64 0] 23)), u.val.cell? ⟨w3.heap.size + 1 + 1, 1, none⟩ = some (.int .i64 0) := Ws.cell (by omega) (by go_simp)
  clear hEf
  refine wp_region_wf (w3.heap.size + 1 + 1 + 1) ?_
  repeat (go_big_quiet_step ((go_at_call 8; exact Calls.in_ws hsz (begun_any _ (hEu _)))))
  refine wpQuiet_nil ?_
  rintro _ ⟨u, rfl⟩
  have hu := hBf.trans (u.property.mono (by omega))
  go_wp2
  go_ret
  exact ⟨rfl, hu⟩

set_option maxHeartbeats 1600000 in
theorem turns_0 (a l : Int) (w : World) (hE : Env w) (h : rt a l = true) (h0 : l ≤ 0) :
    Calls Tryd.prog 4 #[.agg #[.int .i64 a, .int .i64 l]] w fun e w' => e = .returned (.bool true) ∧ Below w.heap.size w w' := by
  have hc0 := chk_of_rt h
  have hb : (chk a l == 0) = true := by simp [hc0]
  clear hc0
  obtain ⟨b0, b1, a0, a1, -⟩ := rt_range h
  have hl16 : (l == 16) = false := by simp; omega
  have hl0 : (l == 0) = true := by simp; omega
  have hb' : ((0 : Int) == chk a l) = true := by simp [chk_of_rt h]
  have hp := sp_pos (l + 1)
  have hq := sp_le (l + 1)
  go_enter Tryd.func4, Tryd.ntmps4
  go_wp2_with fail
  refine (halves_ok a l _ h (by omega)).mono ?_
  rintro e w1 ⟨rfl, hb1⟩
  have p0 : w1.cell? ⟨w.heap.size, 0, none⟩ = some (.int .i64 a) := (hb1.cell (p := ⟨w.heap.size, 0, none⟩) (by simp)).trans (by simp)
  have p1 : w1.cell? ⟨w.heap.size, 1, none⟩ = some (.int .i64 l) := (hb1.cell (p := ⟨w.heap.size, 1, none⟩) (by simp)).trans (by simp)
  have hB1 : Below w.heap.size w w1 := (bl1 w _).trans (hb1.mono (by simp))
  have k0 : ∀ o p, ((w1.alloc o).alloc p).cell? ⟨w.heap.size, 0, none⟩ = some (.int .i64 a) := fun o p => cell_later (bl2 w1 o p) p0
  have k1 : ∀ o p, ((w1.alloc o).alloc p).cell? ⟨w.heap.size, 1, none⟩ = some (.int .i64 l) := fun o p => cell_later (bl2 w1 o p) p1
  clear hb1
  go_wp2_with fail
  refine (up_0' a l _ h (by omega)).mono ?_
  rintro e w2 ⟨rfl, hb2⟩
  clear k0 k1
  have hC2 : Below w1.heap.size w1 w2 := (bl2 w1 _ _).trans (hb2.mono (by simp; omega))
  have hB2 : Below w.heap.size w w2 := hB1.trans (hC2.mono hB1.size)
  have q0 : w2.cell? ⟨w.heap.size, 0, none⟩ = some (.int .i64 a) := cell_later hC2 p0
  have q1 : w2.cell? ⟨w.heap.size, 1, none⟩ = some (.int .i64 l) := cell_later hC2 p1
  have l0 : w2.cell? ⟨w1.heap.size, 0, none⟩ = some (.int .i64 a) := (hb2.cell (p := ⟨w1.heap.size, 0, none⟩) (by simp; omega)).trans (by simp)
  have l1 : w2.cell? ⟨w1.heap.size, 1, none⟩ = some (.int .i64 (l + 1)) := (hb2.cell (p := ⟨w1.heap.size, 1, none⟩) (by simp; omega)).trans (by simp)
  have h0 : w2.cell? ⟨w1.heap.size + 1, 0, none⟩ = some (.int .i64 (a + sp (l + 1))) := (hb2.cell (p := ⟨w1.heap.size + 1, 0, none⟩) (by simp)).trans (by simp)
  have h1 : w2.cell? ⟨w1.heap.size + 1, 1, none⟩ = some (.int .i64 (l + 1)) := (hb2.cell (p := ⟨w1.heap.size + 1, 1, none⟩) (by simp)).trans (by simp)
  have k0 : ∀ o, (w2.alloc o).cell? ⟨w.heap.size, 0, none⟩ = some (.int .i64 a) := fun o => cell_later (bl1 w2 o) q0
  have k1 : ∀ o, (w2.alloc o).cell? ⟨w.heap.size, 1, none⟩ = some (.int .i64 l) := fun o => cell_later (bl1 w2 o) q1
  clear hb2 p0 p1
  go_wp2_with fail
  refine (checkPrefix_any a l _).mono ?_
  rintro e w3 ⟨rfl, hb3⟩
  clear k0 k1
  have hC3 : Below w2.heap.size w2 w3 := (bl1 w2 _).trans (hb3.mono (by simp))
  have hB3 : Below w.heap.size w w3 := hB2.trans (hC3.mono hB2.size)
  have r0 : w3.cell? ⟨w.heap.size, 0, none⟩ = some (.int .i64 a) := cell_later hC3 q0
  have r1 : w3.cell? ⟨w.heap.size, 1, none⟩ = some (.int .i64 l) := cell_later hC3 q1
  have l2 := cell_later hC3 l0
  have l3 := cell_later hC3 l1
  have h2 := cell_later hC3 h0
  have h3 := cell_later hC3 h1
  have u0 : w3.cell? ⟨w2.heap.size, 0, none⟩ = some (.int .i64 0) := (hb3.cell (p := ⟨w2.heap.size, 0, none⟩) (by simp)).trans (by simp)
  have u1 : w3.cell? ⟨w2.heap.size, 1, none⟩ = some (.int .i64 0) := (hb3.cell (p := ⟨w2.heap.size, 1, none⟩) (by simp)).trans (by simp)
  clear hb3 hC2 hC3 hB1 hB2 q0 q1 l0 l1 h0 h1
  have k0 : ∀ o p q, (((w3.alloc o).alloc p).alloc q).cell? ⟨w.heap.size, 0, none⟩ = some (.int .i64 a) := fun o p q => cell_later (bl3 w3 o p q) r0
  have k1 : ∀ o p q, (((w3.alloc o).alloc p).alloc q).cell? ⟨w.heap.size, 1, none⟩ = some (.int .i64 l) := fun o p q => cell_later (bl3 w3 o p q) r1
  go_upto_region 12 with fail
  have hw1 : IntKind.i64.wrap (16 - l) = 16 - l := by rw [IntKind.wrap_i64]; omega
  have hw2 : IntKind.i64.wrap (16 - l - 1) = 16 - l - 1 := by rw [IntKind.wrap_i64]; omega
  have hw3 : IntKind.i64.wrap (l + 1) = l + 1 := by rw [IntKind.wrap_i64]; omega
  have hw4 : IntKind.i64.wrap (a + sp (l + 1)) = a + sp (l + 1) := by rw [IntKind.wrap_i64]; omega
  go_region_held3 (fun w' => w'.cell? ⟨w.heap.size, 0, none⟩ = some (.int .i64 a) ∧ w'.cell? ⟨w.heap.size, 1, none⟩ = some (.int .i64 l)) (exact ⟨k0 _ _ _, k1 _ _ _⟩) (fail)
  rw [wrap_half a l b0 (by omega) a0 a1]
  go_upto_region 15 with fail
  clear k0 k1 hw1 hw2 hw3 hw4
  have m1 : w1.heap.size < w3.heap.size := block_lt_of_cell l2
  have m2 : w1.heap.size + 1 < w3.heap.size := block_lt_of_cell h2
  have m3 : w2.heap.size < w3.heap.size := block_lt_of_cell u0
  have hBf : Below w.heap.size w ((((w3.alloc (.cells #[.int .i64 a, .int .i64 (l + 1)] 23)).alloc (.cells #[.int .i64 (a + sp (l + 1)), .int .i64 (l + 1)] 23)).alloc (.cells #[.int .i64 0, .int .i64 0] 23)).drew) := hB3.trans ((bl3 w3 _ _ _).drew.mono hB3.size)
  have hEf := hE.below hE.size hBf
  have hsz : w3.heap.size + 1 + 1 + 1 ≤ ((((w3.alloc (.cells #[.int .i64 a, .int .i64 (l + 1)] 23)).alloc (.cells #[.int .i64 (a + sp (l + 1)), .int .i64 (l + 1)] 23)).alloc (.cells #[.int .i64 0, .int .i64 0] 23)).drew).heap.size := by simp [World.drew]
  have z3 := hB3.size
  have hEu : ∀ u : Ws (w3.heap.size + 1 + 1 + 1) ((((w3.alloc (.cells #[.int .i64 a, .int .i64 (l + 1)] 23)).alloc (.cells #[.int .i64 (a + sp (l + 1)), .int .i64 (l + 1)] 23)).alloc (.cells #[.int .i64 0, .int .i64 0] 23)).drew), Env u.val := fun u => hEf.below (by have := hE.size; omega) u.property
  have g0 : ∀ u : Ws (w3.heap.size + 1 + 1 + 1) ((((w3.alloc (.cells #[.int .i64 a, .int .i64 (l + 1)] 23)).alloc (.cells #[.int .i64 (a + sp (l + 1)), .int .i64 (l + 1)] 23)).alloc (.cells #[.int .i64 0, .int .i64 0] 23)).drew), u.val.cell? ⟨w1.heap.size, 0, none⟩ = some (.int .i64 a) := Ws.cell (by omega) (cell_later (bl3 w3 _ _ _).drew l2)
  have g1 : ∀ u : Ws (w3.heap.size + 1 + 1 + 1) ((((w3.alloc (.cells #[.int .i64 a, .int .i64 (l + 1)] 23)).alloc (.cells #[.int .i64 (a + sp (l + 1)), .int .i64 (l + 1)] 23)).alloc (.cells #[.int .i64 0, .int .i64 0] 23)).drew), u.val.cell? ⟨w1.heap.size, 1, none⟩ = some (.int .i64 (l + 1)) := Ws.cell (by omega) (cell_later (bl3 w3 _ _ _).drew l3)
  have g2 : ∀ u : Ws (w3.heap.size + 1 + 1 + 1) ((((w3.alloc (.cells #[.int .i64 a, .int .i64 (l + 1)] 23)).alloc (.cells #[.int .i64 (a + sp (l + 1)), .int .i64 (l + 1)] 23)).alloc (.cells #[.int .i64 0, .int .i64 0] 23)).drew), u.val.cell? ⟨w1.heap.size + 1, 0, none⟩ = some (.int .i64 (a + sp (l + 1))) := Ws.cell (by omega) (cell_later (bl3 w3 _ _ _).drew h2)
  have g3 : ∀ u : Ws (w3.heap.size + 1 + 1 + 1) ((((w3.alloc (.cells #[.int .i64 a, .int .i64 (l + 1)] 23)).alloc (.cells #[.int .i64 (a + sp (l + 1)), .int .i64 (l + 1)] 23)).alloc (.cells #[.int .i64 0, .int .i64 0] 23)).drew), u.val.cell? ⟨w1.heap.size + 1, 1, none⟩ = some (.int .i64 (l + 1)) := Ws.cell (by omega) (cell_later (bl3 w3 _ _ _).drew h3)
  have g4 : ∀ u : Ws (w3.heap.size + 1 + 1 + 1) ((((w3.alloc (.cells #[.int .i64 a, .int .i64 (l + 1)] 23)).alloc (.cells #[.int .i64 (a + sp (l + 1)), .int .i64 (l + 1)] 23)).alloc (.cells #[.int .i64 0, .int .i64 0] 23)).drew), u.val.cell? ⟨w2.heap.size, 0, none⟩ = some (.int .i64 0) := Ws.cell (by omega) (cell_later (bl3 w3 _ _ _).drew u0)
  have g5 : ∀ u : Ws (w3.heap.size + 1 + 1 + 1) ((((w3.alloc (.cells #[.int .i64 a, .int .i64 (l + 1)] 23)).alloc (.cells #[.int .i64 (a + sp (l + 1)), .int .i64 (l + 1)] 23)).alloc (.cells #[.int .i64 0, .int .i64 0] 23)).drew), u.val.cell? ⟨w2.heap.size, 1, none⟩ = some (.int .i64 0) := Ws.cell (by omega) (cell_later (bl3 w3 _ _ _).drew u1)
  have g6 : ∀ u : Ws (w3.heap.size + 1 + 1 + 1) ((((w3.alloc (.cells #[.int .i64 a, .int .i64 (l + 1)] 23)).alloc (.cells #[.int .i64 (a + sp (l + 1)), .int .i64 (l + 1)] 23)).alloc (.cells #[.int .i64 0, .int .i64 0] 23)).drew), u.val.cell? ⟨w3.heap.size, 0, none⟩ = some (.int .i64 a) := Ws.cell (by omega) (by go_simp)
  have g7 : ∀ u : Ws (w3.heap.size + 1 + 1 + 1) ((((w3.alloc (.cells #[.int .i64 a, .int .i64 (l + 1)] 23)).alloc (.cells #[.int .i64 (a + sp (l + 1)), .int .i64 (l + 1)] 23)).alloc (.cells #[.int .i64 0, .int .i64 0] 23)).drew), u.val.cell? ⟨w3.heap.size, 1, none⟩ = some (.int .i64 (l + 1)) := Ws.cell (by omega) (by go_simp)
  have g8 : ∀ u : Ws (w3.heap.size + 1 + 1 + 1) ((((w3.alloc (.cells #[.int .i64 a, .int .i64 (l + 1)] 23)).alloc (.cells #[.int .i64 (a + sp (l + 1)), .int .i64 (l + 1)] 23)).alloc (.cells #[.int .i64 0, .int .i64 0] 23)).drew), u.val.cell? ⟨w3.heap.size + 1, 0, none⟩ = some (.int .i64 (a + sp (l + 1))) := Ws.cell (by omega) (by go_simp)
  have g9 : ∀ u : Ws (w3.heap.size + 1 + 1 + 1) ((((w3.alloc (.cells #[.int .i64 a, .int .i64 (l + 1)] 23)).alloc (.cells #[.int .i64 (a + sp (l + 1)), .int .i64 (l + 1)] 23)).alloc (.cells #[.int .i64 0, .int .i64 0] 23)).drew), u.val.cell? ⟨w3.heap.size + 1, 1, none⟩ = some (.int .i64 (l + 1)) := Ws.cell (by omega) (by go_simp)
  have g10 : ∀ u : Ws (w3.heap.size + 1 + 1 + 1) ((((w3.alloc (.cells #[.int .i64 a, .int .i64 (l + 1)] 23)).alloc (.cells #[.int .i64 (a + sp (l + 1)), .int .i64 (l + 1)] 23)).alloc (.cells #[.int .i64 0, .int .i64 0] 23)).drew), u.val.cell? ⟨w3.heap.size + 1 + 1, 0, none⟩ = some (.int .i64 0) := Ws.cell (by omega) (by go_simp)
  have g11 : ∀ u : Ws (w3.heap.size + 1 + 1 + 1) ((((w3.alloc (.cells #[.int .i64 a, .int .i64 (l + 1)] 23)).alloc (.cells #[.int .i64 (a + sp (l + 1)), .int .i64 (l + 1)] 23)).alloc (.cells #[.int .i64 0, .int .i64 0] 23)).drew), u.val.cell? ⟨w3.heap.size + 1 + 1, 1, none⟩ = some (.int .i64 0) := Ws.cell (by omega) (by go_simp)
  clear hEf
  refine wp_region_wf (w3.heap.size + 1 + 1 + 1) ?_
  repeat (go_big_quiet_step ((go_at_call 8; exact Calls.in_ws hsz (begun_any _ (hEu _)))))
  refine wpQuiet_nil ?_
  rintro _ ⟨u, rfl⟩
  have hu := hBf.trans (u.property.mono (by omega))
  go_wp2
  go_ret
  exact ⟨rfl, hu⟩

set_option maxHeartbeats 1600000 in
theorem turns_16 (a l : Int) (w : World) (hE : Env w) (h : rt a l = true) (h0 : 16 ≤ l) :
    Calls Tryd.prog 4 #[.agg #[.int .i64 a, .int .i64 l]] w fun e w' => e = .returned (.bool true) ∧ Below w.heap.size w w' := by
  have hc0 := chk_of_rt h
  have hb : (chk a l == 0) = true := by simp [hc0]
  clear hc0
  obtain ⟨b0, b1, a0, a1, -⟩ := rt_range h
  have hl16 : (l == 16) = true := by simp; omega
  have hl0 : (l == 0) = false := by simp; omega
  have hb' : ((0 : Int) == chk a l) = true := by simp [chk_of_rt h]
  have hp := sp_pos (l + 1)
  have hq := sp_le (l + 1)
  go_enter Tryd.func4, Tryd.ntmps4
  go_wp2_with fail
  refine (halves_16' a l _ h (by omega)).mono ?_
  rintro e w1 ⟨rfl, hb1⟩
  have p0 : w1.cell? ⟨w.heap.size, 0, none⟩ = some (.int .i64 a) := (hb1.cell (p := ⟨w.heap.size, 0, none⟩) (by simp)).trans (by simp)
  have p1 : w1.cell? ⟨w.heap.size, 1, none⟩ = some (.int .i64 l) := (hb1.cell (p := ⟨w.heap.size, 1, none⟩) (by simp)).trans (by simp)
  have hB1 : Below w.heap.size w w1 := (bl1 w _).trans (hb1.mono (by simp))
  have k0 : ∀ o p, ((w1.alloc o).alloc p).cell? ⟨w.heap.size, 0, none⟩ = some (.int .i64 a) := fun o p => cell_later (bl2 w1 o p) p0
  have k1 : ∀ o p, ((w1.alloc o).alloc p).cell? ⟨w.heap.size, 1, none⟩ = some (.int .i64 l) := fun o p => cell_later (bl2 w1 o p) p1
  clear hb1
  go_wp2_with fail
  refine (up_ok a l _ h (by omega)).mono ?_
  rintro e w2 ⟨rfl, hb2⟩
  clear k0 k1
  have hC2 : Below w1.heap.size w1 w2 := (bl2 w1 _ _).trans (hb2.mono (by simp; omega))
  have hB2 : Below w.heap.size w w2 := hB1.trans (hC2.mono hB1.size)
  have q0 : w2.cell? ⟨w.heap.size, 0, none⟩ = some (.int .i64 a) := cell_later hC2 p0
  have q1 : w2.cell? ⟨w.heap.size, 1, none⟩ = some (.int .i64 l) := cell_later hC2 p1
  have l0 : w2.cell? ⟨w1.heap.size, 0, none⟩ = some (.int .i64 0) := (hb2.cell (p := ⟨w1.heap.size, 0, none⟩) (by simp; omega)).trans (by simp)
  have l1 : w2.cell? ⟨w1.heap.size, 1, none⟩ = some (.int .i64 0) := (hb2.cell (p := ⟨w1.heap.size, 1, none⟩) (by simp; omega)).trans (by simp)
  have h0 : w2.cell? ⟨w1.heap.size + 1, 0, none⟩ = some (.int .i64 0) := (hb2.cell (p := ⟨w1.heap.size + 1, 0, none⟩) (by simp)).trans (by simp)
  have h1 : w2.cell? ⟨w1.heap.size + 1, 1, none⟩ = some (.int .i64 0) := (hb2.cell (p := ⟨w1.heap.size + 1, 1, none⟩) (by simp)).trans (by simp)
  have k0 : ∀ o, (w2.alloc o).cell? ⟨w.heap.size, 0, none⟩ = some (.int .i64 a) := fun o => cell_later (bl1 w2 o) q0
  have k1 : ∀ o, (w2.alloc o).cell? ⟨w.heap.size, 1, none⟩ = some (.int .i64 l) := fun o => cell_later (bl1 w2 o) q1
  clear hb2 p0 p1
  go_wp2_with fail
  refine (checkPrefix_any a l _).mono ?_
  rintro e w3 ⟨rfl, hb3⟩
  clear k0 k1
  have hC3 : Below w2.heap.size w2 w3 := (bl1 w2 _).trans (hb3.mono (by simp))
  have hB3 : Below w.heap.size w w3 := hB2.trans (hC3.mono hB2.size)
  have r0 : w3.cell? ⟨w.heap.size, 0, none⟩ = some (.int .i64 a) := cell_later hC3 q0
  have r1 : w3.cell? ⟨w.heap.size, 1, none⟩ = some (.int .i64 l) := cell_later hC3 q1
  have l2 := cell_later hC3 l0
  have l3 := cell_later hC3 l1
  have h2 := cell_later hC3 h0
  have h3 := cell_later hC3 h1
  have u0 : w3.cell? ⟨w2.heap.size, 0, none⟩ = some (.int .i64 (a - a % sp (l - 1))) := (hb3.cell (p := ⟨w2.heap.size, 0, none⟩) (by simp)).trans (by simp)
  have u1 : w3.cell? ⟨w2.heap.size, 1, none⟩ = some (.int .i64 (l - 1)) := (hb3.cell (p := ⟨w2.heap.size, 1, none⟩) (by simp)).trans (by simp)
  clear hb3 hC2 hC3 hB1 hB2 q0 q1 l0 l1 h0 h1
  have k0 : ∀ o p q, (((w3.alloc o).alloc p).alloc q).cell? ⟨w.heap.size, 0, none⟩ = some (.int .i64 a) := fun o p q => cell_later (bl3 w3 o p q) r0
  have k1 : ∀ o p q, (((w3.alloc o).alloc p).alloc q).cell? ⟨w.heap.size, 1, none⟩ = some (.int .i64 l) := fun o p q => cell_later (bl3 w3 o p q) r1
  have hq1 := sp_pos (l - 1)
  have hq2 := sp_le (l - 1)
  go_wp2_with fail
  refine (upOf_any a l _ h (by omega)).mono ?_
  rintro e w4 ⟨rfl, hb4⟩
  have z3 := hB3.size
  have hC4 : Below w3.heap.size w3 w4 := (bl3 w3 _ _ _).trans (hb4.mono (by simp; omega))
  have z4 := hb4.size
  simp only [World.size_alloc] at z4
  have t0 : w4.cell? ⟨w3.heap.size, 0, none⟩ = some (.int .i64 0) := (hb4.cell (p := ⟨w3.heap.size, 0, none⟩) (by simp <;> omega)).trans (by go_simp)
  have t1 : w4.cell? ⟨w3.heap.size, 1, none⟩ = some (.int .i64 0) := (hb4.cell (p := ⟨w3.heap.size, 1, none⟩) (by simp <;> omega)).trans (by go_simp)
  have t2 : w4.cell? ⟨w3.heap.size + 1, 0, none⟩ = some (.int .i64 0) := (hb4.cell (p := ⟨w3.heap.size + 1, 0, none⟩) (by simp <;> omega)).trans (by go_simp)
  have t3 : w4.cell? ⟨w3.heap.size + 1, 1, none⟩ = some (.int .i64 0) := (hb4.cell (p := ⟨w3.heap.size + 1, 1, none⟩) (by simp <;> omega)).trans (by go_simp)
  have t4 : w4.cell? ⟨w3.heap.size + 1 + 1, 0, none⟩ = some (.int .i64 0) := (hb4.cell (p := ⟨w3.heap.size + 1 + 1, 0, none⟩) (by simp <;> omega)).trans (by go_simp)
  have t5 : w4.cell? ⟨w3.heap.size + 1 + 1, 1, none⟩ = some (.int .i64 0) := (hb4.cell (p := ⟨w3.heap.size + 1 + 1, 1, none⟩) (by simp <;> omega)).trans (by go_simp)
  have f0 : w4.frozen? ⟨w3.heap.size + 1 + 1, 0, none⟩ = false := (hb4.frozen (p := ⟨w3.heap.size + 1 + 1, 0, none⟩) (by simp <;> omega)).trans (by go_simp)
  have f1 : w4.frozen? ⟨w3.heap.size + 1 + 1, 1, none⟩ = false := (hb4.frozen (p := ⟨w3.heap.size + 1 + 1, 1, none⟩) (by simp <;> omega)).trans (by go_simp)
  clear hb4 k0 k1 r0 r1
  go_upto_region 15 with fail
  have m1 : w1.heap.size < w3.heap.size := block_lt_of_cell l2
  have m2 : w1.heap.size + 1 < w3.heap.size := block_lt_of_cell h2
  have m3 : w2.heap.size < w3.heap.size := block_lt_of_cell u0
  have hBf : Below w.heap.size w ((w4.setCell ⟨w3.heap.size + 1 + 1, 0, none⟩ (.int .i64 (a - a % sp (l - 1)))).setCell ⟨w3.heap.size + 1 + 1, 1, none⟩ (.int .i64 (l - 1))) := ((hB3.trans (hC4.mono hB3.size)).setCell (by simp; omega) _).setCell (by simp; omega) _
  have hEf := hE.below hE.size hBf
  have hsz : w3.heap.size + 1 + 1 + 1 ≤ ((w4.setCell ⟨w3.heap.size + 1 + 1, 0, none⟩ (.int .i64 (a - a % sp (l - 1)))).setCell ⟨w3.heap.size + 1 + 1, 1, none⟩ (.int .i64 (l - 1))).heap.size := by simp; omega
  have z3 := hB3.size
  have hEu : ∀ u : Ws (w3.heap.size + 1 + 1 + 1) ((w4.setCell ⟨w3.heap.size + 1 + 1, 0, none⟩ (.int .i64 (a - a % sp (l - 1)))).setCell ⟨w3.heap.size + 1 + 1, 1, none⟩ (.int .i64 (l - 1))), Env u.val := fun u => hEf.below (by have := hE.size; omega) u.property
  have g0 : ∀ u : Ws (w3.heap.size + 1 + 1 + 1) ((w4.setCell ⟨w3.heap.size + 1 + 1, 0, none⟩ (.int .i64 (a - a % sp (l - 1)))).setCell ⟨w3.heap.size + 1 + 1, 1, none⟩ (.int .i64 (l - 1))), u.val.cell? ⟨w1.heap.size, 0, none⟩ = some (.int .i64 0) := Ws.cell (by omega) ((cell_set_ne (by omega)).trans ((cell_set_ne (by omega)).trans (cell_later hC4 l2)))
  have g1 : ∀ u : Ws (w3.heap.size + 1 + 1 + 1) ((w4.setCell ⟨w3.heap.size + 1 + 1, 0, none⟩ (.int .i64 (a - a % sp (l - 1)))).setCell ⟨w3.heap.size + 1 + 1, 1, none⟩ (.int .i64 (l - 1))), u.val.cell? ⟨w1.heap.size, 1, none⟩ = some (.int .i64 0) := Ws.cell (by omega) ((cell_set_ne (by omega)).trans ((cell_set_ne (by omega)).trans (cell_later hC4 l3)))
  have g2 : ∀ u : Ws (w3.heap.size + 1 + 1 + 1) ((w4.setCell ⟨w3.heap.size + 1 + 1, 0, none⟩ (.int .i64 (a - a % sp (l - 1)))).setCell ⟨w3.heap.size + 1 + 1, 1, none⟩ (.int .i64 (l - 1))), u.val.cell? ⟨w1.heap.size + 1, 0, none⟩ = some (.int .i64 0) := Ws.cell (by omega) ((cell_set_ne (by omega)).trans ((cell_set_ne (by omega)).trans (cell_later hC4 h2)))
  have g3 : ∀ u : Ws (w3.heap.size + 1 + 1 + 1) ((w4.setCell ⟨w3.heap.size + 1 + 1, 0, none⟩ (.int .i64 (a - a % sp (l - 1)))).setCell ⟨w3.heap.size + 1 + 1, 1, none⟩ (.int .i64 (l - 1))), u.val.cell? ⟨w1.heap.size + 1, 1, none⟩ = some (.int .i64 0) := Ws.cell (by omega) ((cell_set_ne (by omega)).trans ((cell_set_ne (by omega)).trans (cell_later hC4 h3)))
  have g4 : ∀ u : Ws (w3.heap.size + 1 + 1 + 1) ((w4.setCell ⟨w3.heap.size + 1 + 1, 0, none⟩ (.int .i64 (a - a % sp (l - 1)))).setCell ⟨w3.heap.size + 1 + 1, 1, none⟩ (.int .i64 (l - 1))), u.val.cell? ⟨w2.heap.size, 0, none⟩ = some (.int .i64 (a - a % sp (l - 1))) := Ws.cell (by omega) ((cell_set_ne (by omega)).trans ((cell_set_ne (by omega)).trans (cell_later hC4 u0)))
  have g5 : ∀ u : Ws (w3.heap.size + 1 + 1 + 1) ((w4.setCell ⟨w3.heap.size + 1 + 1, 0, none⟩ (.int .i64 (a - a % sp (l - 1)))).setCell ⟨w3.heap.size + 1 + 1, 1, none⟩ (.int .i64 (l - 1))), u.val.cell? ⟨w2.heap.size, 1, none⟩ = some (.int .i64 (l - 1)) := Ws.cell (by omega) ((cell_set_ne (by omega)).trans ((cell_set_ne (by omega)).trans (cell_later hC4 u1)))
  have g6 : ∀ u : Ws (w3.heap.size + 1 + 1 + 1) ((w4.setCell ⟨w3.heap.size + 1 + 1, 0, none⟩ (.int .i64 (a - a % sp (l - 1)))).setCell ⟨w3.heap.size + 1 + 1, 1, none⟩ (.int .i64 (l - 1))), u.val.cell? ⟨w3.heap.size, 0, none⟩ = some (.int .i64 0) := Ws.cell (by omega) ((cell_set_ne (by omega)).trans ((cell_set_ne (by omega)).trans (t0)))
  have g7 : ∀ u : Ws (w3.heap.size + 1 + 1 + 1) ((w4.setCell ⟨w3.heap.size + 1 + 1, 0, none⟩ (.int .i64 (a - a % sp (l - 1)))).setCell ⟨w3.heap.size + 1 + 1, 1, none⟩ (.int .i64 (l - 1))), u.val.cell? ⟨w3.heap.size, 1, none⟩ = some (.int .i64 0) := Ws.cell (by omega) ((cell_set_ne (by omega)).trans ((cell_set_ne (by omega)).trans (t1)))
  have g8 : ∀ u : Ws (w3.heap.size + 1 + 1 + 1) ((w4.setCell ⟨w3.heap.size + 1 + 1, 0, none⟩ (.int .i64 (a - a % sp (l - 1)))).setCell ⟨w3.heap.size + 1 + 1, 1, none⟩ (.int .i64 (l - 1))), u.val.cell? ⟨w3.heap.size + 1, 0, none⟩ = some (.int .i64 0) := Ws.cell (by omega) ((cell_set_ne (by omega)).trans ((cell_set_ne (by omega)).trans (t2)))
  have g9 : ∀ u : Ws (w3.heap.size + 1 + 1 + 1) ((w4.setCell ⟨w3.heap.size + 1 + 1, 0, none⟩ (.int .i64 (a - a % sp (l - 1)))).setCell ⟨w3.heap.size + 1 + 1, 1, none⟩ (.int .i64 (l - 1))), u.val.cell? ⟨w3.heap.size + 1, 1, none⟩ = some (.int .i64 0) := Ws.cell (by omega) ((cell_set_ne (by omega)).trans ((cell_set_ne (by omega)).trans (t3)))
  have g10 : ∀ u : Ws (w3.heap.size + 1 + 1 + 1) ((w4.setCell ⟨w3.heap.size + 1 + 1, 0, none⟩ (.int .i64 (a - a % sp (l - 1)))).setCell ⟨w3.heap.size + 1 + 1, 1, none⟩ (.int .i64 (l - 1))), u.val.cell? ⟨w3.heap.size + 1 + 1, 0, none⟩ = some (.int .i64 (a - a % sp (l - 1))) := Ws.cell (by omega) (by go_simp)
  have g11 : ∀ u : Ws (w3.heap.size + 1 + 1 + 1) ((w4.setCell ⟨w3.heap.size + 1 + 1, 0, none⟩ (.int .i64 (a - a % sp (l - 1)))).setCell ⟨w3.heap.size + 1 + 1, 1, none⟩ (.int .i64 (l - 1))), u.val.cell? ⟨w3.heap.size + 1 + 1, 1, none⟩ = some (.int .i64 (l - 1)) := Ws.cell (by omega) (by go_simp)
  clear hEf
  refine wp_region_wf (w3.heap.size + 1 + 1 + 1) ?_
  repeat (go_big_quiet_step ((go_at_call 8; exact Calls.in_ws hsz (begun_any _ (hEu _)))))
  refine wpQuiet_nil ?_
  rintro _ ⟨u, rfl⟩
  have hu := hBf.trans (u.property.mono (by omega))
  go_wp2
  go_ret
  exact ⟨rfl, hu⟩

set_option maxHeartbeats 1600000 in
theorem turns_mid (a l : Int) (w : World) (hE : Env w) (h : rt a l = true) (h0 : 1 ≤ l) (h9 : l < 16) :
    Calls Tryd.prog 4 #[.agg #[.int .i64 a, .int .i64 l]] w fun e w' => e = .returned (.bool true) ∧ Below w.heap.size w w' := by
  have hc0 := chk_of_rt h
  have hb : (chk a l == 0) = true := by simp [hc0]
  clear hc0
  obtain ⟨b0, b1, a0, a1, -⟩ := rt_range h
  have hl16 : (l == 16) = false := by simp; omega
  have hl0 : (l == 0) = false := by simp; omega
  have hb' : ((0 : Int) == chk a l) = true := by simp [chk_of_rt h]
  have hp := sp_pos (l + 1)
  have hq := sp_le (l + 1)
  go_enter Tryd.func4, Tryd.ntmps4
  go_wp2_with fail
  refine (halves_ok a l _ h h9).mono ?_
  rintro e w1 ⟨rfl, hb1⟩
  have p0 : w1.cell? ⟨w.heap.size, 0, none⟩ = some (.int .i64 a) := (hb1.cell (p := ⟨w.heap.size, 0, none⟩) (by simp)).trans (by simp)
  have p1 : w1.cell? ⟨w.heap.size, 1, none⟩ = some (.int .i64 l) := (hb1.cell (p := ⟨w.heap.size, 1, none⟩) (by simp)).trans (by simp)
  have hB1 : Below w.heap.size w w1 := (bl1 w _).trans (hb1.mono (by simp))
  have k0 : ∀ o p, ((w1.alloc o).alloc p).cell? ⟨w.heap.size, 0, none⟩ = some (.int .i64 a) := fun o p => cell_later (bl2 w1 o p) p0
  have k1 : ∀ o p, ((w1.alloc o).alloc p).cell? ⟨w.heap.size, 1, none⟩ = some (.int .i64 l) := fun o p => cell_later (bl2 w1 o p) p1
  clear hb1
  go_wp2_with fail
  refine (up_ok a l _ h (by omega)).mono ?_
  rintro e w2 ⟨rfl, hb2⟩
  clear k0 k1
  have hC2 : Below w1.heap.size w1 w2 := (bl2 w1 _ _).trans (hb2.mono (by simp; omega))
  have hB2 : Below w.heap.size w w2 := hB1.trans (hC2.mono hB1.size)
  have q0 : w2.cell? ⟨w.heap.size, 0, none⟩ = some (.int .i64 a) := cell_later hC2 p0
  have q1 : w2.cell? ⟨w.heap.size, 1, none⟩ = some (.int .i64 l) := cell_later hC2 p1
  have l0 : w2.cell? ⟨w1.heap.size, 0, none⟩ = some (.int .i64 a) := (hb2.cell (p := ⟨w1.heap.size, 0, none⟩) (by simp; omega)).trans (by simp)
  have l1 : w2.cell? ⟨w1.heap.size, 1, none⟩ = some (.int .i64 (l + 1)) := (hb2.cell (p := ⟨w1.heap.size, 1, none⟩) (by simp; omega)).trans (by simp)
  have h0 : w2.cell? ⟨w1.heap.size + 1, 0, none⟩ = some (.int .i64 (a + sp (l + 1))) := (hb2.cell (p := ⟨w1.heap.size + 1, 0, none⟩) (by simp)).trans (by simp)
  have h1 : w2.cell? ⟨w1.heap.size + 1, 1, none⟩ = some (.int .i64 (l + 1)) := (hb2.cell (p := ⟨w1.heap.size + 1, 1, none⟩) (by simp)).trans (by simp)
  have k0 : ∀ o, (w2.alloc o).cell? ⟨w.heap.size, 0, none⟩ = some (.int .i64 a) := fun o => cell_later (bl1 w2 o) q0
  have k1 : ∀ o, (w2.alloc o).cell? ⟨w.heap.size, 1, none⟩ = some (.int .i64 l) := fun o => cell_later (bl1 w2 o) q1
  clear hb2 p0 p1
  go_wp2_with fail
  refine (checkPrefix_any a l _).mono ?_
  rintro e w3 ⟨rfl, hb3⟩
  clear k0 k1
  have hC3 : Below w2.heap.size w2 w3 := (bl1 w2 _).trans (hb3.mono (by simp))
  have hB3 : Below w.heap.size w w3 := hB2.trans (hC3.mono hB2.size)
  have r0 : w3.cell? ⟨w.heap.size, 0, none⟩ = some (.int .i64 a) := cell_later hC3 q0
  have r1 : w3.cell? ⟨w.heap.size, 1, none⟩ = some (.int .i64 l) := cell_later hC3 q1
  have l2 := cell_later hC3 l0
  have l3 := cell_later hC3 l1
  have h2 := cell_later hC3 h0
  have h3 := cell_later hC3 h1
  have u0 : w3.cell? ⟨w2.heap.size, 0, none⟩ = some (.int .i64 (a - a % sp (l - 1))) := (hb3.cell (p := ⟨w2.heap.size, 0, none⟩) (by simp)).trans (by simp)
  have u1 : w3.cell? ⟨w2.heap.size, 1, none⟩ = some (.int .i64 (l - 1)) := (hb3.cell (p := ⟨w2.heap.size, 1, none⟩) (by simp)).trans (by simp)
  clear hb3 hC2 hC3 hB1 hB2 q0 q1 l0 l1 h0 h1
  have k0 : ∀ o p q, (((w3.alloc o).alloc p).alloc q).cell? ⟨w.heap.size, 0, none⟩ = some (.int .i64 a) := fun o p q => cell_later (bl3 w3 o p q) r0
  have k1 : ∀ o p q, (((w3.alloc o).alloc p).alloc q).cell? ⟨w.heap.size, 1, none⟩ = some (.int .i64 l) := fun o p q => cell_later (bl3 w3 o p q) r1
  go_upto_region 12 with fail
  have hw1 : IntKind.i64.wrap (16 - l) = 16 - l := by rw [IntKind.wrap_i64]; omega
  have hw2 : IntKind.i64.wrap (16 - l - 1) = 16 - l - 1 := by rw [IntKind.wrap_i64]; omega
  have hw3 : IntKind.i64.wrap (l + 1) = l + 1 := by rw [IntKind.wrap_i64]; omega
  have hw4 : IntKind.i64.wrap (a + sp (l + 1)) = a + sp (l + 1) := by rw [IntKind.wrap_i64]; omega
  go_region_held3 (fun w' => w'.cell? ⟨w.heap.size, 0, none⟩ = some (.int .i64 a) ∧ w'.cell? ⟨w.heap.size, 1, none⟩ = some (.int .i64 l)) (exact ⟨k0 _ _ _, k1 _ _ _⟩) (fail)
  rw [wrap_half a l b0 (by omega) a0 a1]
  clear hw1 hw2 hw3 hw4
  have hq1 := sp_pos (l - 1)
  have hq2 := sp_le (l - 1)
  go_wp2_with fail
  refine (upOf_any a l _ h (by omega)).mono ?_
  rintro e w4 ⟨rfl, hb4⟩
  have z3 := hB3.size
  have hC4 : Below w3.heap.size w3 w4 := (bl3 w3 _ _ _).drew.trans (hb4.mono (by simp [World.drew]; omega))
  have z4 := hb4.size
  simp only [World.size_drew, World.size_alloc] at z4
  have t0 : w4.cell? ⟨w3.heap.size, 0, none⟩ = some (.int .i64 a) := (hb4.cell (p := ⟨w3.heap.size, 0, none⟩) (by simp [World.drew] <;> omega)).trans (by go_simp)
  have t1 : w4.cell? ⟨w3.heap.size, 1, none⟩ = some (.int .i64 (l + 1)) := (hb4.cell (p := ⟨w3.heap.size, 1, none⟩) (by simp [World.drew] <;> omega)).trans (by go_simp)
  have t2 : w4.cell? ⟨w3.heap.size + 1, 0, none⟩ = some (.int .i64 (a + sp (l + 1))) := (hb4.cell (p := ⟨w3.heap.size + 1, 0, none⟩) (by simp [World.drew] <;> omega)).trans (by go_simp)
  have t3 : w4.cell? ⟨w3.heap.size + 1, 1, none⟩ = some (.int .i64 (l + 1)) := (hb4.cell (p := ⟨w3.heap.size + 1, 1, none⟩) (by simp [World.drew] <;> omega)).trans (by go_simp)
  have t4 : w4.cell? ⟨w3.heap.size + 1 + 1, 0, none⟩ = some (.int .i64 0) := (hb4.cell (p := ⟨w3.heap.size + 1 + 1, 0, none⟩) (by simp [World.drew] <;> omega)).trans (by go_simp)
  have t5 : w4.cell? ⟨w3.heap.size + 1 + 1, 1, none⟩ = some (.int .i64 0) := (hb4.cell (p := ⟨w3.heap.size + 1 + 1, 1, none⟩) (by simp [World.drew] <;> omega)).trans (by go_simp)
  have f0 : w4.frozen? ⟨w3.heap.size + 1 + 1, 0, none⟩ = false := (hb4.frozen (p := ⟨w3.heap.size + 1 + 1, 0, none⟩) (by simp [World.drew] <;> omega)).trans (by go_simp)
  have f1 : w4.frozen? ⟨w3.heap.size + 1 + 1, 1, none⟩ = false := (hb4.frozen (p := ⟨w3.heap.size + 1 + 1, 1, none⟩) (by simp [World.drew] <;> omega)).trans (by go_simp)
  clear hb4 k0 k1 r0 r1
  go_upto_region 15 with fail
  have m1 : w1.heap.size < w3.heap.size := block_lt_of_cell l2
  have m2 : w1.heap.size + 1 < w3.heap.size := block_lt_of_cell h2
  have m3 : w2.heap.size < w3.heap.size := block_lt_of_cell u0
  have hBf : Below w.heap.size w ((w4.setCell ⟨w3.heap.size + 1 + 1, 0, none⟩ (.int .i64 (a - a % sp (l - 1)))).setCell ⟨w3.heap.size + 1 + 1, 1, none⟩ (.int .i64 (l - 1))) := ((hB3.trans (hC4.mono hB3.size)).setCell (by simp; omega) _).setCell (by simp; omega) _
  have hEf := hE.below hE.size hBf
  have hsz : w3.heap.size + 1 + 1 + 1 ≤ ((w4.setCell ⟨w3.heap.size + 1 + 1, 0, none⟩ (.int .i64 (a - a % sp (l - 1)))).setCell ⟨w3.heap.size + 1 + 1, 1, none⟩ (.int .i64 (l - 1))).heap.size := by simp; omega
  have z3 := hB3.size
  have hEu : ∀ u : Ws (w3.heap.size + 1 + 1 + 1) ((w4.setCell ⟨w3.heap.size + 1 + 1, 0, none⟩ (.int .i64 (a - a % sp (l - 1)))).setCell ⟨w3.heap.size + 1 + 1, 1, none⟩ (.int .i64 (l - 1))), Env u.val := fun u => hEf.below (by have := hE.size; omega) u.property
  have g0 : ∀ u : Ws (w3.heap.size + 1 + 1 + 1) ((w4.setCell ⟨w3.heap.size + 1 + 1, 0, none⟩ (.int .i64 (a - a % sp (l - 1)))).setCell ⟨w3.heap.size + 1 + 1, 1, none⟩ (.int .i64 (l - 1))), u.val.cell? ⟨w1.heap.size, 0, none⟩ = some (.int .i64 a) := Ws.cell (by omega) ((cell_set_ne (by omega)).trans ((cell_set_ne (by omega)).trans (cell_later hC4 l2)))
  have g1 : ∀ u : Ws (w3.heap.size + 1 + 1 + 1) ((w4.setCell ⟨w3.heap.size + 1 + 1, 0, none⟩ (.int .i64 (a - a % sp (l - 1)))).setCell ⟨w3.heap.size + 1 + 1, 1, none⟩ (.int .i64 (l - 1))), u.val.cell? ⟨w1.heap.size, 1, none⟩ = some (.int .i64 (l + 1)) := Ws.cell (by omega) ((cell_set_ne (by omega)).trans ((cell_set_ne (by omega)).trans (cell_later hC4 l3)))
  have g2 : ∀ u : Ws (w3.heap.size + 1 + 1 + 1) ((w4.setCell ⟨w3.heap.size + 1 + 1, 0, none⟩ (.int .i64 (a - a % sp (l - 1)))).setCell ⟨w3.heap.size + 1 + 1, 1, none⟩ (.int .i64 (l - 1))), u.val.cell? ⟨w1.heap.size + 1, 0, none⟩ = some (.int .i64 (a + sp (l + 1))) := Ws.cell (by omega) ((cell_set_ne (by omega)).trans ((cell_set_ne (by omega)).trans (cell_later hC4 h2)))
  have g3 : ∀ u : Ws (w3.heap.size + 1 + 1 + 1) ((w4.setCell ⟨w3.heap.size + 1 + 1, 0, none⟩ (.int .i64 (a - a % sp (l - 1)))).setCell ⟨w3.heap.size + 1 + 1, 1, none⟩ (.int .i64 (l - 1))), u.val.cell? ⟨w1.heap.size + 1, 1, none⟩ = some (.int .i64 (l + 1)) := Ws.cell (by omega) ((cell_set_ne (by omega)).trans ((cell_set_ne (by omega)).trans (cell_later hC4 h3)))
  have g4 : ∀ u : Ws (w3.heap.size + 1 + 1 + 1) ((w4.setCell ⟨w3.heap.size + 1 + 1, 0, none⟩ (.int .i64 (a - a % sp (l - 1)))).setCell ⟨w3.heap.size + 1 + 1, 1, none⟩ (.int .i64 (l - 1))), u.val.cell? ⟨w2.heap.size, 0, none⟩ = some (.int .i64 (a - a % sp (l - 1))) := Ws.cell (by omega) ((cell_set_ne (by omega)).trans ((cell_set_ne (by omega)).trans (cell_later hC4 u0)))
  have g5 : ∀ u : Ws (w3.heap.size + 1 + 1 + 1) ((w4.setCell ⟨w3.heap.size + 1 + 1, 0, none⟩ (.int .i64 (a - a % sp (l - 1)))).setCell ⟨w3.heap.size + 1 + 1, 1, none⟩ (.int .i64 (l - 1))), u.val.cell? ⟨w2.heap.size, 1, none⟩ = some (.int .i64 (l - 1)) := Ws.cell (by omega) ((cell_set_ne (by omega)).trans ((cell_set_ne (by omega)).trans (cell_later hC4 u1)))
  have g6 : ∀ u : Ws (w3.heap.size + 1 + 1 + 1) ((w4.setCell ⟨w3.heap.size + 1 + 1, 0, none⟩ (.int .i64 (a - a % sp (l - 1)))).setCell ⟨w3.heap.size + 1 + 1, 1, none⟩ (.int .i64 (l - 1))), u.val.cell? ⟨w3.heap.size, 0, none⟩ = some (.int .i64 a) := Ws.cell (by omega) ((cell_set_ne (by omega)).trans ((cell_set_ne (by omega)).trans (t0)))
  have g7 : ∀ u : Ws (w3.heap.size + 1 + 1 + 1) ((w4.setCell ⟨w3.heap.size + 1 + 1, 0, none⟩ (.int .i64 (a - a % sp (l - 1)))).setCell ⟨w3.heap.size + 1 + 1, 1, none⟩ (.int .i64 (l - 1))), u.val.cell? ⟨w3.heap.size, 1, none⟩ = some (.int .i64 (l + 1)) := Ws.cell (by omega) ((cell_set_ne (by omega)).trans ((cell_set_ne (by omega)).trans (t1)))
  have g8 : ∀ u : Ws (w3.heap.size + 1 + 1 + 1) ((w4.setCell ⟨w3.heap.size + 1 + 1, 0, none⟩ (.int .i64 (a - a % sp (l - 1)))).setCell ⟨w3.heap.size + 1 + 1, 1, none⟩ (.int .i64 (l - 1))), u.val.cell? ⟨w3.heap.size + 1, 0, none⟩ = some (.int .i64 (a + sp (l + 1))) := Ws.cell (by omega) ((cell_set_ne (by omega)).trans ((cell_set_ne (by omega)).trans (t2)))
  have g9 : ∀ u : Ws (w3.heap.size + 1 + 1 + 1) ((w4.setCell ⟨w3.heap.size + 1 + 1, 0, none⟩ (.int .i64 (a - a % sp (l - 1)))).setCell ⟨w3.heap.size + 1 + 1, 1, none⟩ (.int .i64 (l - 1))), u.val.cell? ⟨w3.heap.size + 1, 1, none⟩ = some (.int .i64 (l + 1)) := Ws.cell (by omega) ((cell_set_ne (by omega)).trans ((cell_set_ne (by omega)).trans (t3)))
  have g10 : ∀ u : Ws (w3.heap.size + 1 + 1 + 1) ((w4.setCell ⟨w3.heap.size + 1 + 1, 0, none⟩ (.int .i64 (a - a % sp (l - 1)))).setCell ⟨w3.heap.size + 1 + 1, 1, none⟩ (.int .i64 (l - 1))), u.val.cell? ⟨w3.heap.size + 1 + 1, 0, none⟩ = some (.int .i64 (a - a % sp (l - 1))) := Ws.cell (by omega) (by go_simp)
  have g11 : ∀ u : Ws (w3.heap.size + 1 + 1 + 1) ((w4.setCell ⟨w3.heap.size + 1 + 1, 0, none⟩ (.int .i64 (a - a % sp (l - 1)))).setCell ⟨w3.heap.size + 1 + 1, 1, none⟩ (.int .i64 (l - 1))), u.val.cell? ⟨w3.heap.size + 1 + 1, 1, none⟩ = some (.int .i64 (l - 1)) := Ws.cell (by omega) (by go_simp)
  clear hEf
  refine wp_region_wf (w3.heap.size + 1 + 1 + 1) ?_
  repeat (go_big_quiet_step ((go_at_call 8; exact Calls.in_ws hsz (begun_any _ (hEu _)))))
  refine wpQuiet_nil ?_
  rintro _ ⟨u, rfl⟩
  have hu := hBf.trans (u.property.mono (by omega))
  go_wp2
  go_ret
  exact ⟨rfl, hu⟩

theorem turns_any (a l : Int) (w : World) (hE : Env w) :
    Calls Tryd.prog 4 #[.agg #[.int .i64 a, .int .i64 l]] w fun e w' => e = .returned (.bool true) ∧ Below w.heap.size w w' := by
  cases h : rt a l
  · exact turns_bad a l w hE h
  · by_cases h0 : l ≤ 0
    · exact turns_0 a l w hE h h0
    · by_cases h1 : 16 ≤ l
      · exact turns_16 a l w hE h h1
      · exact turns_mid a l w hE h (by omega) (by omega)
end Go.Proofs.YtgojhaicaolbaaaDoor
