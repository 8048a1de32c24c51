/- The law CidrShows answers true, whatever it is handed. -/
import Derived.Test.YtgojhaicaolbaaaDoorO
namespace Go.Proofs.YtgojhaicaolbaaaDoor
open Go.RowKit

theorem bytes_eq {s : ByteArray} {x : List UInt8} (h : s.data.toList = x) : s = ⟨x.toArray⟩ := by
  subst h
  cases s
  simp
theorem read_eq (s : ByteArray) (a l : Int) (w : World) (hE : Env w) (h : rt a l = true) (hs : s.data.toList = showL a l) :
    Calls Tryd.prog 22 #[.string s] w fun e w' => e = .returned (.tuple #[.agg #[.int .i64 a, .int .i64 l], .int .i64 0]) ∧ Below w.heap.size w w' := by
  rw [bytes_eq hs]
  exact read_ok a l w hE h

set_option maxRecDepth 100000 in
set_option maxHeartbeats 1600000 in
theorem shows_1 (a l : Int) (s : ByteArray) (w : World) (hE : Env w) (hs : s.size ≤ maxLen) (h : rt a l = false) (hno : ∀ a l, rt a l = true → s.data.toList ≠ showL a l) :
    Calls Tryd.prog 5 #[.agg #[.int .i64 a, .int .i64 l], .string s] w fun e w' => e = .returned (.bool true) ∧ Below w.heap.size w w' := by
  have HX : Hid (∀ a l, rt a l = true → s.data.toList ≠ showL a l) := hno
  clear hno
  have hb := chk_ne h
  go_enter Tryd.func5, Tryd.ntmps5
  go_wp2_with fail
  refine (show_bad a l _ h).mono ?_
  rintro e w1 ⟨rfl, hb1⟩
  have p0 : w1.cell? ⟨w.heap.size, 0, none⟩ = some (.int .i64 a) := (hb1.cell (p := ⟨w.heap.size, 0, none⟩) (by simp)).trans (by simp)
  have p1 : w1.cell? ⟨w.heap.size, 1, none⟩ = some (.int .i64 l) := (hb1.cell (p := ⟨w.heap.size, 1, none⟩) (by simp)).trans (by simp)
  have hB1 := (bl1 w _).trans (hb1.mono (by simp))
  clear hb1
  go_wp2_with fail
  refine (checkPrefix_any a l _).mono ?_
  rintro e w2 ⟨rfl, hb2⟩
  have q0 := cell_later hb2 p0
  have q1 := cell_later hb2 p1
  have hB2 := hB1.trans (hb2.mono hB1.size)
  clear hb2 p0 p1 hB1
  have hE2 := hE.below hE.size hB2
  go_wp2_with fail
  refine (read_bad s _ hE2 hs HX.out).mono ?_
  rintro e w4 ⟨rfl, hb4⟩
  have hB4 := hB2.trans (hb4.mono hB2.size)
  clear hb4 hE2 hB2
  go_wp2_with fail
  refine (from_no s _ hs HX.out).mono ?_
  rintro e w5 ⟨rfl, hb5⟩
  have g0 : w5.cell? ⟨w4.heap.size, 0, none⟩ = some (.int .i64 0) := (hb5.cell (p := ⟨w4.heap.size, 0, none⟩) (by simp)).trans (by simp)
  have g1 : w5.cell? ⟨w4.heap.size, 1, none⟩ = some (.int .i64 0) := (hb5.cell (p := ⟨w4.heap.size, 1, none⟩) (by simp)).trans (by simp)
  have hB5 := hB4.trans (((bl1 w4 _).trans (hb5.mono (by simp))).mono hB4.size)
  have hB6 := hB5.trans ((bl1 w5 (.cells #[.int .i64 0, .int .i64 0] 23)).mono hB5.size)
  have hE6 := hE.below hE.size hB6
  have x0 : ∀ u : Ws (w5.heap.size + 1) (w5.alloc (.cells #[.int .i64 0, .int .i64 0] 23)), u.val.cell? ⟨w4.heap.size, 0, none⟩ = some (.int .i64 0) := Ws.cell (Nat.lt_succ_of_lt (block_lt_of_cell g0)) (cell_later (bl1 w5 _) g0)
  have x1 : ∀ u : Ws (w5.heap.size + 1) (w5.alloc (.cells #[.int .i64 0, .int .i64 0] 23)), u.val.cell? ⟨w4.heap.size, 1, none⟩ = some (.int .i64 0) := Ws.cell (Nat.lt_succ_of_lt (block_lt_of_cell g1)) (cell_later (bl1 w5 _) g1)
  have y0 : ∀ u : Ws (w5.heap.size + 1) (w5.alloc (.cells #[.int .i64 0, .int .i64 0] 23)), u.val.cell? ⟨w5.heap.size, 0, none⟩ = some (.int .i64 0) := Ws.cell (by omega) (by simp)
  have y1 : ∀ u : Ws (w5.heap.size + 1) (w5.alloc (.cells #[.int .i64 0, .int .i64 0] 23)), u.val.cell? ⟨w5.heap.size, 1, none⟩ = some (.int .i64 0) := Ws.cell (by omega) (by simp)
  have hz5 := hB5.size
  have hEu : ∀ u : Ws (w5.heap.size + 1) (w5.alloc (.cells #[.int .i64 0, .int .i64 0] 23)), Env u.val := fun u => hE6.below (by have := hE.size; omega) u.property
  clear hb5 hB4 hE6 g0 g1
  go_upto_region 11 with fail
  refine wp_region_wf (w5.heap.size + 1) ?_
  repeat (go_big_quiet_step ((go_at_call 8; exact Calls.in_ws (by simp) (begun_any _ (hEu _)))))
  refine wpQuiet_nil ?_
  rintro _ ⟨u, rfl⟩
  have hu := hB6.trans (u.property.mono (by omega))
  go_wp2
  go_ret
  exact ⟨rfl, hu⟩

set_option maxRecDepth 100000 in
set_option maxHeartbeats 1600000 in
theorem shows_2 (a l : Int) (s : ByteArray) (w : World) (hE : Env w) (hs : s.size ≤ maxLen) (h : rt a l = false) (c m : Int) (hr : rt c m = true) (hx : s.data.toList = showL c m) :
    Calls Tryd.prog 5 #[.agg #[.int .i64 a, .int .i64 l], .string s] w fun e w' => e = .returned (.bool true) ∧ Below w.heap.size w w' := by
  have HX : Hid (s.data.toList = showL c m) := hx
  clear hx
  have hb := chk_ne h
  go_enter Tryd.func5, Tryd.ntmps5
  go_wp2_with fail
  refine (show_bad a l _ h).mono ?_
  rintro e w1 ⟨rfl, hb1⟩
  have p0 : w1.cell? ⟨w.heap.size, 0, none⟩ = some (.int .i64 a) := (hb1.cell (p := ⟨w.heap.size, 0, none⟩) (by simp)).trans (by simp)
  have p1 : w1.cell? ⟨w.heap.size, 1, none⟩ = some (.int .i64 l) := (hb1.cell (p := ⟨w.heap.size, 1, none⟩) (by simp)).trans (by simp)
  have hB1 := (bl1 w _).trans (hb1.mono (by simp))
  clear hb1
  go_wp2_with fail
  refine (checkPrefix_any a l _).mono ?_
  rintro e w2 ⟨rfl, hb2⟩
  have q0 := cell_later hb2 p0
  have q1 := cell_later hb2 p1
  have hB2 := hB1.trans (hb2.mono hB1.size)
  clear hb2 p0 p1 hB1
  have hE2 := hE.below hE.size hB2
  go_wp2_with fail
  refine (read_eq s c m _ hE2 hr HX.out).mono ?_
  rintro e w4 ⟨rfl, hb4⟩
  have hB4 := hB2.trans (hb4.mono hB2.size)
  clear hb4 hE2 hB2
  go_wp2_with fail
  refine (from_s s c m _ hs hr HX.out).mono ?_
  rintro e w5 ⟨rfl, hb5⟩
  have g0 : w5.cell? ⟨w4.heap.size, 0, none⟩ = some (.int .i64 c) := (hb5.cell (p := ⟨w4.heap.size, 0, none⟩) (by simp)).trans (by simp)
  have g1 : w5.cell? ⟨w4.heap.size, 1, none⟩ = some (.int .i64 m) := (hb5.cell (p := ⟨w4.heap.size, 1, none⟩) (by simp)).trans (by simp)
  have hB5 := hB4.trans (((bl1 w4 _).trans (hb5.mono (by simp))).mono hB4.size)
  have hB6 := hB5.trans ((bl1 w5 (.cells #[.int .i64 c, .int .i64 m] 23)).mono hB5.size)
  have hE6 := hE.below hE.size hB6
  have x0 : ∀ u : Ws (w5.heap.size + 1) (w5.alloc (.cells #[.int .i64 c, .int .i64 m] 23)), u.val.cell? ⟨w4.heap.size, 0, none⟩ = some (.int .i64 c) := Ws.cell (Nat.lt_succ_of_lt (block_lt_of_cell g0)) (cell_later (bl1 w5 _) g0)
  have x1 : ∀ u : Ws (w5.heap.size + 1) (w5.alloc (.cells #[.int .i64 c, .int .i64 m] 23)), u.val.cell? ⟨w4.heap.size, 1, none⟩ = some (.int .i64 m) := Ws.cell (Nat.lt_succ_of_lt (block_lt_of_cell g1)) (cell_later (bl1 w5 _) g1)
  have y0 : ∀ u : Ws (w5.heap.size + 1) (w5.alloc (.cells #[.int .i64 c, .int .i64 m] 23)), u.val.cell? ⟨w5.heap.size, 0, none⟩ = some (.int .i64 c) := Ws.cell (by omega) (by simp)
  have y1 : ∀ u : Ws (w5.heap.size + 1) (w5.alloc (.cells #[.int .i64 c, .int .i64 m] 23)), u.val.cell? ⟨w5.heap.size, 1, none⟩ = some (.int .i64 m) := Ws.cell (by omega) (by simp)
  have hz5 := hB5.size
  have hEu : ∀ u : Ws (w5.heap.size + 1) (w5.alloc (.cells #[.int .i64 c, .int .i64 m] 23)), Env u.val := fun u => hE6.below (by have := hE.size; omega) u.property
  clear hb5 hB4 hE6 g0 g1
  go_upto_region 11 with fail
  refine wp_region_wf (w5.heap.size + 1) ?_
  repeat (go_big_quiet_step ((go_at_call 8; exact Calls.in_ws (by simp) (begun_any _ (hEu _)))))
  refine wpQuiet_nil ?_
  rintro _ ⟨u, rfl⟩
  have hu := hB6.trans (u.property.mono (by omega))
  go_wp2
  go_ret
  exact ⟨rfl, hu⟩

set_option maxRecDepth 100000 in
set_option maxHeartbeats 1600000 in
theorem shows_3 (a l : Int) (s : ByteArray) (w : World) (hE : Env w) (hs : s.size ≤ maxLen) (h : rt a l = true) (hno : ∀ a l, rt a l = true → s.data.toList ≠ showL a l) :
    Calls Tryd.prog 5 #[.agg #[.int .i64 a, .int .i64 l], .string s] w fun e w' => e = .returned (.bool true) ∧ Below w.heap.size w w' := by
  have HX : Hid (∀ a l, rt a l = true → s.data.toList ≠ showL a l) := hno
  clear hno
  have hb : (chk a l == 0) = true := h
  have hb0 : ((0 : Int) == chk a l) = true := by simp [chk_of_rt h]
  go_enter Tryd.func5, Tryd.ntmps5
  go_wp2_with fail
  refine (show_ok a l _ (hE.below hE.size (bl1 _ _)) h).mono ?_
  rintro e w1 ⟨rfl, hb1⟩
  have p0 : w1.cell? ⟨w.heap.size, 0, none⟩ = some (.int .i64 a) := (hb1.cell (p := ⟨w.heap.size, 0, none⟩) (by simp)).trans (by simp)
  have p1 : w1.cell? ⟨w.heap.size, 1, none⟩ = some (.int .i64 l) := (hb1.cell (p := ⟨w.heap.size, 1, none⟩) (by simp)).trans (by simp)
  have hB1 := (bl1 w _).trans (hb1.mono (by simp))
  clear hb1
  go_wp2_with fail
  refine (checkPrefix_any a l _).mono ?_
  rintro e w2 ⟨rfl, hb2⟩
  have q0 := cell_later hb2 p0
  have q1 := cell_later hb2 p1
  have hB2 := hB1.trans (hb2.mono hB1.size)
  clear hb2 p0 p1 hB1
  go_wp2_with fail
  refine (prefixText_any a l _ h).mono ?_
  rintro e w3 ⟨rfl, hb3⟩
  have hB3 := hB2.trans (hb3.mono hB2.size)
  clear hb3 q0 q1 hB2
  have hE3 := hE.below hE.size hB3
  go_wp2_with fail
  refine (read_bad s _ hE3 hs HX.out).mono ?_
  rintro e w4 ⟨rfl, hb4⟩
  have hB4 := hB3.trans (hb4.mono hB3.size)
  clear hb4 hE3 hB3
  go_wp2_with fail
  refine (from_no s _ hs HX.out).mono ?_
  rintro e w5 ⟨rfl, hb5⟩
  have g0 : w5.cell? ⟨w4.heap.size, 0, none⟩ = some (.int .i64 0) := (hb5.cell (p := ⟨w4.heap.size, 0, none⟩) (by simp)).trans (by simp)
  have g1 : w5.cell? ⟨w4.heap.size, 1, none⟩ = some (.int .i64 0) := (hb5.cell (p := ⟨w4.heap.size, 1, none⟩) (by simp)).trans (by simp)
  have hB5 := hB4.trans (((bl1 w4 _).trans (hb5.mono (by simp))).mono hB4.size)
  have hB6 := hB5.trans ((bl1 w5 (.cells #[.int .i64 0, .int .i64 0] 23)).mono hB5.size)
  have hE6 := hE.below hE.size hB6
  have x0 : ∀ u : Ws (w5.heap.size + 1) (w5.alloc (.cells #[.int .i64 0, .int .i64 0] 23)), u.val.cell? ⟨w4.heap.size, 0, none⟩ = some (.int .i64 0) := Ws.cell (Nat.lt_succ_of_lt (block_lt_of_cell g0)) (cell_later (bl1 w5 _) g0)
  have x1 : ∀ u : Ws (w5.heap.size + 1) (w5.alloc (.cells #[.int .i64 0, .int .i64 0] 23)), u.val.cell? ⟨w4.heap.size, 1, none⟩ = some (.int .i64 0) := Ws.cell (Nat.lt_succ_of_lt (block_lt_of_cell g1)) (cell_later (bl1 w5 _) g1)
  have y0 : ∀ u : Ws (w5.heap.size + 1) (w5.alloc (.cells #[.int .i64 0, .int .i64 0] 23)), u.val.cell? ⟨w5.heap.size, 0, none⟩ = some (.int .i64 0) := Ws.cell (by omega) (by simp)
  have y1 : ∀ u : Ws (w5.heap.size + 1) (w5.alloc (.cells #[.int .i64 0, .int .i64 0] 23)), u.val.cell? ⟨w5.heap.size, 1, none⟩ = some (.int .i64 0) := Ws.cell (by omega) (by simp)
  have hz5 := hB5.size
  have hEu : ∀ u : Ws (w5.heap.size + 1) (w5.alloc (.cells #[.int .i64 0, .int .i64 0] 23)), Env u.val := fun u => hE6.below (by have := hE.size; omega) u.property
  clear hb5 hB4 hE6 g0 g1
  go_upto_region 11 with fail
  refine wp_region_wf (w5.heap.size + 1) ?_
  repeat (go_big_quiet_step ((go_at_call 8; exact Calls.in_ws (by simp) (begun_any _ (hEu _)))))
  refine wpQuiet_nil ?_
  rintro _ ⟨u, rfl⟩
  have hu := hB6.trans (u.property.mono (by omega))
  go_wp2
  go_ret
  exact ⟨rfl, hu⟩

set_option maxRecDepth 100000 in
set_option maxHeartbeats 1600000 in
theorem shows_4 (a l : Int) (s : ByteArray) (w : World) (hE : Env w) (hs : s.size ≤ maxLen) (h : rt a l = true) (c m : Int) (hr : rt c m = true) (hx : s.data.toList = showL c m) :
    Calls Tryd.prog 5 #[.agg #[.int .i64 a, .int .i64 l], .string s] w fun e w' => e = .returned (.bool true) ∧ Below w.heap.size w w' := by
  have HX : Hid (s.data.toList = showL c m) := hx
  clear hx
  have hb : (chk a l == 0) = true := h
  have hb0 : ((0 : Int) == chk a l) = true := by simp [chk_of_rt h]
  go_enter Tryd.func5, Tryd.ntmps5
  go_wp2_with fail
  refine (show_ok a l _ (hE.below hE.size (bl1 _ _)) h).mono ?_
  rintro e w1 ⟨rfl, hb1⟩
  have p0 : w1.cell? ⟨w.heap.size, 0, none⟩ = some (.int .i64 a) := (hb1.cell (p := ⟨w.heap.size, 0, none⟩) (by simp)).trans (by simp)
  have p1 : w1.cell? ⟨w.heap.size, 1, none⟩ = some (.int .i64 l) := (hb1.cell (p := ⟨w.heap.size, 1, none⟩) (by simp)).trans (by simp)
  have hB1 := (bl1 w _).trans (hb1.mono (by simp))
  clear hb1
  go_wp2_with fail
  refine (checkPrefix_any a l _).mono ?_
  rintro e w2 ⟨rfl, hb2⟩
  have q0 := cell_later hb2 p0
  have q1 := cell_later hb2 p1
  have hB2 := hB1.trans (hb2.mono hB1.size)
  clear hb2 p0 p1 hB1
  go_wp2_with fail
  refine (prefixText_any a l _ h).mono ?_
  rintro e w3 ⟨rfl, hb3⟩
  have hB3 := hB2.trans (hb3.mono hB2.size)
  clear hb3 q0 q1 hB2
  have hE3 := hE.below hE.size hB3
  go_wp2_with fail
  refine (read_eq s c m _ hE3 hr HX.out).mono ?_
  rintro e w4 ⟨rfl, hb4⟩
  have hB4 := hB3.trans (hb4.mono hB3.size)
  clear hb4 hE3 hB3
  go_wp2_with fail
  refine (from_s s c m _ hs hr HX.out).mono ?_
  rintro e w5 ⟨rfl, hb5⟩
  have g0 : w5.cell? ⟨w4.heap.size, 0, none⟩ = some (.int .i64 c) := (hb5.cell (p := ⟨w4.heap.size, 0, none⟩) (by simp)).trans (by simp)
  have g1 : w5.cell? ⟨w4.heap.size, 1, none⟩ = some (.int .i64 m) := (hb5.cell (p := ⟨w4.heap.size, 1, none⟩) (by simp)).trans (by simp)
  have hB5 := hB4.trans (((bl1 w4 _).trans (hb5.mono (by simp))).mono hB4.size)
  have hB6 := hB5.trans ((bl1 w5 (.cells #[.int .i64 c, .int .i64 m] 23)).mono hB5.size)
  have hE6 := hE.below hE.size hB6
  have x0 : ∀ u : Ws (w5.heap.size + 1) (w5.alloc (.cells #[.int .i64 c, .int .i64 m] 23)), u.val.cell? ⟨w4.heap.size, 0, none⟩ = some (.int .i64 c) := Ws.cell (Nat.lt_succ_of_lt (block_lt_of_cell g0)) (cell_later (bl1 w5 _) g0)
  have x1 : ∀ u : Ws (w5.heap.size + 1) (w5.alloc (.cells #[.int .i64 c, .int .i64 m] 23)), u.val.cell? ⟨w4.heap.size, 1, none⟩ = some (.int .i64 m) := Ws.cell (Nat.lt_succ_of_lt (block_lt_of_cell g1)) (cell_later (bl1 w5 _) g1)
  have y0 : ∀ u : Ws (w5.heap.size + 1) (w5.alloc (.cells #[.int .i64 c, .int .i64 m] 23)), u.val.cell? ⟨w5.heap.size, 0, none⟩ = some (.int .i64 c) := Ws.cell (by omega) (by simp)
  have y1 : ∀ u : Ws (w5.heap.size + 1) (w5.alloc (.cells #[.int .i64 c, .int .i64 m] 23)), u.val.cell? ⟨w5.heap.size, 1, none⟩ = some (.int .i64 m) := Ws.cell (by omega) (by simp)
  have hz5 := hB5.size
  have hEu : ∀ u : Ws (w5.heap.size + 1) (w5.alloc (.cells #[.int .i64 c, .int .i64 m] 23)), Env u.val := fun u => hE6.below (by have := hE.size; omega) u.property
  clear hb5 hB4 hE6 g0 g1
  go_upto_region 11 with fail
  refine wp_region_wf (w5.heap.size + 1) ?_
  repeat (go_big_quiet_step ((go_at_call 8; exact Calls.in_ws (by simp) (begun_any _ (hEu _)))))
  refine wpQuiet_nil ?_
  rintro _ ⟨u, rfl⟩
  have hu := hB6.trans (u.property.mono (by omega))
  go_wp2
  go_ret
  exact ⟨rfl, hu⟩

theorem shows_any (a l : Int) (s : ByteArray) (w : World) (hE : Env w) (hs : s.size ≤ maxLen) :
    Calls Tryd.prog 5 #[.agg #[.int .i64 a, .int .i64 l], .string s] w fun e w' => e = .returned (.bool true) ∧ Below w.heap.size w w' := by
  by_cases hx : ∃ p : Int × Int, rt p.1 p.2 = true ∧ s.data.toList = showL p.1 p.2
  · obtain ⟨⟨c, m⟩, hr, hsl⟩ := hx
    cases h : rt a l
    · exact shows_2 a l s w hE hs h c m hr hsl
    · exact shows_4 a l s w hE hs h c m hr hsl
  · have hno : ∀ a l, rt a l = true → s.data.toList ≠ showL a l := fun a l h1 h2 => hx ⟨(a, l), h1, h2⟩
    cases h : rt a l
    · exact shows_1 a l s w hE hs h hno
    · exact shows_3 a l s w hE hs h hno
end Go.Proofs.YtgojhaicaolbaaaDoor
