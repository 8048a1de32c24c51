/- What the document's own answers on prefixes (package parcelwayref) come to. -/
import Derived.Test.YtbnkgecblaffeaaB
namespace Go.Proofs.Ytbnkgecblaffeaa
open Go.RowKit

theorem sp_eq (l : Int) (h0 : 0 ≤ l) (h1 : l ≤ 16) : sp l = (2 : Int) ^ (16 - l).toNat := by
  rcases l_cases l h0 h1 with rfl | rfl | rfl | rfl | rfl | rfl | rfl | rfl | rfl | rfl | rfl | rfl | rfl | rfl | rfl | rfl | rfl <;> decide

theorem sp_dvd {l m : Int} (h0 : 0 ≤ m) (h1 : m ≤ l) (h2 : l ≤ 16) : sp l ∣ sp m := by
  rw [sp_eq l (by omega) h2, sp_eq m h0 (by omega)]
  have h : (16 - m).toNat = (16 - l).toNat + (l - m).toNat := by omega
  rw [h, Int.pow_add]
  exact Int.dvd_mul_right _ _

theorem sp_anti {l m : Int} (h0 : 0 ≤ m) (h1 : m ≤ l) (h2 : l ≤ 16) : sp l ≤ sp m :=
  Int.le_of_dvd (sp_pos m) (sp_dvd h0 h1 h2)

theorem sp_strict {l m : Int} (h0 : 0 ≤ l) (h1 : l < m) (h2 : m ≤ 16) : 2 * sp m ≤ sp l := by
  have h := sp_anti (l := l + 1) (m := l + 1) (by omega) (by omega) (by omega)
  have h3 := sp_anti (l := m) (m := l + 1) (by omega) (by omega) h2
  have h4 : sp l = 2 * sp (l + 1) := by
    rw [sp_eq l h0 (by omega), sp_eq (l + 1) (by omega) (by omega)]
    have : (16 - l).toNat = (16 - (l + 1)).toNat + 1 := by omega
    rw [this, Int.pow_succ]
    omega
  omega

/-- Two multiples of s: what is less is less by s at least. -/
theorem step_le {s a e : Int} (hs : 0 < s) (ha : s ∣ a) (he : s ∣ e) (h : a < e) : a + s ≤ e := by
  obtain ⟨x, rfl⟩ := ha
  obtain ⟨y, rfl⟩ := he
  have hxy : x < y := Int.lt_of_mul_lt_mul_left h (Int.le_of_lt hs)
  have h1 : s * (x + 1) ≤ s * y := Int.mul_le_mul_of_nonneg_left (by omega) (Int.le_of_lt hs)
  rw [Int.mul_add, Int.mul_one] at h1
  exact h1

theorem ins_iff (a l c m : Int) (h1 : rt a l = true) (h2 : rt c m = true) : ins a l c m = (hld c m a && hld c m (a + sp l - 1)) := by
  obtain ⟨l0, l1, a0, a1, ad⟩ := rt_range h1
  obtain ⟨m0, m1, c0, c1, cd⟩ := rt_range h2
  have pl := sp_pos l
  have pm := sp_pos m
  unfold ins hld
  rw [h1, h2]
  rw [Bool.eq_iff_iff]
  simp only [Bool.true_and, Bool.and_eq_true, decide_eq_true_eq]
  constructor
  · rintro ⟨hml, h3, h4⟩
    have hd := sp_dvd m0 hml l1
    have := step_le pl (Int.dvd_of_emod_eq_zero ad) (Int.dvd_add (Int.dvd_trans hd (Int.dvd_of_emod_eq_zero cd)) hd) h4
    omega
  · rintro ⟨⟨h3, h4⟩, h5, h6⟩
    refine ⟨?_, h3, h4⟩
    by_cases hml : m ≤ l
    · exact hml
    · have := sp_strict l0 (by omega) m1
      omega

theorem mts_iff (a l c m : Int) (h1 : rt a l = true) (h2 : rt c m = true) : mts a l c m = (decide (a ≤ c + sp m - 1) && decide (c ≤ a + sp l - 1)) := by
  obtain ⟨l0, l1, a0, a1, ad⟩ := rt_range h1
  obtain ⟨m0, m1, c0, c1, cd⟩ := rt_range h2
  have pl := sp_pos l
  have pm := sp_pos m
  unfold mts ins hld
  rw [h1, h2]
  rw [Bool.eq_iff_iff]
  simp only [Bool.true_and, Bool.and_eq_true, Bool.or_eq_true, decide_eq_true_eq]
  constructor
  · rintro (⟨hml, h3, h4⟩ | ⟨hml, h3, h4⟩) <;> omega
  · rintro ⟨h3, h4⟩
    by_cases hml : m ≤ l
    · left
      refine ⟨hml, ?_, by omega⟩
      have hd := sp_dvd m0 hml l1
      by_cases hca : c ≤ a
      · exact hca
      · have := step_le pl (Int.dvd_of_emod_eq_zero ad) (Int.dvd_trans hd (Int.dvd_of_emod_eq_zero cd)) (by omega)
        omega
    · right
      refine ⟨by omega, ?_, by omega⟩
      have hd := sp_dvd l0 (show l ≤ m by omega) m1
      by_cases hca : a ≤ c
      · exact hca
      · have := step_le pm (Int.dvd_of_emod_eq_zero cd) (Int.dvd_trans hd (Int.dvd_of_emod_eq_zero ad)) (by omega)
        omega

def wth (x lo hi : Int) : Bool := decide (lo ≤ x) && decide (x ≤ hi)

set_option maxHeartbeats 400000 in
theorem within_any (x lo hi : Int) (w : World) :
    Calls Try.prog 51 #[.int .i64 x, .int .i64 lo, .int .i64 hi] w fun e w' => e = .returned (.bool (wth x lo hi)) ∧ w' = w := by
  unfold wth
  by_cases h : lo ≤ x
  · go_enter Try.func51, Try.ntmps51
    go_wp2
    go_ret
    exact ⟨by rw [decide_eq_true h]; rfl, rfl⟩
  · have hd : decide (lo ≤ x) = false := by simpa using h
    go_enter Try.func51, Try.ntmps51
    go_wp2
    go_ret
    exact ⟨by first | (rw [hd]; rfl) | rfl, rfl⟩

set_option maxHeartbeats 400000 in
theorem sizeOf_any (l : Int) (w : World) (h0 : 0 ≤ l) (h1 : l ≤ 16) :
    Calls Try.prog 31 #[.int .i64 l] w fun e w' => e = .returned (.int .i64 (sp l)) ∧ w' = w := by
  rcases l_cases l h0 h1 with rfl | rfl | rfl | rfl | rfl | rfl | rfl | rfl | rfl | rfl | rfl | rfl | rfl | rfl | rfl | rfl | rfl
  all_goals clear h0 h1
  all_goals go_enter Try.func31, Try.ntmps31
  all_goals go_wp2
  all_goals go_ret
  all_goals exact ⟨rfl, rfl⟩

theorem bl1 (w : World) (o : Obj) : Below w.heap.size w (w.alloc o) := (Below.refl _ _).alloc (Nat.le_refl _) _
theorem bl2 (w : World) (o p : Obj) : Below w.heap.size w ((w.alloc o).alloc p) := (bl1 w o).alloc (by simp) _

set_option maxHeartbeats 400000 in
theorem checkPrefix_any (a l : Int) (w : World) :
    Calls Try.prog 50 #[.agg #[.int .i64 a, .int .i64 l]] w fun e w' => e = .returned (.int .i64 (chk a l)) ∧ Below w.heap.size w w' := by
  unfold chk
  by_cases h : l < 0 ∨ 16 < l
  · rw [if_pos (by omega)]
    have hw : wth l 0 16 = false := by unfold wth; simp; omega
    clear h
    go_enter Try.func50, Try.ntmps50
    go_wp2_with (go_at_call 51; refine (within_any _ _ _ _).mono ?_; rintro e w1 ⟨rfl, rfl⟩)
    go_ret
    exact ⟨rfl, bl1 _ _⟩
  · have hw : wth l 0 16 = true := by unfold wth; simp; omega
    by_cases h2 : a < 0 ∨ 65535 < a
    · rw [if_pos (by omega)]
      have hw2 : wth a 0 65535 = false := by unfold wth; simp; omega
      clear h h2
      go_enter Try.func50, Try.ntmps50
      go_wp2_with (go_at_call 51; refine (within_any _ _ _ _).mono ?_; rintro e w1 ⟨rfl, rfl⟩)
      go_ret
      exact ⟨rfl, bl1 _ _⟩
    · rw [if_neg (by omega)]
      have hw2 : wth a 0 65535 = true := by unfold wth; simp; omega
      have h0 : 0 ≤ l := by omega
      have h1 : l ≤ 16 := by omega
      have h3 : 0 ≤ a := by omega
      have h4 : a ≤ 65535 := by omega
      have hp := sp_pos l
      have hz : sp l ≠ 0 := by omega
      clear h h2
      by_cases hm : a % sp l = 0
      · rw [if_pos hm]
        have hb : (a % sp l != 0) = false := by simp [hm]
        clear hm
        go_enter Try.func50, Try.ntmps50
        go_wp2_with (go_at_call 51; refine (within_any _ _ _ _).mono ?_; rintro e w1 ⟨rfl, rfl⟩)
        go_quiet ((go_at_call 31; exact Calls.quiet_of_same (sizeOf_any _ _ (by omega) (by omega))))
        go_wp2
        go_ret
        exact ⟨rfl, below_drewN (bl1 _ _) _⟩
      · rw [if_neg hm]
        have hb : (a % sp l != 0) = true := by simp [hm]
        clear hm
        go_enter Try.func50, Try.ntmps50
        go_wp2_with (go_at_call 51; refine (within_any _ _ _ _).mono ?_; rintro e w1 ⟨rfl, rfl⟩)
        go_quiet ((go_at_call 31; exact Calls.quiet_of_same (sizeOf_any _ _ (by omega) (by omega))))
        go_wp2
        go_ret
        exact ⟨rfl, below_drewN (bl1 _ _) _⟩

set_option maxHeartbeats 400000 in
theorem right_any (a l : Int) (w : World) :
    Calls Try.prog 28 #[.agg #[.int .i64 a, .int .i64 l]] w fun e w' => e = .returned (.bool (rt a l)) ∧ Below w.heap.size w w' := by
  unfold rt
  go_enter Try.func28, Try.ntmps28
  go_wp2_with (go_at_call 50; refine (checkPrefix_any _ _ _).mono ?_; rintro e w1 ⟨rfl, hb1⟩)
  go_ret
  exact ⟨rfl, (bl1 _ _).trans (hb1.mono (by simp))⟩

set_option maxHeartbeats 400000 in
theorem last_any (a l : Int) (w : World) (h0 : 0 ≤ l) (h1 : l ≤ 16) (h2 : 0 ≤ a) (h3 : a ≤ 65535) :
    Calls Try.prog 32 #[.agg #[.int .i64 a, .int .i64 l]] w fun e w' => e = .returned (.int .i64 (a + sp l - 1)) ∧ Below w.heap.size w w' := by
  have hp := sp_pos l
  have hq := sp_le l
  go_enter Try.func32, Try.ntmps32
  go_wp2
  go_quiet ((go_at_call 31; exact Calls.quiet_of_same (sizeOf_any _ _ (by omega) (by omega))))
  go_wp2
  go_ret
  exact ⟨rfl, below_drewN (bl1 _ _) _⟩

theorem ret_bool {a b : Bool} (h : a = b) : Ending.returned (.bool a) = .returned (.bool b) := by rw [h]
theorem ret_int {a b : Int} (h : a = b) : Ending.returned (.int .i64 a) = .returned (.int .i64 b) := by rw [h]

/-- Two structs of two integers, boxed: their cells in every world of the class. -/
theorem two_cells (w : World) (a l c m : Int) (t : TypeId) : (∀ u : Ws (w.heap.size + 1 + 1) ((w.alloc (.cells #[.int .i64 a, .int .i64 l] t)).alloc (.cells #[.int .i64 c, .int .i64 m] t)),
      u.val.cell? ⟨w.heap.size, 0, none⟩ = some (.int .i64 a)) ∧ (∀ u : Ws (w.heap.size + 1 + 1) ((w.alloc (.cells #[.int .i64 a, .int .i64 l] t)).alloc (.cells #[.int .i64 c, .int .i64 m] t)), u.val.cell? ⟨w.heap.size, 1, none⟩ = some (.int .i64 l)) ∧
    (∀ u : Ws (w.heap.size + 1 + 1) ((w.alloc (.cells #[.int .i64 a, .int .i64 l] t)).alloc (.cells #[.int .i64 c, .int .i64 m] t)), u.val.cell? ⟨w.heap.size + 1, 0, none⟩ = some (.int .i64 c)) ∧
    (∀ u : Ws (w.heap.size + 1 + 1) ((w.alloc (.cells #[.int .i64 a, .int .i64 l] t)).alloc (.cells #[.int .i64 c, .int .i64 m] t)), u.val.cell? ⟨w.heap.size + 1, 1, none⟩ = some (.int .i64 m)) := by
  refine ⟨Ws.cell (by omega) ?_, Ws.cell (by omega) ?_, Ws.cell (by omega) ?_, Ws.cell (by omega) ?_⟩ <;> simp

set_option maxHeartbeats 400000 in
theorem holdsIt_any (a l x : Int) (w : World) :
    Calls Try.prog 34 #[.agg #[.int .i64 a, .int .i64 l], .int .i64 x] w fun e w' => e = .returned (.bool (hld a l x)) ∧ Below w.heap.size w w' := by
  unfold hld
  have d0 := Ws.cell (n := w.heap.size + 1) (w := w.alloc (.cells #[.int .i64 a, .int .i64 l] 23)) (b := w.heap.size) (o := 0) (v := some (.int .i64 a)) (by omega) (by simp)
  have d1 := Ws.cell (n := w.heap.size + 1) (w := w.alloc (.cells #[.int .i64 a, .int .i64 l] 23)) (b := w.heap.size) (o := 1) (v := some (.int .i64 l)) (by omega) (by simp)
  cases hrt : rt a l
  · go_enter Try.func34, Try.ntmps34
    go_wp2
    refine wp_region_ws (w.heap.size + 1) (by kernel_rfl) (by kernel_rfl) ?_
    repeat (go_big_quiet_step ((go_at_call 28; exact Calls.in_ws (by simp) (hrt ▸ right_any _ _ _))))
    refine wpQuiet_nil ?_
    rintro _ ⟨u, rfl⟩
    have hu := (bl1 w _).trans (u.property.mono (Nat.le_succ _))
    go_wp2
    go_ret
    exact ⟨by rfl, hu⟩
  · obtain ⟨h0, h1, h2, h3, -⟩ := rt_range hrt
    go_enter Try.func34, Try.ntmps34
    go_wp2
    refine wp_region_ws (w.heap.size + 1) (by kernel_rfl) (by kernel_rfl) ?_
    repeat (go_big_quiet_step (first | (go_at_call 28; exact Calls.in_ws (by simp) (hrt ▸ right_any _ _ _)) | (go_at_call 32; exact Calls.in_ws (by simp) (last_any _ _ _ (by omega) (by omega) (by omega) (by omega))) | (go_at_call 51; exact Calls.in_ws_same (within_any _ _ _ _))))
    refine wpQuiet_nil ?_
    rintro _ ⟨u, rfl⟩
    have hu := (bl1 w _).trans (u.property.mono (Nat.le_succ _))
    go_wp2
    go_ret
    refine ⟨ret_bool ?_, hu⟩
    unfold wth
    rw [Bool.eq_iff_iff]
    simp only [Bool.true_and, Bool.and_eq_true, decide_eq_true_eq]
    omega
end Go.Proofs.Ytbnkgecblaffeaa
