/- What right, Size, Holds, Inside and Meets of package cidr answer and do to the world. -/
import Derived.Test.YtbnkgecblaffeaaA
namespace Go.Proofs.Ytbnkgecblaffeaa
open Go.RowKit

def rt (a l : Int) : Bool := chk a l == 0

set_option maxHeartbeats 400000 in
theorem right1 (b : Nat) (a l : Int) (w : World) (hb : b < w.heap.size) (hc0 : w.cell? ⟨b, 0, none⟩ = some (.int .i64 a)) (hc1 : w.cell? ⟨b, 1, none⟩ = some (.int .i64 l)) :
    Calls Try.prog 43 #[.slice (some ⟨b, 0, none⟩) 1 1] w fun e w' => e = .returned (.bool (rt a l)) ∧ Below w.heap.size w w' := by
  go_enter Try.func43, Try.ntmps43
  go_wp2
  go_loopw [7] (fun i wr => ∃ k : Nat, k ≤ 1 ∧ i = .int .i64 k ∧ Below w.heap.size w wr ∧ (k = 1 → rt a l = true)) (fun i _ => 1 - (intOf i).toNat)
  case atStart => exact ⟨0, by omega, rfl, Below.refl _ _, by omega⟩
  case round =>
    obtain ⟨k, hk, rfl, hB, hr⟩ := hrel
    have c0 : wr.cell? ⟨b, 0, none⟩ = some (.int .i64 a) := (hB.cell (p := ⟨b, 0, none⟩) hb).trans hc0
    have c1 : wr.cell? ⟨b, 1, none⟩ = some (.int .i64 l) := (hB.cell (p := ⟨b, 1, none⟩) hb).trans hc1
    have hk01 : k = 0 ∨ k = 1 := by omega
    clear hc0 hc1
    rcases hk01 with rfl | rfl
    · cases hrt : rt a l
      · have hne : (chk a l != 0) = true := by unfold rt at hrt; simpa [bne] using hrt
        clear hr
        go_wp2_with (go_at_call 36; refine (check_any _ _ _).mono ?_; rintro e w1 ⟨rfl, hb1⟩)
        go_ret
        exact ⟨by rw [hrt]; rfl, hB.trans (((Below.refl _ _).alloc hB.size _).trans (hb1.mono (by simp; have := hB.size; omega)))⟩
      · have hne : (chk a l != 0) = false := by unfold rt at hrt; simpa [bne] using hrt
        clear hr
        go_wp2_with (go_at_call 36; refine (check_any _ _ _).mono ?_; rintro e w1 ⟨rfl, hb1⟩)
        go_roundw
        case rel => exact ⟨1, by omega, rfl, hB.trans (((Below.refl _ _).alloc hB.size _).trans (hb1.mono (by simp; have := hB.size; omega))), fun _ => trivial⟩
        case measure => simp [intOf]
    · have hr1 := hr rfl
      rw [hr1]
      go_wp2
      go_ret
      exact ⟨rfl, hB⟩

theorem ne_of_rt {a l : Int} {t : Bool} (h : rt a l = t) : (chk a l != 0) = !t := by
  unfold rt at h
  simp [bne, h]

set_option maxHeartbeats 400000 in
theorem right2 (b : Nat) (a l c m : Int) (w : World) (hb : b < w.heap.size) (hc0 : w.cell? ⟨b, 0, none⟩ = some (.int .i64 a)) (hc1 : w.cell? ⟨b, 1, none⟩ = some (.int .i64 l))
    (hc2 : w.cell? ⟨b, 2, none⟩ = some (.int .i64 c)) (hc3 : w.cell? ⟨b, 3, none⟩ = some (.int .i64 m)) :
    Calls Try.prog 43 #[.slice (some ⟨b, 0, none⟩) 2 2] w fun e w' => e = .returned (.bool (rt a l && rt c m)) ∧ Below w.heap.size w w' := by
  go_enter Try.func43, Try.ntmps43
  go_wp2
  go_loopw [7] (fun i wr => ∃ k : Nat, k ≤ 2 ∧ i = .int .i64 k ∧ Below w.heap.size w wr ∧ (1 ≤ k → rt a l = true) ∧ (2 ≤ k → rt c m = true)) (fun i _ => 2 - (intOf i).toNat)
  case atStart => exact ⟨0, by omega, rfl, Below.refl _ _, by omega, by omega⟩
  case round =>
    obtain ⟨k, hk, rfl, hB, hr, hr2⟩ := hrel
    have c0 : wr.cell? ⟨b, 0, none⟩ = some (.int .i64 a) := (hB.cell (p := ⟨b, 0, none⟩) hb).trans hc0
    have c1 : wr.cell? ⟨b, 1, none⟩ = some (.int .i64 l) := (hB.cell (p := ⟨b, 1, none⟩) hb).trans hc1
    have c2 : wr.cell? ⟨b, 2, none⟩ = some (.int .i64 c) := (hB.cell (p := ⟨b, 2, none⟩) hb).trans hc2
    have c3 : wr.cell? ⟨b, 3, none⟩ = some (.int .i64 m) := (hB.cell (p := ⟨b, 3, none⟩) hb).trans hc3
    have hk01 : k = 0 ∨ k = 1 ∨ k = 2 := by omega
    clear hc0 hc1 hc2 hc3
    rcases hk01 with rfl | rfl | rfl
    · cases hrt : rt a l
      · have hne : (chk a l != 0) = true := ne_of_rt hrt
        clear hr hr2
        go_wp2_with (go_at_call 36; refine (check_any _ _ _).mono ?_; rintro e w1 ⟨rfl, hb1⟩)
        go_ret
        exact ⟨by rw [hrt]; rfl, hB.trans (((Below.refl _ _).alloc hB.size _).trans (hb1.mono (by simp; have := hB.size; omega)))⟩
      · have hne : (chk a l != 0) = false := ne_of_rt hrt
        clear hr hr2
        go_wp2_with (go_at_call 36; refine (check_any _ _ _).mono ?_; rintro e w1 ⟨rfl, hb1⟩)
        go_roundw
        case rel => exact ⟨1, by omega, rfl, hB.trans (((Below.refl _ _).alloc hB.size _).trans (hb1.mono (by simp; have := hB.size; omega))), fun _ => trivial, by omega⟩
        case measure => simp [intOf]
    · have hr1 := hr (by omega)
      cases hrt : rt c m
      · have hne : (chk c m != 0) = true := ne_of_rt hrt
        clear hr hr2
        go_wp2_with (go_at_call 36; refine (check_any _ _ _).mono ?_; rintro e w1 ⟨rfl, hb1⟩)
        go_ret
        exact ⟨by rw [hr1, hrt]; rfl, hB.trans (((Below.refl _ _).alloc hB.size _).trans (hb1.mono (by simp; have := hB.size; omega)))⟩
      · have hne : (chk c m != 0) = false := ne_of_rt hrt
        clear hr hr2
        go_wp2_with (go_at_call 36; refine (check_any _ _ _).mono ?_; rintro e w1 ⟨rfl, hb1⟩)
        go_roundw
        case rel => exact ⟨2, by omega, rfl, hB.trans (((Below.refl _ _).alloc hB.size _).trans (hb1.mono (by simp; have := hB.size; omega))), fun _ => hr1, fun _ => trivial⟩
        case measure => simp [intOf]
    · have hr1 := hr (by omega)
      have hr3 := hr2 (by omega)
      go_wp2
      go_ret
      exact ⟨by rw [hr1, hr3]; rfl, hB⟩


theorem rt_range {a l : Int} (h : rt a l = true) : 0 ≤ l ∧ l ≤ 16 ∧ 0 ≤ a ∧ a ≤ 65535 ∧ a % sp l = 0 := by
  unfold rt chk at h
  by_cases g : l < 0 ∨ 16 < l ∨ a < 0 ∨ 65535 < a
  · rw [if_pos g] at h; simp at h
  · rw [if_neg g] at h
    by_cases g2 : a % sp l = 0
    · exact ⟨by omega, by omega, by omega, by omega, g2⟩
    · rw [if_neg g2] at h; simp at h

set_option maxHeartbeats 400000 in
theorem size_any (a l : Int) (w : World) :
    Calls Try.prog 22 #[.agg #[.int .i64 a, .int .i64 l]] w fun e w' => e = .returned (.int .i64 (if rt a l then sp l else 0)) ∧ Below w.heap.size w w' := by
  cases hrt : rt a l
  · go_enter Try.func22, Try.ntmps22
    go_wp2_with (go_at_call 43; refine (right1 (w.heap.size + 1) a l _ (by simp) (by simp) (by simp)).mono ?_; rintro e w1 ⟨rfl, hb1⟩)
    go_ret
    exact ⟨rfl, (((Below.refl _ _).alloc (Nat.le_refl _) _).alloc (by simp) _).trans (hb1.mono (by simp; omega))⟩
  · obtain ⟨h0, h1, -, -, -⟩ := rt_range hrt
    go_enter Try.func22, Try.ntmps22
    go_wp2_with fail
    refine (right1 (w.heap.size + 1) a l _ (by simp) (by simp) (by simp)).mono ?_
    rintro e w1 ⟨rfl, hb1⟩
    rw [hrt]
    have hc1 : w1.cell? ⟨w.heap.size, 1, none⟩ = some (.int .i64 l) := (hb1.cell (p := ⟨w.heap.size, 1, none⟩) (by simp; omega)).trans (by simp)
    go_wp2_with (go_at_call 44; refine (span_any _ _ (by omega) (by omega)).mono ?_; rintro e w2 ⟨rfl, rfl⟩)
    go_ret
    exact ⟨rfl, (((Below.refl _ _).alloc (Nat.le_refl _) _).alloc (by simp) _).trans (hb1.mono (by simp; omega))⟩

def hld (a l x : Int) : Bool := rt a l && decide (a ≤ x) && decide (x < a + sp l)

set_option maxHeartbeats 400000 in
theorem holds_any (a l x : Int) (w : World) :
    Calls Try.prog 23 #[.agg #[.int .i64 a, .int .i64 l], .int .i64 x] w fun e w' => e = .returned (.bool (hld a l x)) ∧ Below w.heap.size w w' := by
  unfold hld
  go_enter Try.func23, Try.ntmps23
  go_wp2
  refine wp_region_any (by kernel_rfl) ?_
  change wpAny _ _ _ _ _ _ _ (World.drew _)
  refine wpAny_ready (rs := [0]) (by kernel_rfl) (by simp) ?_
  refine AllReady.cons rfl (fun K hK => ?_) AllReady.nil
  go_simp
  refine hK _ _ ?_
  clear hK K
  refine wpAny_ready (rs := [1]) (by kernel_rfl) (by simp) ?_
  refine AllReady.cons rfl (fun K hK => ?_) AllReady.nil
  go_simp
  refine hK _ _ ?_
  clear hK K
  refine wpAny_ready (rs := [2]) (by kernel_rfl) (by simp) ?_
  refine AllReady.cons rfl (fun K hK => ?_) AllReady.nil
  go_simp
  refine (right1 (w.heap.size + 1) a l _ (by simp) (by simp) (by simp)).mono ?_
  rintro e w1 ⟨rfl, hb1⟩
  refine hK _ _ ?_
  clear hK K
  have e0 : w1.cell? ⟨w.heap.size, 0, none⟩ = some (.int .i64 a) := (hb1.cell (p := ⟨w.heap.size, 0, none⟩) (by simp; omega)).trans (by simp)
  have e1 : w1.cell? ⟨w.heap.size, 1, none⟩ = some (.int .i64 l) := (hb1.cell (p := ⟨w.heap.size, 1, none⟩) (by simp; omega)).trans (by simp)
  have hz1 := hb1.size
  simp at hz1
  have d0 := Ws.cell (n := w.heap.size + 1) (w := w1) (by omega) e0
  have d1 := Ws.cell (n := w.heap.size + 1) (w := w1) (by omega) e1
  refine wpAny_ws (w.heap.size + 1) 3 (by kernel_rfl) rfl rfl (by kernel_rfl) ?_
  simp only [List.drop_succ_cons, List.drop_zero]
  have hB : Below w.heap.size w w1 := ((((Below.refl _ _).alloc (Nat.le_refl _) _).alloc (by simp) _).drew).trans (hb1.mono (by simp; omega))
  clear hb1 hz1 e0 e1
  cases hrt : rt a l
  · repeat (go_big_quiet_step (fail))
    refine wpQuiet_nil ?_
    rintro _ ⟨u, rfl⟩
    have hu := hB.trans (u.property.mono (Nat.le_succ _))
    go_wp2
    go_ret
    exact ⟨by rw [hrt]; rfl, hu⟩
  · obtain ⟨h0, h1, h2, h3, -⟩ := rt_range hrt
    have hp := sp_le l
    have hp2 := sp_pos l
    by_cases hax : a ≤ x
    · repeat (go_big_quiet_step ((go_at_call 44; exact Calls.in_ws_same (span_any _ _ (by omega) (by omega)))))
      refine wpQuiet_nil ?_
      rintro _ ⟨u, rfl⟩
      have hu := hB.trans (u.property.mono (Nat.le_succ _))
      go_wp2
      go_ret
      exact ⟨by rw [hrt, decide_eq_true hax]; rfl, hu⟩
    · have hd : decide (a ≤ x) = false := by simpa using hax
      repeat (go_big_quiet_step (fail))
      refine wpQuiet_nil ?_
      rintro _ ⟨u, rfl⟩
      have hu := hB.trans (u.property.mono (Nat.le_succ _))
      go_wp2
      go_ret
      exact ⟨by first | (rw [hrt, hd]; rfl) | rfl, hu⟩

def ins (a l c m : Int) : Bool := rt a l && rt c m && decide (m ≤ l) && hld c m a

set_option maxHeartbeats 400000 in
theorem inside_any (a l c m : Int) (w : World) :
    Calls Try.prog 20 #[.agg #[.int .i64 a, .int .i64 l], .agg #[.int .i64 c, .int .i64 m]] w fun e w' => e = .returned (.bool (ins a l c m)) ∧ Below w.heap.size w w' := by
  unfold ins
  go_enter Try.func20, Try.ntmps20
  go_wp2_with fail
  refine (right2 (w.heap.size + 1 + 1) a l c m _ (by simp) (by go_simp) (by go_simp) (by go_simp) (by go_simp)).mono ?_
  rintro e w1 ⟨rfl, hb1⟩
  have e0 : w1.cell? ⟨w.heap.size, 0, none⟩ = some (.int .i64 a) := (hb1.cell (p := ⟨w.heap.size, 0, none⟩) (by simp; omega)).trans (by go_simp)
  have e1 : w1.cell? ⟨w.heap.size, 1, none⟩ = some (.int .i64 l) := (hb1.cell (p := ⟨w.heap.size, 1, none⟩) (by simp; omega)).trans (by go_simp)
  have e2 : w1.cell? ⟨w.heap.size + 1, 0, none⟩ = some (.int .i64 c) := (hb1.cell (p := ⟨w.heap.size + 1, 0, none⟩) (by simp)).trans (by go_simp)
  have e3 : w1.cell? ⟨w.heap.size + 1, 1, none⟩ = some (.int .i64 m) := (hb1.cell (p := ⟨w.heap.size + 1, 1, none⟩) (by simp)).trans (by go_simp)
  have hB : Below w.heap.size w w1 := ((((Below.refl _ _).alloc (Nat.le_refl _) _).alloc (by simp) _).alloc (by simp; omega) _).trans (hb1.mono (by simp; omega))
  clear hb1
  cases hrt : (rt a l && rt c m)
  · go_wp2
    go_ret
    exact ⟨by rw [hrt]; rfl, hB⟩
  · by_cases hml : m ≤ l
    · go_wp2_with (go_at_call 23; refine (holds_any _ _ _ _).mono ?_; rintro e w2 ⟨rfl, hb2⟩)
      go_ret
      exact ⟨by rw [hrt, decide_eq_true hml]; rfl, hB.trans (hb2.mono hB.size)⟩
    · have hd : decide (m ≤ l) = false := by simpa using hml
      go_wp2
      go_ret
      exact ⟨by rw [hrt, hd]; rfl, hB⟩

def mts (a l c m : Int) : Bool := ins a l c m || ins c m a l

set_option maxHeartbeats 400000 in
theorem meets_any (a l c m : Int) (w : World) :
    Calls Try.prog 52 #[.agg #[.int .i64 a, .int .i64 l], .agg #[.int .i64 c, .int .i64 m]] w fun e w' => e = .returned (.bool (mts a l c m)) ∧ Below w.heap.size w w' := by
  unfold mts
  go_enter Try.func52, Try.ntmps52
  go_wp2_with fail
  refine (inside_any a l c m _).mono ?_
  rintro e w1 ⟨rfl, hb1⟩
  have e0 : w1.cell? ⟨w.heap.size, 0, none⟩ = some (.int .i64 a) := (hb1.cell (p := ⟨w.heap.size, 0, none⟩) (by simp; omega)).trans (by simp)
  have e1 : w1.cell? ⟨w.heap.size, 1, none⟩ = some (.int .i64 l) := (hb1.cell (p := ⟨w.heap.size, 1, none⟩) (by simp; omega)).trans (by simp)
  have e2 : w1.cell? ⟨w.heap.size + 1, 0, none⟩ = some (.int .i64 c) := (hb1.cell (p := ⟨w.heap.size + 1, 0, none⟩) (by simp)).trans (by simp)
  have e3 : w1.cell? ⟨w.heap.size + 1, 1, none⟩ = some (.int .i64 m) := (hb1.cell (p := ⟨w.heap.size + 1, 1, none⟩) (by simp)).trans (by simp)
  have hB : Below w.heap.size w w1 := (((Below.refl _ _).alloc (Nat.le_refl _) _).alloc (by simp) _).trans (hb1.mono (by simp; omega))
  clear hb1
  cases hrt : ins a l c m
  · go_wp2_with (go_at_call 20; refine (inside_any _ _ _ _ _).mono ?_; rintro e w2 ⟨rfl, hb2⟩)
    go_ret
    exact ⟨by rw [hrt]; rfl, hB.trans (hb2.mono hB.size)⟩
  · go_wp2
    go_ret
    exact ⟨by rw [hrt]; rfl, hB⟩
end Go.Proofs.Ytbnkgecblaffeaa
