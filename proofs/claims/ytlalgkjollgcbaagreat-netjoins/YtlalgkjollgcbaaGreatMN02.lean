/- What span and Check of package cidr answer and do to the world. -/
import Derived.Test.YtlalgkjollgcbaaGreatRows
import Derived.Test.YtlalgkjollgcbaaGreatMN01
namespace Go.Proofs.YtlalgkjollgcbaaGreat
open Go.RowKit

def sp (l : Int) : Int := if l = 0 then 65536 else if l = 1 then 32768 else if l = 2 then 16384 else if l = 3 then 8192 else if l = 4 then 4096 else if l = 5 then 2048 else if l = 6 then 1024 else if l = 7 then 512 else if l = 8 then 256 else if l = 9 then 128 else if l = 10 then 64 else if l = 11 then 32 else if l = 12 then 16 else if l = 13 then 8 else if l = 14 then 4 else if l = 15 then 2 else 1

theorem l_cases (l : Int) (h0 : 0 ≤ l) (h1 : l ≤ 16) : l = 0 ∨ l = 1 ∨ l = 2 ∨ l = 3 ∨ l = 4 ∨ l = 5 ∨ l = 6 ∨ l = 7 ∨ l = 8 ∨ l = 9 ∨ l = 10 ∨ l = 11 ∨ l = 12 ∨ l = 13 ∨ l = 14 ∨ l = 15 ∨ l = 16 := by omega

set_option maxHeartbeats 400000 in
theorem span_any (l : Int) (w : World) (h0 : 0 ≤ l) (h1 : l ≤ 16) :
    Calls Tryz.prog 111 #[.int .i64 l] w fun e w' => e = .returned (.int .i64 (sp l)) ∧ w' = w := by
  rcases l_cases l h0 h1 with rfl | rfl | rfl | rfl | rfl | rfl | rfl | rfl | rfl | rfl | rfl | rfl | rfl | rfl | rfl | rfl | rfl
  all_goals clear h0 h1
  all_goals go_enter Tryz.func111, Tryz.ntmps111
  all_goals go_wp2
  all_goals go_ret
  all_goals exact ⟨rfl, rfl⟩

def chk (a l : Int) : Int := if l < 0 ∨ 16 < l ∨ a < 0 ∨ 65535 < a then 3 else if a % sp l = 0 then 0 else 1

theorem sp_pos (l : Int) : 0 < sp l := by unfold sp; (repeat' split) <;> omega
theorem sp_le (l : Int) : sp l ≤ 65536 := by unfold sp; (repeat' split) <;> omega

set_option maxHeartbeats 400000 in
theorem check_out (a l : Int) (w : World) (h : l < 0 ∨ 16 < l ∨ a < 0 ∨ 65535 < a) :
    Calls Tryz.prog 85 #[.agg #[.int .i64 a, .int .i64 l]] w fun e w' => e = .returned (.int .i64 3) ∧ Below w.heap.size w w' := by
  by_cases h1 : l < 0
  · clear h
    go_enter Tryz.func85, Tryz.ntmps85
    go_wp2
    go_ret
    exact ⟨rfl, (Below.refl _ _).alloc (Nat.le_refl _) _⟩
  · by_cases h2 : 16 < l
    · clear h
      go_enter Tryz.func85, Tryz.ntmps85
      go_wp2
      go_ret
      exact ⟨rfl, (Below.refl _ _).alloc (Nat.le_refl _) _⟩
    · by_cases h3 : a < 0
      · clear h
        go_enter Tryz.func85, Tryz.ntmps85
        go_wp2
        go_ret
        exact ⟨rfl, (Below.refl _ _).alloc (Nat.le_refl _) _⟩
      · have h4 : 65535 < a := by omega
        clear h
        go_enter Tryz.func85, Tryz.ntmps85
        go_wp2
        go_ret
        exact ⟨rfl, (Below.refl _ _).alloc (Nat.le_refl _) _⟩

set_option maxHeartbeats 400000 in
theorem check_in (a l : Int) (w : World) (h0 : 0 ≤ l) (h1 : l ≤ 16) (h2 : 0 ≤ a) (h3 : a ≤ 65535) :
    Calls Tryz.prog 85 #[.agg #[.int .i64 a, .int .i64 l]] w fun e w' => e = .returned (.int .i64 (if a % sp l = 0 then 0 else 1)) ∧ Below w.heap.size w w' := by
  have hp := sp_pos l
  have hz : sp l ≠ 0 := by omega
  by_cases hm : a % sp l = 0
  · rw [if_pos hm]
    have hb : (a % sp l != 0) = false := by simp [hm]
    clear hm
    go_enter Tryz.func85, Tryz.ntmps85
    go_wp2
    go_quiet ((go_at_call 111; exact Calls.quiet_of_same (span_any _ _ (by omega) (by omega))))
    go_wp2
    go_ret
    exact ⟨rfl, below_drewN ((Below.refl _ _).alloc (Nat.le_refl _) _) _⟩
  · rw [if_neg hm]
    have hb : (a % sp l != 0) = true := by simp [hm]
    clear hm
    go_enter Tryz.func85, Tryz.ntmps85
    go_wp2
    go_quiet ((go_at_call 111; exact Calls.quiet_of_same (span_any _ _ (by omega) (by omega))))
    go_wp2
    go_ret
    exact ⟨rfl, below_drewN ((Below.refl _ _).alloc (Nat.le_refl _) _) _⟩

theorem check_any (a l : Int) (w : World) :
    Calls Tryz.prog 85 #[.agg #[.int .i64 a, .int .i64 l]] w fun e w' => e = .returned (.int .i64 (chk a l)) ∧ Below w.heap.size w w' := by
  unfold chk
  by_cases h : l < 0 ∨ 16 < l ∨ a < 0 ∨ 65535 < a
  · rw [if_pos h]
    exact check_out a l w h
  · rw [if_neg h]
    exact check_in a l w (by omega) (by omega) (by omega) (by omega)

end Go.Proofs.YtlalgkjollgcbaaGreat
/- What right, Size, Holds, Inside and Meets of package cidr answer and do to the world. -/
namespace Go.Proofs.YtlalgkjollgcbaaGreat
open Go.RowKit

def rt (a l : Int) : Bool := chk a l == 0

set_option maxHeartbeats 400000 in
theorem right1 (b : Nat) (a l : Int) (w : World) (hb : b < w.heap.size) (hc0 : w.cell? ⟨b, 0, none⟩ = some (.int .i64 a)) (hc1 : w.cell? ⟨b, 1, none⟩ = some (.int .i64 l)) :
    Calls Tryz.prog 127 #[.slice (some ⟨b, 0, none⟩) 1 1] w fun e w' => e = .returned (.bool (rt a l)) ∧ Below w.heap.size w w' := by
  go_enter Tryz.func127, Tryz.ntmps127
  go_wp2
  go_loopw [7] (fun i wr => ∃ k : Nat, k ≤ 1 ∧ i = .int .i64 k ∧ Below w.heap.size w wr ∧ (k = 1 → rt a l = true)) (fun i _ => 1 - (intOf i).toNat)
  case atStart => exact ⟨0, by omega, rfl, Below.refl _ _, by omega⟩
  case round =>
    obtain ⟨k, hk, rfl, hB, hr⟩ := hrel
    have c0 : wr.cell? ⟨b, 0, none⟩ = some (.int .i64 a) := (hB.cell (p := ⟨b, 0, none⟩) hb).trans hc0
    have c1 : wr.cell? ⟨b, 1, none⟩ = some (.int .i64 l) := (hB.cell (p := ⟨b, 1, none⟩) hb).trans hc1
    have hk01 : k = 0 ∨ k = 1 := by omega
    clear hc0 hc1
    rcases hk01 with rfl | rfl
    · cases hrt : rt a l
      · have hne : (chk a l != 0) = true := by unfold rt at hrt; simpa [bne] using hrt
        clear hr
        go_wp2_with (go_at_call 85; refine (check_any _ _ _).mono ?_; rintro e w1 ⟨rfl, hb1⟩)
        go_ret
        exact ⟨by rw [hrt]; rfl, hB.trans (((Below.refl _ _).alloc hB.size _).trans (hb1.mono (by simp; have := hB.size; omega)))⟩
      · have hne : (chk a l != 0) = false := by unfold rt at hrt; simpa [bne] using hrt
        clear hr
        go_wp2_with (go_at_call 85; refine (check_any _ _ _).mono ?_; rintro e w1 ⟨rfl, hb1⟩)
        go_roundw
        case rel => exact ⟨1, by omega, rfl, hB.trans (((Below.refl _ _).alloc hB.size _).trans (hb1.mono (by simp; have := hB.size; omega))), fun _ => trivial⟩
        case measure => simp [intOf]
    · have hr1 := hr rfl
      rw [hr1]
      go_wp2
      go_ret
      exact ⟨rfl, hB⟩

theorem ne_of_rt {a l : Int} {t : Bool} (h : rt a l = t) : (chk a l != 0) = !t := by
  unfold rt at h
  simp [bne, h]

set_option maxHeartbeats 400000 in
theorem right2 (b : Nat) (a l c m : Int) (w : World) (hb : b < w.heap.size) (hc0 : w.cell? ⟨b, 0, none⟩ = some (.int .i64 a)) (hc1 : w.cell? ⟨b, 1, none⟩ = some (.int .i64 l))
    (hc2 : w.cell? ⟨b, 2, none⟩ = some (.int .i64 c)) (hc3 : w.cell? ⟨b, 3, none⟩ = some (.int .i64 m)) :
    Calls Tryz.prog 127 #[.slice (some ⟨b, 0, none⟩) 2 2] w fun e w' => e = .returned (.bool (rt a l && rt c m)) ∧ Below w.heap.size w w' := by
  go_enter Tryz.func127, Tryz.ntmps127
  go_wp2
  go_loopw [7] (fun i wr => ∃ k : Nat, k ≤ 2 ∧ i = .int .i64 k ∧ Below w.heap.size w wr ∧ (1 ≤ k → rt a l = true) ∧ (2 ≤ k → rt c m = true)) (fun i _ => 2 - (intOf i).toNat)
  case atStart => exact ⟨0, by omega, rfl, Below.refl _ _, by omega, by omega⟩
  case round =>
    obtain ⟨k, hk, rfl, hB, hr, hr2⟩ := hrel
    have c0 : wr.cell? ⟨b, 0, none⟩ = some (.int .i64 a) := (hB.cell (p := ⟨b, 0, none⟩) hb).trans hc0
    have c1 : wr.cell? ⟨b, 1, none⟩ = some (.int .i64 l) := (hB.cell (p := ⟨b, 1, none⟩) hb).trans hc1
    have c2 : wr.cell? ⟨b, 2, none⟩ = some (.int .i64 c) := (hB.cell (p := ⟨b, 2, none⟩) hb).trans hc2
    have c3 : wr.cell? ⟨b, 3, none⟩ = some (.int .i64 m) := (hB.cell (p := ⟨b, 3, none⟩) hb).trans hc3
    have hk01 : k = 0 ∨ k = 1 ∨ k = 2 := by omega
    clear hc0 hc1 hc2 hc3
    rcases hk01 with rfl | rfl | rfl
    · cases hrt : rt a l
      · have hne : (chk a l != 0) = true := ne_of_rt hrt
        clear hr hr2
        go_wp2_with (go_at_call 85; refine (check_any _ _ _).mono ?_; rintro e w1 ⟨rfl, hb1⟩)
        go_ret
        exact ⟨by rw [hrt]; rfl, hB.trans (((Below.refl _ _).alloc hB.size _).trans (hb1.mono (by simp; have := hB.size; omega)))⟩
      · have hne : (chk a l != 0) = false := ne_of_rt hrt
        clear hr hr2
        go_wp2_with (go_at_call 85; refine (check_any _ _ _).mono ?_; rintro e w1 ⟨rfl, hb1⟩)
        go_roundw
        case rel => exact ⟨1, by omega, rfl, hB.trans (((Below.refl _ _).alloc hB.size _).trans (hb1.mono (by simp; have := hB.size; omega))), fun _ => trivial, by omega⟩
        case measure => simp [intOf]
    · have hr1 := hr (by omega)
      cases hrt : rt c m
      · have hne : (chk c m != 0) = true := ne_of_rt hrt
        clear hr hr2
        go_wp2_with (go_at_call 85; refine (check_any _ _ _).mono ?_; rintro e w1 ⟨rfl, hb1⟩)
        go_ret
        exact ⟨by rw [hr1, hrt]; rfl, hB.trans (((Below.refl _ _).alloc hB.size _).trans (hb1.mono (by simp; have := hB.size; omega)))⟩
      · have hne : (chk c m != 0) = false := ne_of_rt hrt
        clear hr hr2
        go_wp2_with (go_at_call 85; refine (check_any _ _ _).mono ?_; rintro e w1 ⟨rfl, hb1⟩)
        go_roundw
        case rel => exact ⟨2, by omega, rfl, hB.trans (((Below.refl _ _).alloc hB.size _).trans (hb1.mono (by simp; have := hB.size; omega))), fun _ => hr1, fun _ => trivial⟩
        case measure => simp [intOf]
    · have hr1 := hr (by omega)
      have hr3 := hr2 (by omega)
      go_wp2
      go_ret
      exact ⟨by rw [hr1, hr3]; rfl, hB⟩


theorem rt_range {a l : Int} (h : rt a l = true) : 0 ≤ l ∧ l ≤ 16 ∧ 0 ≤ a ∧ a ≤ 65535 ∧ a % sp l = 0 := by
  unfold rt chk at h
  by_cases g : l < 0 ∨ 16 < l ∨ a < 0 ∨ 65535 < a
  · rw [if_pos g] at h; simp at h
  · rw [if_neg g] at h
    by_cases g2 : a % sp l = 0
    · exact ⟨by omega, by omega, by omega, by omega, g2⟩
    · rw [if_neg g2] at h; simp at h

set_option maxHeartbeats 400000 in
theorem size_any (a l : Int) (w : World) :
    Calls Tryz.prog 138 #[.agg #[.int .i64 a, .int .i64 l]] w fun e w' => e = .returned (.int .i64 (if rt a l then sp l else 0)) ∧ Below w.heap.size w w' := by
  cases hrt : rt a l
  · go_enter Tryz.func138, Tryz.ntmps138
    go_wp2_with (go_at_call 127; refine (right1 (w.heap.size + 1) a l _ (by simp) (by simp) (by simp)).mono ?_; rintro e w1 ⟨rfl, hb1⟩)
    go_ret
    exact ⟨rfl, (((Below.refl _ _).alloc (Nat.le_refl _) _).alloc (by simp) _).trans (hb1.mono (by simp; omega))⟩
  · obtain ⟨h0, h1, -, -, -⟩ := rt_range hrt
    go_enter Tryz.func138, Tryz.ntmps138
    go_wp2_with fail
    refine (right1 (w.heap.size + 1) a l _ (by simp) (by simp) (by simp)).mono ?_
    rintro e w1 ⟨rfl, hb1⟩
    rw [hrt]
    have hc1 : w1.cell? ⟨w.heap.size, 1, none⟩ = some (.int .i64 l) := (hb1.cell (p := ⟨w.heap.size, 1, none⟩) (by simp; omega)).trans (by simp)
    go_wp2_with (go_at_call 111; refine (span_any _ _ (by omega) (by omega)).mono ?_; rintro e w2 ⟨rfl, rfl⟩)
    go_ret
    exact ⟨rfl, (((Below.refl _ _).alloc (Nat.le_refl _) _).alloc (by simp) _).trans (hb1.mono (by simp; omega))⟩

def hld (a l x : Int) : Bool := rt a l && decide (a ≤ x) && decide (x < a + sp l)

set_option maxHeartbeats 400000 in
theorem holds_any (a l x : Int) (w : World) :
    Calls Tryz.prog 128 #[.agg #[.int .i64 a, .int .i64 l], .int .i64 x] w fun e w' => e = .returned (.bool (hld a l x)) ∧ Below w.heap.size w w' := by
  unfold hld
  go_enter Tryz.func128, Tryz.ntmps128
  go_wp2
  refine wp_region_any (by kernel_rfl) ?_
  change wpAny _ _ _ _ _ _ _ (World.drew _)
  refine wpAny_ready (rs := [0]) (by kernel_rfl) (by simp) ?_
  refine AllReady.cons rfl (fun K hK => ?_) AllReady.nil
  go_simp
  refine hK _ _ ?_
  clear hK K
  refine wpAny_ready (rs := [1]) (by kernel_rfl) (by simp) ?_
  refine AllReady.cons rfl (fun K hK => ?_) AllReady.nil
  go_simp
  refine hK _ _ ?_
  clear hK K
  refine wpAny_ready (rs := [2]) (by kernel_rfl) (by simp) ?_
  refine AllReady.cons rfl (fun K hK => ?_) AllReady.nil
  go_simp
  refine (right1 (w.heap.size + 1) a l _ (by simp) (by simp) (by simp)).mono ?_
  rintro e w1 ⟨rfl, hb1⟩
  refine hK _ _ ?_
  clear hK K
  have e0 : w1.cell? ⟨w.heap.size, 0, none⟩ = some (.int .i64 a) := (hb1.cell (p := ⟨w.heap.size, 0, none⟩) (by simp; omega)).trans (by simp)
  have e1 : w1.cell? ⟨w.heap.size, 1, none⟩ = some (.int .i64 l) := (hb1.cell (p := ⟨w.heap.size, 1, none⟩) (by simp; omega)).trans (by simp)
  have hz1 := hb1.size
  simp at hz1
  have d0 := Ws.cell (n := w.heap.size + 1) (w := w1) (by omega) e0
  have d1 := Ws.cell (n := w.heap.size + 1) (w := w1) (by omega) e1
  refine wpAny_ws (w.heap.size + 1) 3 (by kernel_rfl) rfl rfl (by kernel_rfl) ?_
  simp only [List.drop_succ_cons, List.drop_zero]
  have hB : Below w.heap.size w w1 := ((((Below.refl _ _).alloc (Nat.le_refl _) _).alloc (by simp) _).drew).trans (hb1.mono (by simp; omega))
  clear hb1 hz1 e0 e1
  cases hrt : rt a l
  · repeat (go_big_quiet_step (fail))
    refine wpQuiet_nil ?_
    rintro _ ⟨u, rfl⟩
    have hu := hB.trans (u.property.mono (Nat.le_succ _))
    go_wp2
    go_ret
    exact ⟨by rw [hrt]; rfl, hu⟩
  · obtain ⟨h0, h1, h2, h3, -⟩ := rt_range hrt
    have hp := sp_le l
    have hp2 := sp_pos l
    by_cases hax : a ≤ x
    · repeat (go_big_quiet_step ((go_at_call 111; exact Calls.in_ws_same (span_any _ _ (by omega) (by omega)))))
      refine wpQuiet_nil ?_
      rintro _ ⟨u, rfl⟩
      have hu := hB.trans (u.property.mono (Nat.le_succ _))
      go_wp2
      go_ret
      exact ⟨by rw [hrt, decide_eq_true hax]; rfl, hu⟩
    · have hd : decide (a ≤ x) = false := by simpa using hax
      repeat (go_big_quiet_step (fail))
      refine wpQuiet_nil ?_
      rintro _ ⟨u, rfl⟩
      have hu := hB.trans (u.property.mono (Nat.le_succ _))
      go_wp2
      go_ret
      exact ⟨by first | (rw [hrt, hd]; rfl) | rfl, hu⟩

def ins (a l c m : Int) : Bool := rt a l && rt c m && decide (m ≤ l) && hld c m a

set_option maxHeartbeats 400000 in
theorem inside_any (a l c m : Int) (w : World) :
    Calls Tryz.prog 112 #[.agg #[.int .i64 a, .int .i64 l], .agg #[.int .i64 c, .int .i64 m]] w fun e w' => e = .returned (.bool (ins a l c m)) ∧ Below w.heap.size w w' := by
  unfold ins
  go_enter Tryz.func112, Tryz.ntmps112
  go_wp2_with fail
  refine (right2 (w.heap.size + 1 + 1) a l c m _ (by simp) (by go_simp) (by go_simp) (by go_simp) (by go_simp)).mono ?_
  rintro e w1 ⟨rfl, hb1⟩
  have e0 : w1.cell? ⟨w.heap.size, 0, none⟩ = some (.int .i64 a) := (hb1.cell (p := ⟨w.heap.size, 0, none⟩) (by simp; omega)).trans (by go_simp)
  have e1 : w1.cell? ⟨w.heap.size, 1, none⟩ = some (.int .i64 l) := (hb1.cell (p := ⟨w.heap.size, 1, none⟩) (by simp; omega)).trans (by go_simp)
  have e2 : w1.cell? ⟨w.heap.size + 1, 0, none⟩ = some (.int .i64 c) := (hb1.cell (p := ⟨w.heap.size + 1, 0, none⟩) (by simp)).trans (by go_simp)
  have e3 : w1.cell? ⟨w.heap.size + 1, 1, none⟩ = some (.int .i64 m) := (hb1.cell (p := ⟨w.heap.size + 1, 1, none⟩) (by simp)).trans (by go_simp)
  have hB : Below w.heap.size w w1 := ((((Below.refl _ _).alloc (Nat.le_refl _) _).alloc (by simp) _).alloc (by simp; omega) _).trans (hb1.mono (by simp; omega))
  clear hb1
  cases hrt : (rt a l && rt c m)
  · go_wp2
    go_ret
    exact ⟨by rw [hrt]; rfl, hB⟩
  · by_cases hml : m ≤ l
    · go_wp2_with (go_at_call 128; refine (holds_any _ _ _ _).mono ?_; rintro e w2 ⟨rfl, hb2⟩)
      go_ret
      exact ⟨by rw [hrt, decide_eq_true hml]; rfl, hB.trans (hb2.mono hB.size)⟩
    · have hd : decide (m ≤ l) = false := by simpa using hml
      go_wp2
      go_ret
      exact ⟨by rw [hrt, hd]; rfl, hB⟩

def mts (a l c m : Int) : Bool := ins a l c m || ins c m a l

set_option maxHeartbeats 400000 in
theorem meets_any (a l c m : Int) (w : World) :
    Calls Tryz.prog 88 #[.agg #[.int .i64 a, .int .i64 l], .agg #[.int .i64 c, .int .i64 m]] w fun e w' => e = .returned (.bool (mts a l c m)) ∧ Below w.heap.size w w' := by
  unfold mts
  go_enter Tryz.func88, Tryz.ntmps88
  go_wp2_with fail
  refine (inside_any a l c m _).mono ?_
  rintro e w1 ⟨rfl, hb1⟩
  have e0 : w1.cell? ⟨w.heap.size, 0, none⟩ = some (.int .i64 a) := (hb1.cell (p := ⟨w.heap.size, 0, none⟩) (by simp; omega)).trans (by simp)
  have e1 : w1.cell? ⟨w.heap.size, 1, none⟩ = some (.int .i64 l) := (hb1.cell (p := ⟨w.heap.size, 1, none⟩) (by simp; omega)).trans (by simp)
  have e2 : w1.cell? ⟨w.heap.size + 1, 0, none⟩ = some (.int .i64 c) := (hb1.cell (p := ⟨w.heap.size + 1, 0, none⟩) (by simp)).trans (by simp)
  have e3 : w1.cell? ⟨w.heap.size + 1, 1, none⟩ = some (.int .i64 m) := (hb1.cell (p := ⟨w.heap.size + 1, 1, none⟩) (by simp)).trans (by simp)
  have hB : Below w.heap.size w w1 := (((Below.refl _ _).alloc (Nat.le_refl _) _).alloc (by simp) _).trans (hb1.mono (by simp; omega))
  clear hb1
  cases hrt : ins a l c m
  · go_wp2_with (go_at_call 112; refine (inside_any _ _ _ _ _).mono ?_; rintro e w2 ⟨rfl, hb2⟩)
    go_ret
    exact ⟨by rw [hrt]; rfl, hB.trans (hb2.mono hB.size)⟩
  · go_wp2
    go_ret
    exact ⟨by rw [hrt]; rfl, hB⟩
end Go.Proofs.YtlalgkjollgcbaaGreat
/- What the document's own answers on prefixes (package parcelwayref) come to. -/
namespace Go.Proofs.YtlalgkjollgcbaaGreat
open Go.RowKit

theorem sp_eq (l : Int) (h0 : 0 ≤ l) (h1 : l ≤ 16) : sp l = (2 : Int) ^ (16 - l).toNat := by
  rcases l_cases l h0 h1 with rfl | rfl | rfl | rfl | rfl | rfl | rfl | rfl | rfl | rfl | rfl | rfl | rfl | rfl | rfl | rfl | rfl <;> decide

theorem sp_dvd {l m : Int} (h0 : 0 ≤ m) (h1 : m ≤ l) (h2 : l ≤ 16) : sp l ∣ sp m := by
  rw [sp_eq l (by omega) h2, sp_eq m h0 (by omega)]
  have h : (16 - m).toNat = (16 - l).toNat + (l - m).toNat := by omega
  rw [h, Int.pow_add]
  exact Int.dvd_mul_right _ _

theorem sp_anti {l m : Int} (h0 : 0 ≤ m) (h1 : m ≤ l) (h2 : l ≤ 16) : sp l ≤ sp m :=
  Int.le_of_dvd (sp_pos m) (sp_dvd h0 h1 h2)

theorem sp_strict {l m : Int} (h0 : 0 ≤ l) (h1 : l < m) (h2 : m ≤ 16) : 2 * sp m ≤ sp l := by
  have h := sp_anti (l := l + 1) (m := l + 1) (by omega) (by omega) (by omega)
  have h3 := sp_anti (l := m) (m := l + 1) (by omega) (by omega) h2
  have h4 : sp l = 2 * sp (l + 1) := by
    rw [sp_eq l h0 (by omega), sp_eq (l + 1) (by omega) (by omega)]
    have : (16 - l).toNat = (16 - (l + 1)).toNat + 1 := by omega
    rw [this, Int.pow_succ]
    omega
  omega

/-- Two multiples of s: what is less is less by s at least. -/
theorem step_le {s a e : Int} (hs : 0 < s) (ha : s ∣ a) (he : s ∣ e) (h : a < e) : a + s ≤ e := by
  obtain ⟨x, rfl⟩ := ha
  obtain ⟨y, rfl⟩ := he
  have hxy : x < y := Int.lt_of_mul_lt_mul_left h (Int.le_of_lt hs)
  have h1 : s * (x + 1) ≤ s * y := Int.mul_le_mul_of_nonneg_left (by omega) (Int.le_of_lt hs)
  rw [Int.mul_add, Int.mul_one] at h1
  exact h1

theorem ins_iff (a l c m : Int) (h1 : rt a l = true) (h2 : rt c m = true) : ins a l c m = (hld c m a && hld c m (a + sp l - 1)) := by
  obtain ⟨l0, l1, a0, a1, ad⟩ := rt_range h1
  obtain ⟨m0, m1, c0, c1, cd⟩ := rt_range h2
  have pl := sp_pos l
  have pm := sp_pos m
  unfold ins hld
  rw [h1, h2]
  rw [Bool.eq_iff_iff]
  simp only [Bool.true_and, Bool.and_eq_true, decide_eq_true_eq]
  constructor
  · rintro ⟨hml, h3, h4⟩
    have hd := sp_dvd m0 hml l1
    have := step_le pl (Int.dvd_of_emod_eq_zero ad) (Int.dvd_add (Int.dvd_trans hd (Int.dvd_of_emod_eq_zero cd)) hd) h4
    omega
  · rintro ⟨⟨h3, h4⟩, h5, h6⟩
    refine ⟨?_, h3, h4⟩
    by_cases hml : m ≤ l
    · exact hml
    · have := sp_strict l0 (by omega) m1
      omega

theorem mts_iff (a l c m : Int) (h1 : rt a l = true) (h2 : rt c m = true) : mts a l c m = (decide (a ≤ c + sp m - 1) && decide (c ≤ a + sp l - 1)) := by
  obtain ⟨l0, l1, a0, a1, ad⟩ := rt_range h1
  obtain ⟨m0, m1, c0, c1, cd⟩ := rt_range h2
  have pl := sp_pos l
  have pm := sp_pos m
  unfold mts ins hld
  rw [h1, h2]
  rw [Bool.eq_iff_iff]
  simp only [Bool.true_and, Bool.and_eq_true, Bool.or_eq_true, decide_eq_true_eq]
  constructor
  · rintro (⟨hml, h3, h4⟩ | ⟨hml, h3, h4⟩) <;> omega
  · rintro ⟨h3, h4⟩
    by_cases hml : m ≤ l
    · left
      refine ⟨hml, ?_, by omega⟩
      have hd := sp_dvd m0 hml l1
      by_cases hca : c ≤ a
      · exact hca
      · have := step_le pl (Int.dvd_of_emod_eq_zero ad) (Int.dvd_trans hd (Int.dvd_of_emod_eq_zero cd)) (by omega)
        omega
    · right
      refine ⟨by omega, ?_, by omega⟩
      have hd := sp_dvd l0 (show l ≤ m by omega) m1
      by_cases hca : a ≤ c
      · exact hca
      · have := step_le pm (Int.dvd_of_emod_eq_zero cd) (Int.dvd_trans hd (Int.dvd_of_emod_eq_zero ad)) (by omega)
        omega

def wth (x lo hi : Int) : Bool := decide (lo ≤ x) && decide (x ≤ hi)

set_option maxHeartbeats 400000 in
theorem within_any (x lo hi : Int) (w : World) :
    Calls Tryz.prog 34 #[.int .i64 x, .int .i64 lo, .int .i64 hi] w fun e w' => e = .returned (.bool (wth x lo hi)) ∧ w' = w := by
  unfold wth
  by_cases h : lo ≤ x
  · go_enter Tryz.func34, Tryz.ntmps34
    go_wp2
    go_ret
    exact ⟨by rw [decide_eq_true h]; rfl, rfl⟩
  · have hd : decide (lo ≤ x) = false := by simpa using h
    go_enter Tryz.func34, Tryz.ntmps34
    go_wp2
    go_ret
    exact ⟨by first | (rw [hd]; rfl) | rfl, rfl⟩

set_option maxHeartbeats 400000 in
theorem sizeOf_any (l : Int) (w : World) (h0 : 0 ≤ l) (h1 : l ≤ 16) :
    Calls Tryz.prog 114 #[.int .i64 l] w fun e w' => e = .returned (.int .i64 (sp l)) ∧ w' = w := by
  rcases l_cases l h0 h1 with rfl | rfl | rfl | rfl | rfl | rfl | rfl | rfl | rfl | rfl | rfl | rfl | rfl | rfl | rfl | rfl | rfl
  all_goals clear h0 h1
  all_goals go_enter Tryz.func114, Tryz.ntmps114
  all_goals go_wp2
  all_goals go_ret
  all_goals exact ⟨rfl, rfl⟩

theorem bl1 (w : World) (o : Obj) : Below w.heap.size w (w.alloc o) := (Below.refl _ _).alloc (Nat.le_refl _) _
theorem bl2 (w : World) (o p : Obj) : Below w.heap.size w ((w.alloc o).alloc p) := (bl1 w o).alloc (by simp) _

set_option maxHeartbeats 400000 in
theorem checkPrefix_any (a l : Int) (w : World) :
    Calls Tryz.prog 95 #[.agg #[.int .i64 a, .int .i64 l]] w fun e w' => e = .returned (.int .i64 (chk a l)) ∧ Below w.heap.size w w' := by
  unfold chk
  by_cases h : l < 0 ∨ 16 < l
  · rw [if_pos (by omega)]
    have hw : wth l 0 16 = false := by unfold wth; simp; omega
    clear h
    go_enter Tryz.func95, Tryz.ntmps95
    go_wp2_with (go_at_call 34; refine (within_any _ _ _ _).mono ?_; rintro e w1 ⟨rfl, rfl⟩)
    go_ret
    exact ⟨rfl, bl1 _ _⟩
  · have hw : wth l 0 16 = true := by unfold wth; simp; omega
    by_cases h2 : a < 0 ∨ 65535 < a
    · rw [if_pos (by omega)]
      have hw2 : wth a 0 65535 = false := by unfold wth; simp; omega
      clear h h2
      go_enter Tryz.func95, Tryz.ntmps95
      go_wp2_with (go_at_call 34; refine (within_any _ _ _ _).mono ?_; rintro e w1 ⟨rfl, rfl⟩)
      go_ret
      exact ⟨rfl, bl1 _ _⟩
    · rw [if_neg (by omega)]
      have hw2 : wth a 0 65535 = true := by unfold wth; simp; omega
      have h0 : 0 ≤ l := by omega
      have h1 : l ≤ 16 := by omega
      have h3 : 0 ≤ a := by omega
      have h4 : a ≤ 65535 := by omega
      have hp := sp_pos l
      have hz : sp l ≠ 0 := by omega
      clear h h2
      by_cases hm : a % sp l = 0
      · rw [if_pos hm]
        have hb : (a % sp l != 0) = false := by simp [hm]
        clear hm
        go_enter Tryz.func95, Tryz.ntmps95
        go_wp2_with (go_at_call 34; refine (within_any _ _ _ _).mono ?_; rintro e w1 ⟨rfl, rfl⟩)
        go_quiet ((go_at_call 114; exact Calls.quiet_of_same (sizeOf_any _ _ (by omega) (by omega))))
        go_wp2
        go_ret
        exact ⟨rfl, below_drewN (bl1 _ _) _⟩
      · rw [if_neg hm]
        have hb : (a % sp l != 0) = true := by simp [hm]
        clear hm
        go_enter Tryz.func95, Tryz.ntmps95
        go_wp2_with (go_at_call 34; refine (within_any _ _ _ _).mono ?_; rintro e w1 ⟨rfl, rfl⟩)
        go_quiet ((go_at_call 114; exact Calls.quiet_of_same (sizeOf_any _ _ (by omega) (by omega))))
        go_wp2
        go_ret
        exact ⟨rfl, below_drewN (bl1 _ _) _⟩

set_option maxHeartbeats 400000 in
theorem right_any (a l : Int) (w : World) :
    Calls Tryz.prog 62 #[.agg #[.int .i64 a, .int .i64 l]] w fun e w' => e = .returned (.bool (rt a l)) ∧ Below w.heap.size w w' := by
  unfold rt
  go_enter Tryz.func62, Tryz.ntmps62
  go_wp2_with (go_at_call 95; refine (checkPrefix_any _ _ _).mono ?_; rintro e w1 ⟨rfl, hb1⟩)
  go_ret
  exact ⟨rfl, (bl1 _ _).trans (hb1.mono (by simp))⟩

set_option maxHeartbeats 400000 in
theorem last_any (a l : Int) (w : World) (h0 : 0 ≤ l) (h1 : l ≤ 16) (h2 : 0 ≤ a) (h3 : a ≤ 65535) :
    Calls Tryz.prog 96 #[.agg #[.int .i64 a, .int .i64 l]] w fun e w' => e = .returned (.int .i64 (a + sp l - 1)) ∧ Below w.heap.size w w' := by
  have hp := sp_pos l
  have hq := sp_le l
  go_enter Tryz.func96, Tryz.ntmps96
  go_wp2
  go_quiet ((go_at_call 114; exact Calls.quiet_of_same (sizeOf_any _ _ (by omega) (by omega))))
  go_wp2
  go_ret
  exact ⟨rfl, below_drewN (bl1 _ _) _⟩

theorem ret_bool {a b : Bool} (h : a = b) : Ending.returned (.bool a) = .returned (.bool b) := by rw [h]
theorem ret_int {a b : Int} (h : a = b) : Ending.returned (.int .i64 a) = .returned (.int .i64 b) := by rw [h]

/-- Two structs of two integers, boxed: their cells in every world of the class. -/
theorem two_cells (w : World) (a l c m : Int) (t : TypeId) : (∀ u : Ws (w.heap.size + 1 + 1) ((w.alloc (.cells #[.int .i64 a, .int .i64 l] t)).alloc (.cells #[.int .i64 c, .int .i64 m] t)),
      u.val.cell? ⟨w.heap.size, 0, none⟩ = some (.int .i64 a)) ∧ (∀ u : Ws (w.heap.size + 1 + 1) ((w.alloc (.cells #[.int .i64 a, .int .i64 l] t)).alloc (.cells #[.int .i64 c, .int .i64 m] t)), u.val.cell? ⟨w.heap.size, 1, none⟩ = some (.int .i64 l)) ∧
    (∀ u : Ws (w.heap.size + 1 + 1) ((w.alloc (.cells #[.int .i64 a, .int .i64 l] t)).alloc (.cells #[.int .i64 c, .int .i64 m] t)), u.val.cell? ⟨w.heap.size + 1, 0, none⟩ = some (.int .i64 c)) ∧
    (∀ u : Ws (w.heap.size + 1 + 1) ((w.alloc (.cells #[.int .i64 a, .int .i64 l] t)).alloc (.cells #[.int .i64 c, .int .i64 m] t)), u.val.cell? ⟨w.heap.size + 1, 1, none⟩ = some (.int .i64 m)) := by
  refine ⟨Ws.cell (by omega) ?_, Ws.cell (by omega) ?_, Ws.cell (by omega) ?_, Ws.cell (by omega) ?_⟩ <;> simp

set_option maxHeartbeats 400000 in
theorem holdsIt_any (a l x : Int) (w : World) :
    Calls Tryz.prog 115 #[.agg #[.int .i64 a, .int .i64 l], .int .i64 x] w fun e w' => e = .returned (.bool (hld a l x)) ∧ Below w.heap.size w w' := by
  unfold hld
  have d0 := Ws.cell (n := w.heap.size + 1) (w := w.alloc (.cells #[.int .i64 a, .int .i64 l] 27)) (b := w.heap.size) (o := 0) (v := some (.int .i64 a)) (by omega) (by simp)
  have d1 := Ws.cell (n := w.heap.size + 1) (w := w.alloc (.cells #[.int .i64 a, .int .i64 l] 27)) (b := w.heap.size) (o := 1) (v := some (.int .i64 l)) (by omega) (by simp)
  cases hrt : rt a l
  · go_enter Tryz.func115, Tryz.ntmps115
    go_wp2
    refine wp_region_ws (w.heap.size + 1) (by kernel_rfl) (by kernel_rfl) ?_
    repeat (go_big_quiet_step ((go_at_call 62; exact Calls.in_ws (by simp) (hrt ▸ right_any _ _ _))))
    refine wpQuiet_nil ?_
    rintro _ ⟨u, rfl⟩
    have hu := (bl1 w _).trans (u.property.mono (Nat.le_succ _))
    go_wp2
    go_ret
    exact ⟨by rfl, hu⟩
  · obtain ⟨h0, h1, h2, h3, -⟩ := rt_range hrt
    go_enter Tryz.func115, Tryz.ntmps115
    go_wp2
    refine wp_region_ws (w.heap.size + 1) (by kernel_rfl) (by kernel_rfl) ?_
    repeat (go_big_quiet_step (first | (go_at_call 62; exact Calls.in_ws (by simp) (hrt ▸ right_any _ _ _)) | (go_at_call 96; exact Calls.in_ws (by simp) (last_any _ _ _ (by omega) (by omega) (by omega) (by omega))) | (go_at_call 34; exact Calls.in_ws_same (within_any _ _ _ _))))
    refine wpQuiet_nil ?_
    rintro _ ⟨u, rfl⟩
    have hu := (bl1 w _).trans (u.property.mono (Nat.le_succ _))
    go_wp2
    go_ret
    refine ⟨ret_bool ?_, hu⟩
    unfold wth
    rw [Bool.eq_iff_iff]
    simp only [Bool.true_and, Bool.and_eq_true, decide_eq_true_eq]
    omega
end Go.Proofs.YtlalgkjollgcbaaGreat
/- What InsideOf, Meet and UpOf of package parcelwayref come to. -/
namespace Go.Proofs.YtlalgkjollgcbaaGreat
open Go.RowKit

theorem ins_no1 {a l c m : Int} (h : rt a l = false) : ins a l c m = false := by unfold ins; rw [h]; rfl
theorem ins_no2 {a l c m : Int} (h : rt c m = false) : ins a l c m = false := by unfold ins; rw [h]; simp
theorem mts_no1 {a l c m : Int} (h : rt a l = false) : mts a l c m = false := by unfold mts; rw [ins_no1 h, ins_no2 h]; rfl
theorem mts_no2 {a l c m : Int} (h : rt c m = false) : mts a l c m = false := by unfold mts; rw [ins_no2 h, ins_no1 h]; rfl

set_option maxHeartbeats 800000 in
theorem insideOf_any (a l c m : Int) (w : World) :
    Calls Tryz.prog 97 #[.agg #[.int .i64 a, .int .i64 l], .agg #[.int .i64 c, .int .i64 m]] w fun e w' => e = .returned (.bool (ins a l c m)) ∧ Below w.heap.size w w' := by
  obtain ⟨d0, d1, d2, d3⟩ := two_cells w a l c m 27
  cases h1 : rt a l
  · rw [ins_no1 h1]
    go_enter Tryz.func97, Tryz.ntmps97
    go_wp2
    refine wp_region_ws (w.heap.size + 1 + 1) (by kernel_rfl) (by kernel_rfl) ?_
    repeat (go_big_quiet_step ((go_at_call 62; exact Calls.in_ws (by simp) (h1 ▸ right_any _ _ _))))
    refine wpQuiet_nil ?_
    rintro _ ⟨u, rfl⟩
    have hu := (bl2 w _ _).trans (u.property.mono (by omega))
    go_wp2
    go_ret
    exact ⟨rfl, hu⟩
  · cases h2 : rt c m
    · rw [ins_no2 h2]
      go_enter Tryz.func97, Tryz.ntmps97
      go_wp2
      refine wp_region_ws (w.heap.size + 1 + 1) (by kernel_rfl) (by kernel_rfl) ?_
      repeat (go_big_quiet_step (first | (go_at_call_of 62 a; exact Calls.in_ws (by simp) (h1 ▸ right_any a l _)) | (go_at_call_of 62 c; exact Calls.in_ws (by simp) (h2 ▸ right_any c m _))))
      refine wpQuiet_nil ?_
      rintro _ ⟨u, rfl⟩
      have hu := (bl2 w _ _).trans (u.property.mono (by omega))
      go_wp2
      go_ret
      exact ⟨rfl, hu⟩
    · rw [ins_iff a l c m h1 h2]
      obtain ⟨l0, l1, a0, a1, -⟩ := rt_range h1
      cases h3 : hld c m a
      · go_enter Tryz.func97, Tryz.ntmps97
        go_wp2
        refine wp_region_ws (w.heap.size + 1 + 1) (by kernel_rfl) (by kernel_rfl) ?_
        repeat (go_big_quiet_step (first | (go_at_call_of 62 a; exact Calls.in_ws (by simp) (h1 ▸ right_any a l _)) | (go_at_call_of 62 c; exact Calls.in_ws (by simp) (h2 ▸ right_any c m _)) | (go_at_call 115; exact Calls.in_ws (by simp) (h3 ▸ holdsIt_any _ _ _ _))))
        refine wpQuiet_nil ?_
        rintro _ ⟨u, rfl⟩
        have hu := (bl2 w _ _).trans (u.property.mono (by omega))
        go_wp2
        go_ret
        exact ⟨rfl, hu⟩
      · go_enter Tryz.func97, Tryz.ntmps97
        go_wp2
        refine wp_region_ws (w.heap.size + 1 + 1) (by kernel_rfl) (by kernel_rfl) ?_
        repeat (go_big_quiet_step (first | (go_at_call_of 62 a; exact Calls.in_ws (by simp) (h1 ▸ right_any a l _)) | (go_at_call_of 62 c; exact Calls.in_ws (by simp) (h2 ▸ right_any c m _)) | (go_at_call_of 115 (sp l); exact Calls.in_ws (by simp) (holdsIt_any c m (a + sp l - 1) _)) | (go_at_call 115; exact Calls.in_ws (by simp) (h3 ▸ holdsIt_any c m a _)) | (go_at_call 96; exact Calls.in_ws (by simp) (last_any _ _ _ (by omega) (by omega) (by omega) (by omega)))))
        refine wpQuiet_nil ?_
        rintro _ ⟨u, rfl⟩
        have hu := (bl2 w _ _).trans (u.property.mono (by omega))
        go_wp2
        go_ret
        exact ⟨ret_bool (by simp), hu⟩

set_option maxHeartbeats 800000 in
theorem meet_any (a l c m : Int) (w : World) :
    Calls Tryz.prog 63 #[.agg #[.int .i64 a, .int .i64 l], .agg #[.int .i64 c, .int .i64 m]] w fun e w' => e = .returned (.bool (mts a l c m)) ∧ Below w.heap.size w w' := by
  obtain ⟨d0, d1, d2, d3⟩ := two_cells w a l c m 27
  cases h1 : rt a l
  · rw [mts_no1 h1]
    go_enter Tryz.func63, Tryz.ntmps63
    go_wp2
    refine wp_region_ws (w.heap.size + 1 + 1) (by kernel_rfl) (by kernel_rfl) ?_
    repeat (go_big_quiet_step ((go_at_call 62; exact Calls.in_ws (by simp) (h1 ▸ right_any _ _ _))))
    refine wpQuiet_nil ?_
    rintro _ ⟨u, rfl⟩
    have hu := (bl2 w _ _).trans (u.property.mono (by omega))
    go_wp2
    go_ret
    exact ⟨rfl, hu⟩
  · cases h2 : rt c m
    · rw [mts_no2 h2]
      go_enter Tryz.func63, Tryz.ntmps63
      go_wp2
      refine wp_region_ws (w.heap.size + 1 + 1) (by kernel_rfl) (by kernel_rfl) ?_
      repeat (go_big_quiet_step (first | (go_at_call_of 62 a; exact Calls.in_ws (by simp) (h1 ▸ right_any a l _)) | (go_at_call_of 62 c; exact Calls.in_ws (by simp) (h2 ▸ right_any c m _))))
      refine wpQuiet_nil ?_
      rintro _ ⟨u, rfl⟩
      have hu := (bl2 w _ _).trans (u.property.mono (by omega))
      go_wp2
      go_ret
      exact ⟨rfl, hu⟩
    · rw [mts_iff a l c m h1 h2]
      obtain ⟨l0, l1, a0, a1, -⟩ := rt_range h1
      obtain ⟨m0, m1, c0, c1, -⟩ := rt_range h2
      by_cases h3 : a ≤ c + sp m - 1
      · go_enter Tryz.func63, Tryz.ntmps63
        go_wp2
        refine wp_region_ws (w.heap.size + 1 + 1) (by kernel_rfl) (by kernel_rfl) ?_
        repeat (go_big_quiet_step (first | (go_at_call_of 62 a; exact Calls.in_ws (by simp) (h1 ▸ right_any a l _)) | (go_at_call_of 62 c; exact Calls.in_ws (by simp) (h2 ▸ right_any c m _)) | (go_at_call_of 96 a; exact Calls.in_ws (by simp) (last_any a l _ (by omega) (by omega) (by omega) (by omega))) | (go_at_call_of 96 c; exact Calls.in_ws (by simp) (last_any c m _ (by omega) (by omega) (by omega) (by omega)))))
        refine wpQuiet_nil ?_
        rintro _ ⟨u, rfl⟩
        have hu := (bl2 w _ _).trans (u.property.mono (by omega))
        go_wp2
        go_ret
        exact ⟨ret_bool (by rw [decide_eq_true h3]; rfl), hu⟩
      · have hd : decide (a ≤ c + sp m - 1) = false := by simpa using h3
        go_enter Tryz.func63, Tryz.ntmps63
        go_wp2
        refine wp_region_ws (w.heap.size + 1 + 1) (by kernel_rfl) (by kernel_rfl) ?_
        repeat (go_big_quiet_step (first | (go_at_call_of 62 a; exact Calls.in_ws (by simp) (h1 ▸ right_any a l _)) | (go_at_call_of 62 c; exact Calls.in_ws (by simp) (h2 ▸ right_any c m _)) | (go_at_call_of 96 c; exact Calls.in_ws (by simp) (last_any c m _ (by omega) (by omega) (by omega) (by omega)))))
        refine wpQuiet_nil ?_
        rintro _ ⟨u, rfl⟩
        have hu := (bl2 w _ _).trans (u.property.mono (by omega))
        go_wp2
        go_ret
        exact ⟨ret_bool (by first | (rw [hd]; rfl) | rfl), hu⟩
end Go.Proofs.YtlalgkjollgcbaaGreat
