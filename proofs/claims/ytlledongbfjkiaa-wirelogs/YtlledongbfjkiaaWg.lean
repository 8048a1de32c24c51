/- What sum and Frame of package wire, and FrameOf of package parcelwayref, come to. -/
import Derived.Test.YtlledongbfjkiaaWf
namespace Go.Proofs.Ytlledongbfjkiaa
open Go.RowKit

set_option maxRecDepth 20000 in
set_option maxHeartbeats 800000 in
theorem sum_any (g cap base : Nat) (xs : List Int) (w : World) (hO : OB w base (.slice (some ⟨g, 0, none⟩) xs.length cap) xs) (hl : xs.length ≤ 256) (hx : isB xs) :
    Calls Try.prog 27 #[.slice (some ⟨g, 0, none⟩) xs.length cap] w fun e w' => e = .returned (.int .u32 (sumB xs)) ∧ w' = w := by
  generalize hn : xs.length = n at hl hO ⊢
  go_enter Try.func27, Try.ntmps27
  go_wp2
  go_loop [3, 8] (fun t i => ∃ k : Nat, k ≤ n ∧ i = .int .i64 k ∧ t = .int .u32 (sumTo xs k)) (fun _ i => n - (intOf i).toNat)
  case atStart => exact ⟨0, by omega, rfl, rfl⟩
  case round =>
    obtain ⟨k, hk, rfl, rfl⟩ := hrel
    have hr := sumTo_range hx k (by omega)
    by_cases hlt : k < n
    · have hc := hO.cell k (by omega)
      have hb := isB_byt hx k
      have m0 : 0 ≤ ((k : Int) + 1) * byt xs k := Int.mul_nonneg (by omega) hb.1
      have m1 : ((k : Int) + 1) * byt xs k ≤ 256 * 255 := Int.mul_le_mul (by omega) hb.2 hb.1 (by omega)
      have hlt' := hlt
      go_wp2
      go_round
      case rel => exact ⟨k + 1, hlt', by go_num, rfl⟩
      case measure => simp [intOf]; omega
    · obtain rfl : k = n := by omega
      go_wp2
      go_ret
      exact ⟨by rw [← hn]; rfl, rfl⟩

theorem OB.shape2 {w : World} {base : Nat} {v : Value} {xs : List Int} (h : OB w base v xs) (h0 : xs ≠ []) : ∃ g n cap, v = .slice (some ⟨g, 0, none⟩) n cap ∧ base ≤ g ∧ Hid (xs.length = n) := by
  obtain ⟨g, cap, -, h1, h2, -⟩ := h.shape h0
  exact ⟨g, xs.length, cap, h1, h2, rfl⟩
/-- What Frame answers. -/
def frE (s : ByteArray) : Int := if s.size ≤ 255 then 0 else 2
def frS (s : ByteArray) : List Int := if s.size ≤ 255 then frameB (bs s) else []
set_option maxRecDepth 20000 in
set_option maxHeartbeats 800000 in
theorem frame_yes (s : ByteArray) (w : World) (hs : s.size ≤ 255) :
    Calls Try.prog 11 #[.string s] w fun e w' => e = .returned (.tuple #[.string (strOfNums (frameB (bs s))), .int .i64 0]) ∧ Below w.heap.size w w' := by
  have hlen := bs_len s
  have hX : isB ((s.size : Int) :: bs s) := isB_cons (by omega) (isB_bs s)
  have hXl : ((s.size : Int) :: bs s).length ≤ 256 := by rw [List.length_cons, hlen]; omega
  have hfr : Hid (frameB (bs s) = ((s.size : Int) :: bs s) ++ le4 (sumB ((s.size : Int) :: bs s))) := by unfold Hid frameB; rw [hlen]
  have hsr := sumTo_range hX ((s.size : Int) :: bs s).length hXl
  clear hlen
  go_enter Try.func11, Try.ntmps11
  go_wp2_with (at_builtin; refine Hid.out ?_)
  unfold Hid
  refine wpList_append_obs rfl _ _ rfl w.heap.size _ [(s.size : Int)] rfl (OB.one w w.heap.size w.heap.size (s.size : Int) rfl (by omega)) s rfl (by simp; omega) (by simp) ?_
  intro v1 w1 hO1 hg1
  have hB1 := below_grown (bl1 w _) hg1 (fun k e => ((OB.one w w.heap.size w.heap.size (s.size : Int) rfl (by omega)).lt k e).1)
  clear hg1
  obtain ⟨g, cap, -, rfl, hgb, -⟩ := hO1.shape (by simp)
  go_wp2_with (first | (go_at_call 27; refine (sum_any g cap _ _ _ hO1 hXl hX).mono ?_; rintro e w2 ⟨rfl, rfl⟩) | (go_at_call 21; refine (lowFirst_any _ _ hsr.1 (by omega)).mono ?_; rintro e w3 ⟨v3, rfl, hO3, hB3⟩) | (at_builtin; refine Hid.out ?_))
  unfold Hid
  obtain ⟨g3, c3, rfl, hg3⟩ := hO3.four
  refine wpList_append_ob rfl _ _ rfl w.heap.size _ _ rfl (hO1.later hB3) g3 4 c3 _ rfl rfl hO3.cells (by have := hXl; simp only [List.length_append, List.length_cons, List.length_nil] at this ⊢; omega) (by have := hB1.size; have := hB3.size; omega) ?_
  intro v4 w4 hO4 hg4
  have hB4 := below_grown (hB1.trans (hB3.mono hB1.size)) hg4 (fun k e => (hO1.lt k e).1)
  clear hg4
  obtain ⟨g5, n5, c5, rfl, -, hn5⟩ := hO4.shape2 (by simp)
  have hcv := convert_ob hO4 hn5.out
  go_wp2
  go_ret2
  exact ⟨ret_two (by rw [hfr.out]; rfl) rfl, hB4⟩
set_option maxRecDepth 20000 in
theorem frame_no (s : ByteArray) (w : World) (hs : 255 < s.size) :
    Calls Try.prog 11 #[.string s] w fun e w' => e = .returned (.tuple #[.string (strOfNums []), .int .i64 2]) ∧ Below w.heap.size w w' := by
  go_enter Try.func11, Try.ntmps11
  go_wp2
  go_ret2
  exact ⟨rfl, Below.refl _ _⟩
theorem frame_any (s : ByteArray) (w : World) :
    Calls Try.prog 11 #[.string s] w fun e w' => e = .returned (.tuple #[.string (strOfNums (frS s)), .int .i64 (frE s)]) ∧ Below w.heap.size w w' := by
  unfold frS frE
  by_cases hs : s.size ≤ 255
  · rw [if_pos hs, if_pos hs]
    exact frame_yes s w hs
  · rw [if_neg hs, if_neg hs]
    exact frame_no s w (by omega)

set_option maxRecDepth 20000 in
set_option maxHeartbeats 1600000 in
theorem frameOf_any (s : ByteArray) (w : World) (hs : s.size ≤ 255) :
    Calls Try.prog 12 #[.string s] w fun e w' => e = .returned (.string (strOfNums (frameB (bs s)))) ∧ Below w.heap.size w w' := by
  have hlen := bs_len s
  have hX : isB ((s.size : Int) :: bs s) := isB_cons (by omega) (isB_bs s)
  have hXl : ((s.size : Int) :: bs s).length ≤ 256 := by rw [List.length_cons, hlen]; omega
  have hfr : Hid (frameB (bs s) = ((s.size : Int) :: bs s) ++ le4 (sumB ((s.size : Int) :: bs s))) := by unfold Hid frameB; rw [hlen]
  clear hlen
  go_enter Try.func12, Try.ntmps12
  go_wp2_with (at_builtin; refine Hid.out ?_)
  unfold Hid
  refine wpList_append_obs rfl _ _ rfl w.heap.size _ [(s.size : Int)] rfl (OB.one w w.heap.size w.heap.size (s.size : Int) rfl (by omega)) s rfl (by simp; omega) (by simp) ?_
  intro v1 w1 hO1 hg1
  have hB1 := below_grown (bl1 w _) hg1 (fun k e => ((OB.one w w.heap.size w.heap.size (s.size : Int) rfl (by omega)).lt k e).1)
  clear hg1
  obtain ⟨g, cap, -, rfl, hgb, -⟩ := hO1.shape (by simp)
  replace hO1 : OB w1 w.heap.size (.slice (some ⟨g, 0, none⟩) ((s.size : Int) :: bs s).length cap) ((s.size : Int) :: bs s) := hO1
  show _
  generalize hxs : (s.size : Int) :: bs s = xs at hO1 hX hXl hfr
  have hxs' : Hid ([(s.size : Int)] ++ bs s = xs) := hxs
  clear hxs
  rw [hxs'.out]
  generalize hn : xs.length = n at hXl hO1
  go_wp2
  go_loop [4, 5] (fun t i => ∃ k : Nat, k ≤ n ∧ i = .int .i64 k ∧ t = .int .i64 (sumTo xs k)) (fun _ i => n - (intOf i).toNat)
  case atStart => exact ⟨0, by omega, rfl, rfl⟩
  case round =>
    obtain ⟨k, hk, rfl, rfl⟩ := hrel
    have hr := sumTo_range hX k (by omega)
    by_cases hlt : k < n
    · have hc := hO1.cell k (by omega)
      have hb := isB_byt hX k
      have m0 : 0 ≤ ((k : Int) + 1) * byt xs k := Int.mul_nonneg (by omega) hb.1
      have m1 : ((k : Int) + 1) * byt xs k ≤ 256 * 255 := Int.mul_le_mul (by omega) hb.2 hb.1 (by omega)
      have hlt' := hlt
      go_wp2
      go_round
      case rel => exact ⟨k + 1, hlt', by go_num, rfl⟩
      case measure => simp [intOf]; omega
    · obtain rfl : k = n := by omega
      have hsb : Hid (sumB xs = sumTo xs k) := by unfold Hid sumB; rw [hn]
      go_wp2_with (at_builtin; refine Hid.out ?_)
      unfold Hid
      have hle : Hid (le4 (sumB xs) = [sumTo xs k % 256, sumTo xs k / 256 % 256, sumTo xs k / 65536, sumTo xs k / 16777216]) := by
        unfold Hid le4
        rw [hsb.out, show sumTo xs k / 65536 % 256 = sumTo xs k / 65536 by omega, show sumTo xs k / 16777216 % 256 = sumTo xs k / 16777216 by omega]
      refine wpList_append_ob rfl _ _ rfl w.heap.size _ _ rfl (hO1.alloc _) w1.heap.size 4 4 [sumTo xs k % 256, sumTo xs k / 256 % 256, sumTo xs k / 65536, sumTo xs k / 16777216] rfl rfl (fun i hi => ?_) (by omega) (by have := hB1.size; simp; omega) ?_
      · rcases i with _ | _ | _ | _ | i
        case succ.succ.succ.succ => simp only [List.length_cons, List.length_nil] at hi; omega
        all_goals simp [byt]
      · intro v4 w4 hO4 hg4
        have hB4 := below_grown (hB1.alloc hB1.size _) hg4 (fun k e => (hO1.lt k e).1)
        clear hg4
        obtain ⟨g5, n5, c5, rfl, -, hn5⟩ := hO4.shape2 (by simp)
        have hcv := convert_ob hO4 hn5.out
        go_wp2
        go_ret
        exact ⟨ret_str (by rw [hfr.out, hle.out]), hB4⟩
end Go.Proofs.Ytlledongbfjkiaa
