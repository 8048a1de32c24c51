/- What a right network tells of its subnets and their addresses. -/
import Derived.Test.YtlalgkjollgcbaaGreatMN16
namespace Go.Proofs.YtlalgkjollgcbaaGreat
open Go.RowKit Go.Shelf

theorem chkV_right {vid : Int} {rn : Nat} {rs : List Rg} {sn : Nat} {ss : List Sb} (h : chkV vid rn rs sn ss = 0) : wth vid 1 65536 = true ∧ rgsB rn rs = true ∧ sbsB rn rs sn ss = true := by
  unfold chkV at h
  split at h
  · omega
  · split at h
    · rename_i hw
      simp only [Bool.and_eq_true] at hw
      exact ⟨hw.1.1, hw.1.2, hw.2⟩
    · omega
theorem chkV_sub {vid : Int} {rn : Nat} {rs : List Rg} {sn : Nat} {ss : List Sb} (h : chkV vid rn rs sn ss = 0) : ∀ i, i < sn → rt (sbAt ss i).a (sbAt ss i).l = true ∧
    ∀ k, k < (sbAt ss i).n → ∀ j, j < (fcAt (sbAt ss i).fs k).n → 0 ≤ inAt (fcAt (sbAt ss i).fs k).ns j ∧ inAt (fcAt (sbAt ss i).fs k).ns j ≤ 1000000 := fun i hi => by
  obtain ⟨-, -, hs⟩ := chkV_right h
  unfold sbsB at hs
  rw [Bool.and_eq_true, List.all_eq_true] at hs
  have h1 := hs.1 i (by simpa using hi)
  unfold sbsAt at h1
  simp only [Bool.and_eq_true] at h1
  have hrt := sub_rt h1.1.1
  refine ⟨hrt, fun k hk j hj => ?_⟩
  have hf := h1.2
  unfold fcsB at hf
  simp only [Bool.and_eq_true, List.all_eq_true] at hf
  have h2 := hf.1.1 k (by simpa using hk)
  unfold fcsAt at h2
  simp only [Bool.and_eq_true] at h2
  exact us_range hrt (ad_us h2.2 j hj)
end Go.Proofs.YtlalgkjollgcbaaGreat
