/- More on used prefixes: one more, put where it belongs, and taken away again; SameSpaces. -/
import Derived.Test.YtbnkgecblaffeaaZ
namespace Go.Proofs.Ytbnkgecblaffeaa
open Go.RowKit Go.Shelf

theorem apart_of {ps : List (Int × Int)} {a l : Int} (h : Used ps a l) : apartB a l ps = true := by
  refine apart_yes fun j hj => ?_
  have h1 := h.inn ps[j] (List.getElem_mem hj)
  unfold okAt
  rw [at0_get hj, at1_get hj, h1, Bool.true_and]
  cases j with
  | zero => rfl
  | succ j =>
    have hr := List.pairwise_iff_getElem.1 h.rise j (j + 1) (by omega) hj (by omega)
    have hp := sp_pos ps[j].2
    rw [Nat.add_sub_cancel, at0_get (by omega), at1_get (by omega)]
    simp only [Bool.or_eq_true, Bool.and_eq_true, decide_eq_true_eq, Bool.not_eq_true']
    right
    refine ⟨by omega, not_true fun hm => ?_⟩
    have := mts_nums hm
    omega

theorem put_used {ps qs : List (Int × Int)} {a l c m : Int} (h : Used ps a l) (hi : ins c m a l = true) (hf : mtsAny c m ps = false) (hp : PutAt ps c m qs) : Used qs a l := by
  obtain ⟨i, hin, hlow, hup, rfl⟩ := hp.ex
  have rc := (ins_nums hi).1
  have pm := sp_pos m
  have hno : ∀ u ∈ ps, mts c m u.1 u.2 = false := fun u hu => not_true fun h1 => by
    have := mtsAny_iff.2 ⟨u, hu, h1⟩
    rw [this] at hf; cases hf
  have hA : ∀ u ∈ ps.take i, u.1 + sp u.2 ≤ c := fun u hu => by
    obtain ⟨j, hj, rfl⟩ := List.getElem_of_mem hu
    rw [List.length_take] at hj
    have hj' : j < ps.length := by omega
    rw [List.getElem_take]
    have h1 := hlow j (by omega)
    rw [at0_get hj'] at h1
    have h2 := hno ps[j] (List.getElem_mem hj')
    have ru := (ins_nums (h.inn ps[j] (List.getElem_mem hj'))).1
    by_cases h3 : ps[j].1 + sp ps[j].2 ≤ c
    · exact h3
    · have := mts_of rc ru (by omega) (by omega)
      rw [this] at h2; cases h2
  have hB : ∀ u ∈ ps.drop i, c + sp m ≤ u.1 := fun u hu => by
    obtain ⟨j, hj, rfl⟩ := List.getElem_of_mem hu
    rw [List.length_drop] at hj
    have hj' : i + j < ps.length := by omega
    have hi' : i < ps.length := by omega
    rw [List.getElem_drop]
    have h1 := hup hi'
    rw [at0_get hi'] at h1
    have h4 : ps[i].1 ≤ ps[i + j].1 := by
      rcases Nat.eq_zero_or_pos j with h0 | h0
      · subst h0; exact Int.le_refl _
      · have := List.pairwise_iff_getElem.1 h.rise i (i + j) hi' hj' (by omega)
        have := sp_pos ps[i].2
        omega
    have h2 := hno ps[i + j] (List.getElem_mem hj')
    have ru := (ins_nums (h.inn ps[i + j] (List.getElem_mem hj'))).1
    by_cases h3 : c + sp m ≤ ps[i + j].1
    · exact h3
    · have := mts_of rc ru (by have := sp_pos ps[i + j].2; omega) (by omega)
      rw [this] at h2; cases h2
  refine ⟨fun u hu => ?_, ?_⟩
  · simp only [List.mem_append, List.mem_singleton] at hu
    rcases hu with (hu | rfl) | hu
    · exact h.inn u (List.mem_of_mem_take hu)
    · exact hi
    · exact h.inn u (List.mem_of_mem_drop hu)
  · rw [List.append_assoc, List.pairwise_append]
    refine ⟨h.rise.sublist (List.take_sublist i ps), ?_, fun u hu v hv => ?_⟩
    · rw [List.singleton_append, List.pairwise_cons]
      exact ⟨fun v hv => hB v hv, h.rise.sublist (List.drop_sublist i ps)⟩
    · simp only [List.singleton_append, List.mem_cons] at hv
      rcases hv with rfl | hv
      · exact hA u hu
      · have := hA u hu
        have := hB v hv
        omega

/-- What was put is found where it was put, and without it the list is as it was. -/
theorem put_back {ps qs : List (Int × Int)} {c m : Int} (hc : rt c m = true) (hf : mtsAny c m ps = false) (hp : PutAt ps c m qs) :
    ((∀ j, j < qs.length → eqAt qs c m j = false) → False) ∧ ∀ i, i < qs.length → eqAt qs c m i = true → qs.take i ++ qs.drop (i + 1) = ps := by
  obtain ⟨k, hk, -, -, rfl⟩ := hp.ex
  have hno : ∀ u ∈ ps, u ≠ (c, m) := fun u hu e => by
    subst e
    have := mtsAny_iff.2 ⟨_, hu, ins_mts (ins_self hc)⟩
    rw [this] at hf; cases hf
  have hl : (ps.take k ++ [(c, m)] ++ ps.drop k).length = ps.length + 1 := by simp; omega
  have hget : ∀ i (h : i < (ps.take k ++ [(c, m)] ++ ps.drop k).length), eqAt (ps.take k ++ [(c, m)] ++ ps.drop k) c m i = decide ((ps.take k ++ [(c, m)] ++ ps.drop k)[i] = (c, m)) := fun i h => by
    unfold eqAt
    rw [at0_get h, at1_get h, Bool.eq_iff_iff]
    simp only [Bool.and_eq_true, decide_eq_true_eq]
    constructor
    · rintro ⟨h1, h2⟩; exact Prod.ext h1.symm h2.symm
    · intro e; rw [e]; exact ⟨rfl, rfl⟩
  have hat : (ps.take k ++ [(c, m)] ++ ps.drop k)[k]'(by rw [hl]; omega) = (c, m) := by
    rw [List.getElem_append_left (by simp; omega), List.getElem_append_right (by simp; omega)]
    simp
  refine ⟨fun h => ?_, fun i hi he => ?_⟩
  · have := h k (by rw [hl]; omega)
    rw [hget k (by rw [hl]; omega), hat] at this
    simp at this
  · rw [hget i hi] at he
    have he' := of_decide_eq_true he
    have hik : i = k := by
      rcases Nat.lt_trichotomy i k with h | h | h
      · exfalso
        rw [List.getElem_append_left (by simp; omega), List.getElem_append_left (by simp; omega), List.getElem_take] at he'
        exact hno _ (List.getElem_mem _) he'
      · exact h
      · exfalso
        rw [List.getElem_append_right (by simp; omega), List.getElem_drop] at he'
        exact hno _ (List.getElem_mem _) he'
    subst hik
    have ht : (ps.take i).length = i := by rw [List.length_take]; omega
    rw [List.append_assoc, List.take_append_of_le_length (by omega), List.take_of_length_le (by omega)]
    rw [List.drop_append, ht, List.drop_eq_nil_of_le (by omega)]
    rw [show i + 1 - i = 1 by omega]
    simp

set_option maxRecDepth 20000 in
set_option maxHeartbeats 800000 in
theorem sameSpaces_is (a l : Int) (x y : Option Addr) (n m c d : Nat) (ps : List (Int × Int)) (w : World) (hp : PS w x n ps) (hq : PS w y m ps) (hn : n ≤ 100000) (hm : m ≤ 100000) :
    Calls Try.prog 19 #[.agg #[.int .i64 a, .int .i64 l, .slice x n c], .agg #[.int .i64 a, .int .i64 l, .slice y m d]] w fun e w' => e = .returned (.bool true) ∧ Below w.heap.size w w' := by
  have hb2 := bl2 w (.cells #[.int .i64 a, .int .i64 l, .slice x n c] 26) (.cells #[.int .i64 a, .int .i64 l, .slice y m d] 26)
  have hs := samePrefixes_any x y n m c d ps ps _ (hp.later hb2) (hq.later hb2) hn hm
  rw [decide_eq_true (rfl : ps = ps)] at hs
  go_enter Try.func19, Try.ntmps19
  go_wp2_with (go_at_call 14; refine hs.mono ?_; rintro e w1 ⟨rfl, hb1⟩)
  go_ret
  exact ⟨rfl, hb2.trans (hb1.mono (by simp; omega))⟩
end Go.Proofs.Ytbnkgecblaffeaa
