/- The mathematics of holes: what they are, which fits, how the document's own walk finds them (no program in it). -/
import Derived.Test.YtbnkgecblaffeaaQ
namespace Go.Proofs.Ytbnkgecblaffeaa
/-- What the numbers say of a prefix inside of another one. -/
theorem ins_nums {a l c m : Int} (h : ins a l c m = true) : rt a l = true ∧ rt c m = true ∧ m ≤ l ∧ c ≤ a ∧ a + sp l ≤ c + sp m := by
  have h0 := h
  unfold ins at h
  simp only [Bool.and_eq_true, decide_eq_true_eq] at h
  obtain ⟨⟨⟨h1, h2⟩, h3⟩, h4⟩ := h
  rw [ins_iff a l c m h1 h2] at h0
  unfold hld at h0
  simp only [Bool.and_eq_true, decide_eq_true_eq] at h0
  exact ⟨h1, h2, h3, h0.1.1.2, by omega⟩
theorem ins_of {a l c m : Int} (h1 : rt a l = true) (h2 : rt c m = true) (h3 : c ≤ a) (h4 : a + sp l ≤ c + sp m) : ins a l c m = true := by
  have := sp_pos l
  rw [ins_iff a l c m h1 h2]
  unfold hld
  rw [h2]
  simp only [Bool.true_and, Bool.and_eq_true, decide_eq_true_eq]
  omega
theorem mts_nums {a l c m : Int} (h : mts a l c m = true) : rt a l = true ∧ rt c m = true ∧ a < c + sp m ∧ c < a + sp l := by
  have h1 : rt a l = true ∧ rt c m = true := by
    unfold mts at h
    rcases Bool.or_eq_true_iff.1 h with h | h
    · exact ⟨(ins_nums h).1, (ins_nums h).2.1⟩
    · exact ⟨(ins_nums h).2.1, (ins_nums h).1⟩
  rw [mts_iff a l c m h1.1 h1.2] at h
  simp only [Bool.and_eq_true, decide_eq_true_eq] at h
  exact ⟨h1.1, h1.2, by omega, by omega⟩
theorem mts_of {a l c m : Int} (h1 : rt a l = true) (h2 : rt c m = true) (h3 : a < c + sp m) (h4 : c < a + sp l) : mts a l c m = true := by
  rw [mts_iff a l c m h1 h2]
  simp only [Bool.and_eq_true, decide_eq_true_eq]
  omega
theorem mts_comm (a l c m : Int) : mts a l c m = mts c m a l := by unfold mts; exact Bool.or_comm _ _
/-- Two that meet: one is inside of the other. -/
theorem mts_ins {a l c m : Int} (h : mts a l c m = true) : ins a l c m = true ∨ ins c m a l = true := by
  unfold mts at h; exact Bool.or_eq_true_iff.1 h
theorem ins_trans {a l c m e k : Int} (h : ins a l c m = true) (g : ins c m e k = true) : ins a l e k = true := by
  obtain ⟨h1, h2, h3, h4, h5⟩ := ins_nums h
  obtain ⟨g1, g2, g3, g4, g5⟩ := ins_nums g
  exact ins_of h1 g2 (by omega) (by omega)
theorem ins_mts {a l c m : Int} (h : ins a l c m = true) : mts a l c m = true := by unfold mts; rw [h]; rfl
theorem ins_self {a l : Int} (h : rt a l = true) : ins a l a l = true := ins_of h h (by omega) (by omega)
theorem ins_anti {a l c m : Int} (h : ins a l c m = true) (g : ins c m a l = true) : a = c ∧ l = m := by
  obtain ⟨h1, h2, h3, h4, h5⟩ := ins_nums h
  obtain ⟨g1, g2, g3, g4, g5⟩ := ins_nums g
  omega

theorem sp_half {l : Int} (h0 : 0 ≤ l) (h1 : l < 16) : sp l = 2 * sp (l + 1) := by
  rw [sp_eq l h0 (by omega), sp_eq (l + 1) (by omega) (by omega)]
  have : (16 - l).toNat = (16 - (l + 1)).toNat + 1 := by omega
  rw [this, Int.pow_succ]
  omega
theorem rt_of {a l : Int} (h0 : 0 ≤ l) (h1 : l ≤ 16) (h2 : 0 ≤ a) (h3 : a ≤ 65535) (h4 : sp l ∣ a) : rt a l = true := by
  unfold rt chk
  rw [if_neg (by omega), if_pos (Int.emod_eq_zero_of_dvd h4)]
  rfl
theorem sp_16 : sp 16 = 1 := by decide
theorem rt_top {a l : Int} (h : rt a l = true) : a + sp l ≤ 65536 := by
  obtain ⟨h0, h1, h2, h3, h4⟩ := rt_range h
  have hd : sp l ∣ 65536 := by have := sp_dvd (l := l) (m := 0) (by omega) h0 h1; simpa [sp] using this
  exact step_le (sp_pos l) (Int.dvd_of_emod_eq_zero h4) hd (by omega)
theorem rt_low {a l : Int} (h : rt a l = true) (h16 : l < 16) : rt a (l + 1) = true := by
  obtain ⟨h0, h1, h2, h3, h4⟩ := rt_range h
  exact rt_of (by omega) (by omega) h2 h3 (Int.dvd_trans (sp_dvd h0 (by omega) (by omega)) (Int.dvd_of_emod_eq_zero h4))
theorem rt_high {a l : Int} (h : rt a l = true) (h16 : l < 16) : rt (a + sp (l + 1)) (l + 1) = true := by
  obtain ⟨h0, h1, h2, h3, h4⟩ := rt_range h
  have := rt_top h
  have := sp_half h0 h16
  have := sp_pos (l + 1)
  exact rt_of (by omega) (by omega) (by omega) (by omega) (Int.dvd_add (Int.dvd_trans (sp_dvd h0 (by omega) (by omega)) (Int.dvd_of_emod_eq_zero h4)) (Int.dvd_refl _))

theorem mtsAny_iff {a l : Int} {ps : List (Int × Int)} : mtsAny a l ps = true ↔ ∃ u ∈ ps, mts a l u.1 u.2 = true := by
  unfold mtsAny anyAt
  rw [List.any_eq_true]
  constructor
  · rintro ⟨i, hi, h⟩
    rw [List.mem_range] at hi
    refine ⟨ps[i], List.getElem_mem hi, ?_⟩
    simpa [at0, at1, List.getD_eq_getElem?_getD, List.getElem?_eq_getElem hi] using h
  · rintro ⟨u, hu, h⟩
    obtain ⟨i, hi, rfl⟩ := List.getElem_of_mem hu
    refine ⟨i, List.mem_range.2 hi, ?_⟩
    simpa [at0, at1, List.getD_eq_getElem?_getD, List.getElem?_eq_getElem hi] using h
theorem insAny_iff {a l : Int} {ps : List (Int × Int)} : insAny a l ps = true ↔ ∃ u ∈ ps, ins a l u.1 u.2 = true := by
  unfold insAny anyAt
  rw [List.any_eq_true]
  constructor
  · rintro ⟨i, hi, h⟩
    rw [List.mem_range] at hi
    refine ⟨ps[i], List.getElem_mem hi, ?_⟩
    simpa [at0, at1, List.getD_eq_getElem?_getD, List.getElem?_eq_getElem hi] using h
  · rintro ⟨u, hu, h⟩
    obtain ⟨i, hi, rfl⟩ := List.getElem_of_mem hu
    refine ⟨i, List.mem_range.2 hi, ?_⟩
    simpa [at0, at1, List.getD_eq_getElem?_getD, List.getElem?_eq_getElem hi] using h
theorem not_true {b : Bool} (h : ¬ b = true) : b = false := by cases b <;> simp_all

/-- What the holes of a prefix are: free, inside of it, rising and apart, and each free prefix inside of it is in one. -/
structure HolesAre (ps : List (Int × Int)) (a l : Int) (H : List (Int × Int)) : Prop where
  free : ∀ h ∈ H, ins h.1 h.2 a l = true ∧ mtsAny h.1 h.2 ps = false
  all : ∀ x k, ins x k a l = true → mtsAny x k ps = false → ∃ h ∈ H, ins x k h.1 h.2 = true
  rise : H.Pairwise fun h g => h.1 + sp h.2 ≤ g.1

/-- What is inside of a prefix and meets something that it meets too. -/
theorem free_in {x k a l : Int} {ps : List (Int × Int)} (h : ins x k a l = true) (hf : mtsAny a l ps = false) : mtsAny x k ps = false := by
  refine not_true fun hm => ?_
  obtain ⟨u, hu, h1⟩ := mtsAny_iff.1 hm
  have h2 := mts_nums h1
  have h3 := ins_nums h
  have : mtsAny a l ps = true := mtsAny_iff.2 ⟨u, hu, mts_of h3.2.1 h2.2.1 (by omega) (by omega)⟩
  rw [this] at hf; cases hf

/-- A prefix inside of another one, and not the same, is inside of one of its halves. -/
theorem ins_half {x k a l : Int} (h : ins x k a l = true) (hk : l < k) (h16 : l < 16) : ins x k a (l + 1) = true ∨ ins x k (a + sp (l + 1)) (l + 1) = true := by
  obtain ⟨h1, h2, h3, h4, h5⟩ := ins_nums h
  obtain ⟨k0, k1, x0, x1, xd⟩ := rt_range h1
  obtain ⟨l0, l1, a0, a1, ad⟩ := rt_range h2
  have hs := sp_half l0 h16
  by_cases hx : x < a + sp (l + 1)
  · left
    refine ins_of h1 (rt_low h2 h16) h4 ?_
    have d1 : sp k ∣ sp (l + 1) := sp_dvd (by omega) (by omega) k1
    have d2 : sp (l + 1) ∣ a := Int.dvd_trans (sp_dvd l0 (by omega) (by omega)) (Int.dvd_of_emod_eq_zero ad)
    exact step_le (sp_pos k) (Int.dvd_of_emod_eq_zero xd) (Int.dvd_add (Int.dvd_trans d1 d2) d1) hx
  · right
    exact ins_of h1 (rt_high h2 h16) (by omega) (by omega)

theorem hol_are (ps : List (Int × Int)) : ∀ (f : Nat) (a l : Int), rt a l = true → (f : Int) = 16 - l → HolesAre ps a l (hol ps f a l)
  | 0, a, l, hr, hf => by
    have hl : l = 16 := by omega
    cases hm : mtsAny a l ps
    · simp only [hol, hm]
      exact ⟨by simp [ins_self hr, hm], fun x k hx _ => ⟨(a, l), by simp, hx⟩, by simp⟩
    · simp only [hol, hm]
      refine ⟨by simp, fun x k hx hfr => ?_, by simp⟩
      exfalso
      obtain ⟨g1, g2, g3, g4, g5⟩ := ins_nums hx
      have hxe : k = l := by have := rt_range g1; omega
      subst hxe
      have : x = a := by omega
      subst this
      rw [hm] at hfr; cases hfr
  | f + 1, a, l, hr, hf => by
    have h16 : l < 16 := by omega
    have l0 := (rt_range hr).1
    cases hm : mtsAny a l ps
    · simp only [hol, hm]
      exact ⟨by simp [ins_self hr, hm], fun x k hx _ => ⟨(a, l), by simp, hx⟩, by simp⟩
    · cases hi : insAny a l ps
      · simp only [hol, hm, hi]
        have A := hol_are ps f a (l + 1) (rt_low hr h16) (by omega)
        have B := hol_are ps f (a + sp (l + 1)) (l + 1) (rt_high hr h16) (by omega)
        have hs := sp_half l0 h16
        have pl := sp_pos (l + 1)
        have iA : ins a (l + 1) a l = true := ins_of (rt_low hr h16) hr (by omega) (by omega)
        have iB : ins (a + sp (l + 1)) (l + 1) a l = true := ins_of (rt_high hr h16) hr (by omega) (by omega)
        refine ⟨?_, ?_, ?_⟩
        · intro h hh
          simp only [if_true, Bool.false_eq_true, if_false, List.mem_append] at hh
          rcases hh with hh | hh
          · exact ⟨ins_trans (A.free h hh).1 iA, (A.free h hh).2⟩
          · exact ⟨ins_trans (B.free h hh).1 iB, (B.free h hh).2⟩
        · intro x k hx hfr
          have hk : l < k := by
            obtain ⟨g1, g2, g3, g4, g5⟩ := ins_nums hx
            by_cases hk : l < k
            · exact hk
            · have hkl : k = l := by omega
              subst hkl
              have : x = a := by omega
              subst this
              rw [hm] at hfr; cases hfr
          simp only [if_true, Bool.false_eq_true, if_false, List.mem_append]
          rcases ins_half hx hk h16 with h1 | h1
          · obtain ⟨h, hh, h2⟩ := A.all x k h1 hfr
            exact ⟨h, .inl hh, h2⟩
          · obtain ⟨h, hh, h2⟩ := B.all x k h1 hfr
            exact ⟨h, .inr hh, h2⟩
        · simp only [if_true, Bool.false_eq_true, if_false]
          rw [List.pairwise_append]
          refine ⟨A.rise, B.rise, fun h hh g hg => ?_⟩
          have h1 := ins_nums (A.free h hh).1
          have h2 := ins_nums (B.free g hg).1
          omega
      · simp only [hol, hm, hi]
        refine ⟨by simp, fun x k hx hfr => ?_, by simp⟩
        exfalso
        obtain ⟨u, hu, h1⟩ := insAny_iff.1 hi
        have : mtsAny x k ps = true := mtsAny_iff.2 ⟨u, hu, ins_mts (ins_trans hx h1)⟩
        rw [this] at hfr; cases hfr

/-- A list of used prefixes as a right space has it. -/
structure Used (ps : List (Int × Int)) (a l : Int) : Prop where
  inn : ∀ u ∈ ps, ins u.1 u.2 a l = true
  rise : ps.Pairwise fun h g => h.1 + sp h.2 ≤ g.1

theorem at0_get {ps : List (Int × Int)} {i : Nat} (h : i < ps.length) : at0 ps i = ps[i].1 := by
  simp [at0, List.getD_eq_getElem?_getD, List.getElem?_eq_getElem h]
theorem at1_get {ps : List (Int × Int)} {i : Nat} (h : i < ps.length) : at1 ps i = ps[i].2 := by
  simp [at1, List.getD_eq_getElem?_getD, List.getElem?_eq_getElem h]

theorem used_of {ps : List (Int × Int)} {a l : Int} (h : apartB a l ps = true) : Used ps a l := by
  unfold apartB at h
  rw [List.all_eq_true] at h
  have ok : ∀ i (hi : i < ps.length), ins ps[i].1 ps[i].2 a l = true := fun i hi => by
    have := h i (List.mem_range.2 hi)
    unfold okAt at this
    rw [Bool.and_eq_true, at0_get hi, at1_get hi] at this
    exact this.1
  have nx : ∀ i (hi : i + 1 < ps.length), ps[i].1 + sp ps[i].2 ≤ ps[i + 1].1 := fun i hi => by
    have := h (i + 1) (List.mem_range.2 hi)
    unfold okAt at this
    rw [Bool.and_eq_true] at this
    have h2 := this.2
    simp only [Nat.add_sub_cancel, Nat.add_eq_zero_iff, Nat.one_ne_zero, and_false, Bool.or_eq_true, Bool.and_eq_true, decide_eq_true_eq, Bool.not_eq_true', beq_iff_eq, false_or] at h2
    rw [at0_get hi, at1_get hi, at0_get (by omega), at1_get (by omega)] at h2
    obtain ⟨h3, h4⟩ := h2
    have h5 := (ins_nums (ok i (by omega))).1
    have h6 := (ins_nums (ok (i + 1) hi)).1
    have p := sp_pos ps[i + 1].2
    by_cases h7 : ps[i].1 + sp ps[i].2 ≤ ps[i + 1].1
    · exact h7
    · have := mts_of h5 h6 (by omega) (by omega)
      rw [this] at h4; cases h4
  refine ⟨fun u hu => ?_, ?_⟩
  · obtain ⟨i, hi, rfl⟩ := List.getElem_of_mem hu
    exact ok i hi
  · rw [List.pairwise_iff_getElem]
    intro i j hi hj hij
    induction j with
    | zero => omega
    | succ j ih =>
      by_cases he : i = j
      · subst he; exact nx i hj
      · have h1 := ih (by omega) (by omega)
        have h2 := nx j hj
        have h3 := sp_pos ps[j].2
        omega

/-- A prefix of that length that is free. -/
def okFit (ps : List (Int × Int)) (a l z x : Int) : Prop := ins x z a l = true ∧ mtsAny x z ps = false
/-- The least one that is free; none, if there is none. -/
def FitIs (ps : List (Int × Int)) (a l z : Int) : Option Int → Prop
  | some x => okFit ps a l z x ∧ ∀ y, okFit ps a l z y → x ≤ y
  | none => ∀ y, ¬ okFit ps a l z y
theorem FitIs.one {ps : List (Int × Int)} {a l z : Int} : ∀ {r s : Option Int}, FitIs ps a l z r → FitIs ps a l z s → r = s
  | some x, some y, h, g => by have := h.2 y g.1; have := g.2 x h.1; congr 1; omega
  | some x, none, h, g => absurd h.1 (g x)
  | none, some y, h, g => absurd g.1 (h y)
  | none, none, _, _ => rfl

theorem rt_part {x k z : Int} (h : rt x k = true) (hz : k ≤ z) (h16 : z ≤ 16) : rt x z = true := by
  obtain ⟨h0, h1, h2, h3, h4⟩ := rt_range h
  exact rt_of (by omega) h16 h2 h3 (Int.dvd_trans (sp_dvd h0 hz h16) (Int.dvd_of_emod_eq_zero h4))
theorem ins_part {x k z : Int} (h : rt x k = true) (hz : k ≤ z) (h16 : z ≤ 16) : ins x z x k = true :=
  ins_of (rt_part h hz h16) h (by omega) (by have := sp_anti (rt_range h).1 hz h16; omega)

theorem rise_first {H : List (Int × Int)} (hr : H.Pairwise fun h g => h.1 + sp h.2 ≤ g.1) {p : (Int × Int) → Bool} {h g : Int × Int} (hf : H.find? p = some h) (hg : g ∈ H) (hp : p g = true) : h.1 ≤ g.1 := by
  induction H with
  | nil => cases hg
  | cons e t ih =>
    rw [List.pairwise_cons] at hr
    rw [List.find?_cons] at hf
    cases he : p e
    · rw [he] at hf
      rcases List.mem_cons.1 hg with rfl | hg
      · rw [hp] at he; cases he
      · exact ih hr.2 hf hg
    · rw [he] at hf
      simp only [Option.some.injEq] at hf
      subst hf
      rcases List.mem_cons.1 hg with rfl | hg
      · exact Int.le_refl _
      · have := hr.1 g hg; have := sp_pos e.2; omega

theorem fit_hol {ps : List (Int × Int)} {a l z : Int} {H : List (Int × Int)} (hH : HolesAre ps a l H) (h16 : z ≤ 16) :
    FitIs ps a l z ((H.find? fun h => decide (h.2 ≤ z)).map (·.1)) := by
  cases hf : H.find? fun h => decide (h.2 ≤ z) with
  | none =>
    intro y hy
    obtain ⟨g, hg, h1⟩ := hH.all y z hy.1 hy.2
    have := List.find?_eq_none.1 hf g hg
    have h2 := ins_nums h1
    simp at this
    omega
  | some h =>
    have hm := List.mem_of_find?_eq_some hf
    have hz : h.2 ≤ z := by have := List.find?_some hf; simpa using this
    obtain ⟨h1, h2⟩ := hH.free h hm
    have hi := ins_part (ins_nums h1).1 hz h16
    refine ⟨⟨ins_trans hi h1, free_in hi h2⟩, fun y hy => ?_⟩
    obtain ⟨g, hg, h3⟩ := hH.all y z hy.1 hy.2
    have h4 := ins_nums h3
    have := rise_first hH.rise hf hg (by simpa using h4.2.2.1)
    show h.1 ≤ y
    omega

/-- How far the used ones that a place meets reach. -/
def farOf (ps : List (Int × Int)) (x z : Int) : Int := ps.foldl (fun f u => if mts u.1 u.2 x z then max f (u.1 + sp u.2 - 1) else f) x
theorem far_foldl {ps : List (Int × Int)} {x z : Int} (f : Int) : f ≤ ps.foldl (fun f u => if mts u.1 u.2 x z then max f (u.1 + sp u.2 - 1) else f) f ∧
    (ps.foldl (fun f u => if mts u.1 u.2 x z then max f (u.1 + sp u.2 - 1) else f) f = f ∨ ∃ u ∈ ps, mts u.1 u.2 x z = true ∧ ps.foldl (fun f u => if mts u.1 u.2 x z then max f (u.1 + sp u.2 - 1) else f) f = u.1 + sp u.2 - 1) := by
  induction ps generalizing f with
  | nil => exact ⟨Int.le_refl _, .inl rfl⟩
  | cons u t ih =>
    simp only [List.foldl_cons]
    cases hm : mts u.1 u.2 x z
    · simp only [Bool.false_eq_true, if_false]
      obtain ⟨h1, h2⟩ := ih f
      refine ⟨h1, ?_⟩
      rcases h2 with h2 | ⟨v, hv, h3⟩
      · exact .inl h2
      · exact .inr ⟨v, List.mem_cons_of_mem _ hv, h3⟩
    · simp only [if_true]
      obtain ⟨h1, h2⟩ := ih (max f (u.1 + sp u.2 - 1))
      refine ⟨by omega, ?_⟩
      rcases h2 with h2 | ⟨v, hv, h3⟩
      · rw [h2]
        by_cases hx : f ≤ u.1 + sp u.2 - 1
        · exact .inr ⟨u, by simp, hm, by omega⟩
        · exact .inl (by omega)
      · exact .inr ⟨v, List.mem_cons_of_mem _ hv, h3⟩

/-- A place that no free one is ahead of, and that is not free: where none is ahead of then. -/
theorem fit_step {ps : List (Int × Int)} {a l z x : Int} (hd : sp z ∣ x) (hlow : ∀ y, okFit ps a l z y → x ≤ y) (hno : mtsAny x z ps = true) :
    ∀ y, okFit ps a l z y → max x (farOf ps x z / sp z * sp z) + sp z ≤ y := by
  intro y hy
  have pz := sp_pos z
  have hxy := hlow y hy
  have ry := (ins_nums hy.1).1
  have dy : sp z ∣ y := Int.dvd_of_emod_eq_zero (rt_range ry).2.2.2.2
  have hne : x < y := by
    by_cases h : x = y
    · subst h; have := hy.2; rw [hno] at this; cases this
    · omega
  have hxz := step_le pz hd dy hne
  have hfar : farOf ps x z < y := by
    obtain ⟨h1, h2⟩ := far_foldl (ps := ps) (x := x) (z := z) x
    rcases h2 with h2 | ⟨u, hu, h3, h4⟩
    · unfold farOf; rw [h2]; exact hne
    · unfold farOf; rw [h4]
      by_cases h5 : u.1 + sp u.2 - 1 < y
      · exact h5
      · exfalso
        have h6 := mts_nums h3
        have : mtsAny y z ps = true := mtsAny_iff.2 ⟨u, hu, mts_of ry h6.1 (by omega) (by omega)⟩
        have h7 := hy.2
        rw [this] at h7; cases h7
  have hq : farOf ps x z / sp z * sp z ≤ farOf ps x z := Int.ediv_mul_le _ (by omega)
  have hq2 := step_le (s := sp z) (a := farOf ps x z / sp z * sp z) (e := y) pz (Int.dvd_mul_left _ _) dy (by omega)
  omega

/-- Where the document's own walk through the holes stands. -/
structure HInv (ps : List (Int × Int)) (a l : Int) (H : List (Int × Int)) (x : Int) (out : List (Int × Int)) : Prop where
  low : a ≤ x
  high : x ≤ a + sp l
  parts : ∃ rest, H = out ++ rest ∧ ∀ h ∈ rest, x ≤ h.1
  past : ∀ h ∈ out, h.1 + sp h.2 ≤ x
  used : ∀ u ∈ ps, x ≤ u.1 ∨ u.1 + sp u.2 ≤ x

theorem HInv.start {ps : List (Int × Int)} {a l : Int} {H : List (Int × Int)} (hH : HolesAre ps a l H) (hu : Used ps a l) : HInv ps a l H a [] :=
  ⟨Int.le_refl _, by have := sp_pos l; omega, ⟨H, rfl, fun h hh => (ins_nums (hH.free h hh).1).2.2.2.1⟩, by simp, fun u hm => .inl (ins_nums (hu.inn u hm)).2.2.2.1⟩

theorem HInv.done {ps : List (Int × Int)} {a l x : Int} {H out : List (Int × Int)} (h : HInv ps a l H x out) (hH : HolesAre ps a l H) (hx : a + sp l ≤ x) : out = H := by
  obtain ⟨rest, hr, hge⟩ := h.parts
  cases rest with
  | nil => simpa using hr.symm
  | cons g t =>
    exfalso
    have h1 := ins_nums (hH.free g (by rw [hr]; simp)).1
    have h2 := hge g (by simp)
    have h3 := sp_pos g.2
    omega

theorem rt_point {a l x : Int} (h : rt a l = true) (h1 : a ≤ x) (h2 : x < a + sp l) : rt x 16 = true ∧ ins x 16 a l = true := by
  have := rt_top h
  have h3 := rt_range h
  have hr : rt x 16 = true := rt_of (by omega) (by omega) (by omega) (by omega) (by rw [sp_16]; exact Int.one_dvd _)
  exact ⟨hr, ins_of hr h h1 (by rw [sp_16]; omega)⟩

/-- The place is free: the next hole begins there, and is the greatest free one that does. -/
theorem HInv.free {ps : List (Int × Int)} {a l x : Int} {H out : List (Int × Int)} (h : HInv ps a l H x out) (hr : rt a l = true) (hH : HolesAre ps a l H) (hU : Used ps a l) (hx : x < a + sp l) (hf : mtsAny x 16 ps = false) :
    ∃ m, rt x m = true ∧ l ≤ m ∧ (∀ k, l ≤ k → k ≤ 16 → ((rt x k && ins x k a l && !mtsAny x k ps) = decide (m ≤ k))) ∧ HInv ps a l H (x + sp m) (out ++ [(x, m)]) := by
  obtain ⟨hp, hpi⟩ := rt_point hr h.low hx
  obtain ⟨g, hg, hgi⟩ := hH.all x 16 hpi hf
  have n1 := ins_nums hgi
  rw [sp_16] at n1
  obtain ⟨rest, hrest, hge⟩ := h.parts
  obtain ⟨g0, m⟩ := g
  have hgr : (g0, m) ∈ rest := by
    rw [hrest, List.mem_append] at hg
    rcases hg with hg | hg
    · have := h.past _ hg; simp only at n1 this; omega
    · exact hg
  have he : g0 = x := by have := hge _ hgr; simp only at n1 this; omega
  subst he
  simp only at n1
  obtain ⟨hin, hfr⟩ := hH.free _ hg
  simp only at hin hfr
  have n2 := ins_nums hin
  -- the first of the rest
  cases rest with
  | nil => cases hgr
  | cons e t =>
    have hrise := hH.rise
    rw [hrest, List.pairwise_append, List.pairwise_cons] at hrise
    have hee : e = (g0, m) := by
      rcases List.mem_cons.1 hgr with h1 | h1
      · exact h1.symm
      · have h2 := hrise.2.1.1 _ h1
        have h3 := hge e (by simp)
        have h4 := sp_pos e.2
        simp only at h2
        omega
    subst hee
    refine ⟨m, n2.1, n2.2.2.1, fun k hk hk16 => ?_, ?_⟩
    · rw [Bool.eq_iff_iff]
      simp only [Bool.and_eq_true, Bool.not_eq_true', decide_eq_true_eq]
      constructor
      · rintro ⟨⟨h1, h2⟩, h3⟩
        obtain ⟨e, he, h4⟩ := hH.all g0 k h2 h3
        have n4 := ins_nums h4
        have he2 : e = (g0, m) := by
          rw [hrest, List.mem_append] at he
          rcases he with he | he
          · have := h.past _ he
            have := sp_pos k
            omega
          · rcases List.mem_cons.1 he with he | he
            · exact he
            · have h5 := hrise.2.1.1 _ he
              have := sp_pos m
              simp only at h5
              omega
        subst he2
        exact n4.2.2.1
      · intro h1
        have hi := ins_part n2.1 h1 hk16
        exact ⟨⟨(ins_nums hi).1, ins_trans hi hin⟩, free_in hi hfr⟩
    · have pm := sp_pos m
      refine ⟨by have := h.low; omega, n2.2.2.2.2, ⟨t, by rw [hrest]; simp, fun e he => ?_⟩, fun e he => ?_, fun u hu => ?_⟩
      · exact hrise.2.1.1 e he
      · rcases List.mem_append.1 he with he | he
        · have := h.past e he; omega
        · rw [List.mem_singleton.1 he]; exact Int.le_refl _
      · rcases h.used u hu with h1 | h1
        · by_cases h2 : g0 + sp m ≤ u.1
          · exact .inl h2
          · exfalso
            have : mtsAny g0 m ps = true := mtsAny_iff.2 ⟨u, hu, mts_of n2.1 (ins_nums (hU.inn u hu)).1 (by have := sp_pos u.2; omega) (by omega)⟩
            rw [this] at hfr; cases hfr
        · exact .inr (by omega)

/-- The place is used: behind that one. -/
theorem HInv.skip {ps : List (Int × Int)} {a l x : Int} {H out : List (Int × Int)} {u : Int × Int} (h : HInv ps a l H x out) (hH : HolesAre ps a l H) (hu : Used ps a l) (hm : u ∈ ps) (h1 : u.1 ≤ x) (h2 : x < u.1 + sp u.2) :
    HInv ps a l H (u.1 + sp u.2) out := by
  have hi := ins_nums (hu.inn u hm)
  obtain ⟨rest, hrest, hge⟩ := h.parts
  refine ⟨by omega, hi.2.2.2.2, ⟨rest, hrest, fun g hg => ?_⟩, fun g hg => by have := h.past g hg; omega, fun v hv => ?_⟩
  · have h3 := hge g hg
    by_cases h4 : u.1 + sp u.2 ≤ g.1
    · exact h4
    · exfalso
      obtain ⟨g1, g2⟩ := hH.free g (by rw [hrest]; exact List.mem_append_right _ hg)
      have : mtsAny g.1 g.2 ps = true := mtsAny_iff.2 ⟨u, hm, mts_of (ins_nums g1).1 hi.1 (by omega) (by have := sp_pos g.2; omega)⟩
      rw [this] at g2; cases g2
  · have pv := sp_pos v.2
    have pu := sp_pos u.2
    obtain ⟨i, hi', rfl⟩ := List.getElem_of_mem hm
    obtain ⟨j, hj', rfl⟩ := List.getElem_of_mem hv
    have hp := List.pairwise_iff_getElem.1 hu.rise
    rcases Nat.lt_trichotomy i j with hij | hij | hij
    · exact .inl (hp i j hi' hj' hij)
    · subst hij; exact .inr (Int.le_refl _)
    · have := hp j i hj' hi' hij
      exact .inr (by omega)

/-- The place is used: nothing free begins there, and one used one has it. -/
theorem busy_at {ps : List (Int × Int)} {x : Int} (hf : mtsAny x 16 ps = true) :
    (∃ u ∈ ps, hld u.1 u.2 x = true) ∧ ∀ k, rt x k = true → mtsAny x k ps = true := by
  obtain ⟨u, hu, h⟩ := mtsAny_iff.1 hf
  have n := mts_nums h
  rw [sp_16] at n
  refine ⟨⟨u, hu, ?_⟩, fun k hk => mtsAny_iff.2 ⟨u, hu, mts_of hk n.2.1 (by omega) (by have := sp_pos k; omega)⟩⟩
  unfold hld
  rw [n.2.1]
  simp only [Bool.true_and, Bool.and_eq_true, decide_eq_true_eq]
  omega

theorem hld_nums {a l x : Int} : hld a l x = true ↔ rt a l = true ∧ a ≤ x ∧ x < a + sp l := by
  unfold hld
  simp only [Bool.and_eq_true, decide_eq_true_eq, and_assoc]

theorem count_no {L : List (Int × Int)} {x : Int} (h : ∀ g ∈ L, hld g.1 g.2 x = false) : L.countP (fun g => hld g.1 g.2 x) = 0 := by
  rw [List.countP_eq_zero]
  intro g hg; rw [h g hg]; simp
theorem count_one {L : List (Int × Int)} {x : Int} (hr : L.Pairwise fun h g => h.1 + sp h.2 ≤ g.1) (h : ∃ g ∈ L, hld g.1 g.2 x = true) : L.countP (fun g => hld g.1 g.2 x) = 1 := by
  induction L with
  | nil => obtain ⟨g, hg, _⟩ := h; cases hg
  | cons e t ih =>
    rw [List.pairwise_cons] at hr
    cases he : hld e.1 e.2 x
    · rw [List.countP_cons_of_neg (by simp [he])]
      refine ih hr.2 ?_
      obtain ⟨g, hg, h1⟩ := h
      rcases List.mem_cons.1 hg with rfl | hg
      · rw [h1] at he; cases he
      · exact ⟨g, hg, h1⟩
    · rw [List.countP_cons_of_pos (by simp [he]), count_no]
      intro g hg
      refine not_true fun h1 => ?_
      have := hr.1 g hg
      have := hld_nums.1 h1
      have := hld_nums.1 he
      omega

/-- Each address of the root is in just one used prefix or just one hole. -/
theorem whole {ps H : List (Int × Int)} {a l x : Int} (hr : rt a l = true) (hH : HolesAre ps a l H) (hU : Used ps a l) (h1 : a ≤ x) (h2 : x < a + sp l) :
    H.countP (fun g => hld g.1 g.2 x) + ps.countP (fun g => hld g.1 g.2 x) = 1 := by
  obtain ⟨hp, hpi⟩ := rt_point hr h1 h2
  cases hf : mtsAny x 16 ps
  · obtain ⟨g, hg, hi⟩ := hH.all x 16 hpi hf
    have n := ins_nums hi
    rw [sp_16] at n
    rw [count_one hH.rise ⟨g, hg, hld_nums.2 ⟨n.2.1, n.2.2.2.1, by omega⟩⟩, count_no]
    intro u hu
    refine not_true fun h => ?_
    have h3 := hld_nums.1 h
    have : mtsAny x 16 ps = true := mtsAny_iff.2 ⟨u, hu, mts_of hp h3.1 h3.2.2 (by rw [sp_16]; omega)⟩
    rw [this] at hf; cases hf
  · obtain ⟨⟨u, hu, hh⟩, _⟩ := busy_at hf
    rw [count_one hU.rise ⟨u, hu, hh⟩, count_no]
    intro g hg
    refine not_true fun h => ?_
    have h3 := hld_nums.1 h
    have h4 := hld_nums.1 hh
    obtain ⟨h5, h6⟩ := hH.free g hg
    have : mtsAny g.1 g.2 ps = true := mtsAny_iff.2 ⟨u, hu, mts_of h3.1 h4.1 (by omega) (by omega)⟩
    rw [this] at h6; cases h6

/-- A prefix is inside of a hole just if it is inside of the root, and meets no used one. -/
theorem in_hole {ps H : List (Int × Int)} {a l x k : Int} (hH : HolesAre ps a l H) : (∃ h ∈ H, ins x k h.1 h.2 = true) ↔ (ins x k a l = true ∧ mtsAny x k ps = false) := by
  constructor
  · rintro ⟨h, hh, h1⟩
    obtain ⟨h2, h3⟩ := hH.free h hh
    exact ⟨ins_trans h1 h2, free_in h1 h3⟩
  · rintro ⟨h1, h2⟩
    exact hH.all x k h1 h2
end Go.Proofs.Ytbnkgecblaffeaa
