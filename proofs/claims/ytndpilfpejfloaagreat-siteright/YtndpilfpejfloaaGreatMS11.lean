/- A part of the proof. -/
import Derived.Test.YtndpilfpejfloaaGreatMS10
set_option maxRecDepth 100000
set_option maxHeartbeats 3200000
namespace Go.Proofs.YtndpilfpejfloaaGreat
variable {a y vid l i0 up t ow t' a0 l0 : Int} {b fs gs xs : List Fc} {ls ms : List (Int × Int)} {v u : Vn} {vs us : List (Int × List (Int × Int × Int))} {j i n ln p rn sn k sn' c m q c' : Nat} {rs rs1 : List Rg} {ss ts ss' ss1 : List Sb} {x : (Int × Int × Int) × Int} {ns : List Int} {w : World} {rx sx fx x' : Option Addr} {s : Sb} {e : Fc} {L : List ((Int × Int × Int) × Int)} {ps qs : List Po} {ops : Array Oper} {C : World → Prop} {A : Act} {o : Oper} {rest : List Oper} {ls' : List Le}
open Go.RowKit Go.Shelf
theorem Q0 {b : Int} (hr : fF ls = true) (h : R6 a b ls ms) : ms = delLk (min a b, max a b) ls := by
 obtain ⟨i, hi, he, rfl⟩ := h
 unfold eqLk at he
 simp only [Bool.and_eq_true, decide_eq_true_eq] at he
 have hip : lkAt ls i = (min a b, max a b) := Prod.ext he.1.symm he.2.symm
 have hne : ∀ j, j < ls.length → j ≠ i → ¬ ((lkAt ls j).1 = min a b ∧ (lkAt ls j).2 = max a b) := fun j hj hji e => by
  have e2 : lkAt ls j = lkAt ls i := by rw [hip]; exact Prod.ext e.1 e.2
  rcases Nat.lt_or_gt_of_ne hji with h1 | h1
  ·have h2 := tD hr i j h1 hi
   rw [e2] at h2
   have h3 := FE h2
   rw [h2] at h3
   cases h3
  ·have h2 := tD hr j i h1 hj
   rw [e2] at h2
   have h3 := FE h2
   rw [h2] at h3
   cases h3
 have hat : ∀ j (hj : j < ls.length), ls[j] = lkAt ls j := fun j hj => by
  unfold lkAt
  rw [List.getD_eq_getElem?_getD, List.getElem?_eq_getElem hj]
  rfl
 have hsplit : ls = ls.take i ++ (lkAt ls i :: ls.drop (i + 1)) := by
  rw [← hat i hi, ← List.drop_eq_getElem_cons hi, List.take_append_drop]
 have h1 : (ls.take i).filter (fun q => !(decide (q.1 = min a b) && decide (q.2 = max a b))) = ls.take i := by
  rw [List.filter_eq_self]
  intro q hq
  obtain ⟨j, hj, rfl⟩ := List.getElem_of_mem hq
  rw [List.length_take] at hj
  rw [List.getElem_take, hat j (by omega)]
  have := hne j (by omega) (by omega)
  rw [Bool.not_eq_true', ← Bool.not_eq_true, Bool.and_eq_true, decide_eq_true_eq, decide_eq_true_eq]
  exact this
 have h2 : (ls.drop (i + 1)).filter (fun q => !(decide (q.1 = min a b) && decide (q.2 = max a b))) = ls.drop (i + 1) := by
  rw [List.filter_eq_self]
  intro q hq
  obtain ⟨j, hj, rfl⟩ := List.getElem_of_mem hq
  rw [List.length_drop] at hj
  rw [List.getElem_drop, hat _ (by omega)]
  have := hne (i + 1 + j) (by omega) (by omega)
  rw [Bool.not_eq_true', ← Bool.not_eq_true, Bool.and_eq_true, decide_eq_true_eq, decide_eq_true_eq]
  exact this
 unfold delLk
 show _ = ls.filter (fun q => !(decide (q.1 = min a b) && decide (q.2 = max a b)))
 conv => rhs; rw [hsplit]
 rw [List.filter_append, List.filter_cons_of_neg (by rw [hip]; simp), h1, h2]
theorem yZ (id : Int) (vs : List Vn) : iS id vs ≤ vs.length ∧ (∀ j, j < iS id vs → ¬ id < (vnAt vs j).id) ∧ (iS id vs < vs.length → id < (vnAt vs (iS id vs)).id) := by
 cases h : (List.range vs.length).find? (fun i => decide (id < (vnAt vs i).id)) with
 | none =>
  have e : iS id vs = vs.length := by unfold iS; rw [h]; rfl
  rw [e]
  refine ⟨Nat.le_refl _, fun j hj => ?_, fun h => absurd h (Nat.lt_irrefl _)⟩
  have := List.find?_eq_none.1 h j (by simpa using hj)
  simpa using this
 | some i =>
  obtain ⟨h1, h2, h3⟩ := List.find?_range_eq_some.1 h
  have hi : i < vs.length := by simpa using h2
  have e : iS id vs = i := by unfold iS; rw [h]; rfl
  rw [e]
  exact ⟨by omega, fun j hj => by simpa using h3 j hj, fun _ => by simpa using h1⟩
theorem kL {vs : List Vn} (hj : j ≤ vs.length) : vnAt (vs.take j ++ [v] ++ vs.drop j) i = if i < j then vnAt vs i else if i = j then v else vnAt vs (i - 1) := by
 have hlen : (vs.take j).length = j := by rw [List.length_take]; omega
 unfold vnAt
 simp only [List.getD_eq_getElem?_getD]
 by_cases h1 : i < j
 ·rw [if_pos h1, List.append_assoc, List.getElem?_append_left (by omega), List.getElem?_take_of_lt h1]
 ·rw [if_neg h1]
  by_cases h2 : i = j
  ·rw [if_pos h2, List.append_assoc, List.getElem?_append_right (by omega), hlen, h2, Nat.sub_self]
   rfl
  ·rw [if_neg h2, List.getElem?_append_right (by simp; omega), List.getElem?_drop]
   rw [show j + (i - (List.take j vs ++ [v]).length) = i - 1 by simp; omega]
theorem fH {vs : List Vn} : ¬ aG n vs y < 0 ↔ ∃ i, i < n ∧ (vnAt vs i).id = y := by
 constructor
 ·intro h
  rcases vplace_cases n vs y with ⟨i, hi, he, -⟩ | e
  ·exact ⟨i, hi, he⟩
  ·rw [e] at h
   exact absurd (by decide) h
 ·rintro ⟨i, hi, he⟩ h
  unfold aG at h
  cases hf : (List.range n).find? (fun i => (vnAt vs i).id == y) with
  | none =>
   have := List.find?_eq_none.1 hf i (by simpa using hi)
   simp [he] at this
  | some k =>
   rw [hf] at h
   simp only at h
   omega
theorem O1 {id : Int} (h : dH id 1 65536 = true) : aV (newV id).id (newV id).rn (newV id).rs (newV id).sn (newV id).ss = 0 := by
 unfold aV newV
 rw [h]
 rfl
theorem LA {vs : List Vn} {id : Int} (hvl : vs.length = n) (hll : ls.length = ln) (h : iR n vs ln ls id = 0) : bE (n + 1) (oR id vs) ln ls = 0 := by
 unfold iR at h
 split at h
 ·rename_i h0
  split at h
  ·omega
  ·rename_i hw
   split at h
   ·omega
   ·rename_i hpl
    split at h
    ·omega
    ·rename_i h6
     obtain ⟨g6, g12, gv, gl, ga⟩ := dW h0
     have hw' : dH id 1 65536 = true := by simpa using hw
     have hno : ∀ i, i < n → (vnAt vs i).id ≠ id := fun i hi e => hpl (by
      have := fH.2 ⟨i, hi, e⟩
      omega)
     have hgv := gv
     unfold eC at gv
     rw [Bool.and_eq_true] at gv
     have hrise : ∀ i, i + 1 < n → (vnAt vs i).id < (vnAt vs (i + 1)).id := fun i hi => by
      have h1 := gv.1
      unfold cQ at h1
      have h2 := List.all_eq_true.1 h1 (i + 1) (by rw [hvl]; simpa using hi)
      unfold eH at h2
      simpa using h2
     obtain ⟨hj, hlo, hup⟩ := yZ id vs
     unfold oR
     generalize iS id vs = j at *
     have hlen : (vs.take j ++ [newV id] ++ vs.drop j).length = n + 1 := by simp; omega
     refine wU (by simp; omega) ?_ ?_ ?_
     ·unfold eC
      rw [Bool.and_eq_true]
      constructor
      ·unfold cQ
       rw [List.all_eq_true]
       intro i hi
       have hi' : i < n + 1 := by rw [hlen] at hi; simpa using hi
       cases i with
       | zero => rfl
       | succ i =>
        unfold eH
        rw [Nat.add_sub_cancel, kL hj, kL hj, Bool.or_eq_true, decide_eq_true_eq]
        refine .inr ?_
        by_cases h1 : i + 1 < j
        ·rw [if_pos (by omega), if_pos h1]
         exact hrise i (by omega)
        ·rw [if_neg h1]
         by_cases h2 : i + 1 = j
         ·rw [if_pos (by omega), if_pos h2]
          have h3 := hlo i (by omega)
          have h4 := hno i (by omega)
          show (vnAt vs i).id < id
          omega
         ·rw [if_neg h2, if_neg (by omega)]
          by_cases h3 : i = j
          ·rw [if_pos h3, Nat.add_sub_cancel, h3]
           exact hup (by omega)
          ·rw [if_neg h3, Nat.add_sub_cancel]
           obtain ⟨q, rfl⟩ : ∃ q, i = q + 1 := ⟨i - 1, by omega⟩
           rw [Nat.add_sub_cancel]
           exact hrise q (by omega)
      ·rw [cY (fun i hi => ?_)]
       ·rfl
       rw [kL hj]
       unfold kD
       split
       ·rw [lW hgv i (by omega)]; rfl
       ·split
        ·rw [O1 hw']; rfl
        ·rw [lW hgv (i - 1) (by omega)]; rfl
     ·have hgl := gl
      unfold cU at gl ⊢
      rw [Bool.and_eq_true] at gl ⊢
      refine ⟨gl.1, ?_⟩
      rw [cY (fun k hk => ?_)]
      ·rfl
      have hm : lkAt ls k ∈ ls := FF (by rw [hll]; exact hk)
      obtain ⟨k1, ⟨q1, hq1, hq2⟩, q3, hq3, hq4⟩ := tB hvl hll hgl _ hm
      have up : ∀ q, q < n → ∃ q', q' < n + 1 ∧ (vnAt (vs.take j ++ [newV id] ++ vs.drop j) q').id = (vnAt vs q).id := fun q hq => by
       by_cases h1 : q < j
       ·exact ⟨q, by omega, by rw [kL hj, if_pos h1]⟩
       ·exact ⟨q + 1, by omega, by rw [kL hj, if_neg (by omega), if_neg (by omega), Nat.add_sub_cancel]⟩
      obtain ⟨u1, hu1, e1⟩ := up q1 hq1
      obtain ⟨u3, hu3, e3⟩ := up q3 hq3
      unfold mP
      simp only [Bool.or_eq_false_iff, decide_eq_false_iff_not]
      refine ⟨⟨?_, ?_⟩, ?_⟩
      ·show ¬ (lkAt ls k).2 ≤ (lkAt ls k).1
       omega
      ·show ¬ aG _ _ (lkAt ls k).1 < 0
       exact fH.2 ⟨u1, hu1, e1.trans hq2⟩
      ·show ¬ aG _ _ (lkAt ls k).2 < 0
       exact fH.2 ⟨u3, hu3, e3.trans hq4⟩
     ·unfold sU
      rw [List.all_eq_true]
      intro i hi
      have hi' : i < n + 1 := by simpa using hi
      unfold CJ
      rw [List.all_eq_true]
      intro k hk
      have hk' : k < i := by simpa using hk
      rw [Bool.not_eq_true']
      have hmn : ∀ (qn : Nat) (qs : List Rg), gI (newV id).rn (newV id).rs qn qs = false := fun _ _ => rfl
      unfold wF
      rw [kL hj, kL hj]
      by_cases h1 : i < j
      ·rw [if_pos h1, if_pos (by omega)]
       exact yQ ga (by omega) hk'
      ·rw [if_neg h1]
       by_cases h2 : i = j
       ·rw [if_pos h2, hmn, Bool.and_false]
       ·rw [if_neg h2]
        by_cases h3 : k < j
        ·rw [if_pos h3]
         exact yQ ga (i := i - 1) (by omega) (by omega)
        ·rw [if_neg h3]
         by_cases h4 : k = j
         ·rw [if_pos h4, rL, hmn, Bool.and_false]
         ·rw [if_neg h4]
          exact yQ ga (i := i - 1) (j := k - 1) (by omega) (by omega)
 ·rename_i h0
  exact absurd h h0
theorem zA : fF ls = true ↔ ls.Pairwise fun p q => fO p q = true := by
 have hat : ∀ j (hj : j < ls.length), lkAt ls j = ls[j] := fun j hj => by
  unfold lkAt
  rw [List.getD_eq_getElem?_getD, List.getElem?_eq_getElem hj]
  rfl
 constructor
 ·intro h
  rw [List.pairwise_iff_getElem]
  intro i j hi hj hij
  rw [← hat i hi, ← hat j hj]
  exact tD h j i hij hj
 ·intro h
  refine uH fun i hi => ?_
  cases i with
  | zero => rfl
  | succ i =>
   rw [oS, hat i (by omega), hat (i + 1) hi]
   exact List.pairwise_iff_getElem.1 h i (i + 1) (by omega) hi (by omega)
theorem O2 {vs : List Vn} (h : ∀ p ∈ ms, p ∈ ls) (ha : sU ls n vs = true) : sU ms n vs = true := by
 unfold sU
 rw [List.all_eq_true]
 intro i hi
 unfold CJ
 rw [List.all_eq_true]
 intro j hj
 rw [Bool.not_eq_true']
 have h1 := yQ ha (by simpa using hi) (by simpa using hj)
 unfold wF at h1 ⊢
 by_cases e : bO ms (vnAt vs i).id = bO ms (vnAt vs j).id
 ·rw [TE ((TA ms _ _ e).more h), Bool.and_eq_false_iff] at h1
  rw [Bool.and_eq_false_iff]
  rcases h1 with h1 | h1
  ·exact absurd h1 (by simp)
  ·exact .inr h1
 ·rw [Bool.and_eq_false_iff]
  exact .inl (by simpa using e)
theorem LB {vs : List Vn} {p : Int × Int} (hvl : vs.length = n) (hll : ls.length = ln) (h : bE n vs ln ls = 0) : bE n vs (delLk p ls).length (delLk p ls) = 0 := by
 obtain ⟨g6, g12, gv, gl, ga⟩ := dW h
 have hsub : ∀ q ∈ delLk p ls, q ∈ ls := fun q hq => (List.mem_filter.1 hq).1
 have hlen : (delLk p ls).length ≤ ln := by rw [← hll]; exact List.length_filter_le _ _
 refine wU (by simp; omega) gv ?_ (O2 hsub ga)
 have hgl := gl
 unfold cU at gl ⊢
 rw [Bool.and_eq_true] at gl ⊢
 refine ⟨zA.2 ((zA.1 gl.1).filter _), ?_⟩
 rw [cY (fun k hk => ?_)]
 ·rfl
 obtain ⟨k1, h1, h2⟩ := tB hvl hll hgl _ (hsub _ (FF hk))
 unfold mP
 simp only [Bool.or_eq_false_iff, decide_eq_false_iff_not]
 refine ⟨⟨?_, ?_⟩, ?_⟩
 ·show ¬ (lkAt (delLk p ls) k).2 ≤ (lkAt (delLk p ls) k).1
  omega
 ·exact fH.2 h1
 ·exact fH.2 h2
theorem FG {vs : List Vn} (hvl : vs.length = n) (hi : i < n) (h : bE n vs ln ls = 0) (hid : u.id = (vnAt vs i).id) (hu : aV u.id u.rn u.rs u.sn u.ss = 0) (hr : ∀ k, k < u.rn → ∃ q, q < (vnAt vs i).rn ∧ aL u.rs k = aL (vnAt vs i).rs q) :
  bE n (vs.set i u) ln ls = 0 := by
 obtain ⟨h6, h12, hv, hlk, ha⟩ := dW h
 have hat : ∀ j, vnAt (vs.set i u) j = if i = j then u else vnAt vs j := fun j => cE (by rw [hvl]; exact hi) u j
 have hidj : ∀ j, (vnAt (vs.set i u) j).id = (vnAt vs j).id := fun j => by
  rw [hat]
  split
  ·rename_i e; rw [← e]; exact hid
  ·rfl
 have hmeet : ∀ (qn : Nat) (qs : List Rg), gI u.rn u.rs qn qs = true → gI (vnAt vs i).rn (vnAt vs i).rs qn qs = true := fun qn qs hm => by
  unfold gI at hm ⊢
  obtain ⟨k, hk, h1⟩ := kC hm
  obtain ⟨q, hq, e⟩ := hr k hk
  refine aT hq ?_
  rw [← e]
  exact h1
 refine wU (by simp; omega) ?_ ?_ ?_
 ·have hv' := hv
  unfold eC at hv ⊢
  rw [Bool.and_eq_true] at hv ⊢
  constructor
  ·have e : cQ (vs.set i u) = cQ vs := by
    unfold cQ
    rw [List.length_set]
    refine eI fun j _ => ?_
    unfold eH
    rw [hidj, hidj]
   rw [e]
   exact hv.1
  ·rw [cY (fun j hj => ?_)]
   ·rfl
   rw [hat]
   unfold kD
   split
   ·rw [hu]; rfl
   ·rw [lW hv' j hj]; rfl
 ·have hp : ∀ y, aG n (vs.set i u) y = aG n vs y := fun y => by
   have e : (fun j => (vnAt (vs.set i u) j).id == y) = fun j => (vnAt vs j).id == y := funext fun j => by rw [hidj]
   unfold aG
   rw [e]
  have e : mP n (vs.set i u) ls = mP n vs ls := funext fun j => by
   unfold mP
   rw [hp, hp]
  unfold cU at hlk ⊢
  rw [e]
  exact hlk
 ·unfold sU
  rw [List.all_eq_true]
  intro j hj
  have hj' : j < n := by simpa using hj
  unfold CJ
  rw [List.all_eq_true]
  intro k hk
  have hk' : k < j := by simpa using hk
  rw [Bool.not_eq_true']
  have h1 := yQ ha hj' hk'
  unfold wF at h1 ⊢
  rw [hidj, hidj, Bool.and_eq_false_iff] at *
  rcases h1 with h1 | h1
  ·exact .inl h1
  ·refine .inr ?_
   rw [hat, hat]
   cases e : gI (if i = j then u else vnAt vs j).rn (if i = j then u else vnAt vs j).rs (if i = k then u else vnAt vs k).rn (if i = k then u else vnAt vs k).rs
   ·rfl
   ·exfalso
    by_cases e1 : i = j
    ·rw [if_pos e1, if_neg (by omega)] at e
     have h2 := hmeet _ _ e
     rw [e1, h1] at h2
     cases h2
    ·rw [if_neg e1] at e
     by_cases e2 : i = k
     ·rw [if_pos e2, rL] at e
      have h2 := hmeet _ _ e
      rw [rL, e2, h1] at h2
      cases h2
     ·rw [if_neg e2, h1] at e
      cases e
theorem tE {f : Nat → Int} (h : ∀ i, i + 1 < n → f i < f (i + 1)) : ∀ (i k : Nat), k < i → i < n → f k < f i
 | 0, k, hk, _ => by omega
 | i + 1, k, hk, hi => by
  have h1 := h i hi
  by_cases e : k = i
  ·rw [e]; exact h1
  ·have := tE h i k (by omega) (by omega)
   omega
structure RV (vid : Int) (rn : Nat) (rs : List Rg) (sn : Nat) (ss : List Sb) : Prop where
 r4 : rn ≤ 4
 s6 : sn ≤ 6
 iw : dH vid 1 65536 = true
 rg : ∀ i, i < rn → A2 (aL rs i) = true
 ap : ∀ i k, k < i → i < rn → gF (aL rs k).a (aL rs k).l (aL rs i).a (aL rs i).l = false
 ri : ∀ i k, k < i → i < rn → (aL rs k).a < (aL rs i).a
 sb : ∀ i, i < sn → kP rn rs (sbAt ss i).id (sbAt ss i).a (sbAt ss i).l = true
 n8 : ∀ i, i < sn → (sbAt ss i).n ≤ 8
 n4 : ∀ i, i < sn → ∀ j, j < (sbAt ss i).n → (fcAt (sbAt ss i).fs j).n ≤ 4
 fc : ∀ i, i < sn → dT (sbAt ss i).a (sbAt ss i).l (sbAt ss i).n (sbAt ss i).fs = true
 sa : ∀ i k, k < i → i < sn → gF (sbAt ss k).a (sbAt ss k).l (sbAt ss i).a (sbAt ss i).l = false
 si : ∀ i k, k < i → i < sn → (sbAt ss k).id < (sbAt ss i).id
theorem IX (hrl : rs.length = rn) (hsl : ss.length = sn) (h : aV vid rn rs sn ss = 0) : RV vid rn rs sn ss := by
 obtain ⟨f1, f2, f3, f4⟩ := cA h
 obtain ⟨g1, g2, g3⟩ := kI h
 unfold nG at g2
 unfold mN at g3
 rw [Bool.and_eq_true, cM] at g2 g3
 have e1 : ∀ i, i < rn → A2 (aL rs i) = true ∧ aK i (CH rs (aL rs i).a (aL rs i).l) = false := fun i hi => by
  have := g2.1 i hi
  unfold sN at this
  simpa using this
 have e2 : ∀ i, i < sn → (kP rn rs (sbAt ss i).id (sbAt ss i).a (sbAt ss i).l = true ∧ aK i (wT ss (sbAt ss i).a (sbAt ss i).l) = false) ∧ dT (sbAt ss i).a (sbAt ss i).l (sbAt ss i).n (sbAt ss i).fs = true := fun i hi => by
  have := g3.1 i hi
  unfold lU at this
  simpa using this
 refine ⟨f1, f2, g1, fun i hi => (e1 i hi).1, fun i k hk hi => bZ.1 (e1 i hi).2 k hk, ?_, fun i hi => (e2 i hi).1.1, f3, f4, fun i hi => (e2 i hi).2, fun i k hk hi => bZ.1 (e2 i hi).1.2 k hk, ?_⟩
 ·refine tE (f := fun i => (aL rs i).a) (fun i hi => ?_)
  have h2 := g2.2
  unfold kA at h2
  have h3 := cM.1 h2 (i + 1) (by omega)
  unfold iG at h3
  simpa using h3
 ·refine tE (f := fun i => (sbAt ss i).id) (fun i hi => ?_)
  have h2 := g3.2
  unfold gW at h2
  have h3 := cM.1 h2 (i + 1) (by omega)
  unfold iH at h3
  simpa using h3
theorem RV.chk (h : RV vid rn rs sn ss) (hrl : rs.length = rn) (hsl : ss.length = sn) : aV vid rn rs sn ss = 0 := by
 have hm : cO rn sn ss = false := by
  unfold cO
  have e : aK sn (fun i => dY (sbAt ss i)) = false := bZ.2 (fun k hk => by
   unfold dY
   have e2 : aK (sbAt ss k).n (fun j => decide (4 < (fcAt (sbAt ss k).fs j).n)) = false := bZ.2 (fun j hj => by have := h.n4 k hk j hj; simp; omega)
   have := h.n8 k hk
   rw [e2]
   simp
   omega)
  have h1 := h.r4
  have h2 := h.s6
  rw [e]
  simp
  omega
 have hr : nG rn rs = true := by
  unfold nG
  rw [Bool.and_eq_true, cM]
  refine ⟨fun i hi => ?_, ?_⟩
  ·unfold sN
   have e : aK i (CH rs (aL rs i).a (aL rs i).l) = false := bZ.2 (fun k hk => h.ap i k hk hi)
   rw [h.rg i hi, e]
   rfl
  ·unfold kA
   rw [cM]
   intro i hi
   unfold iG
   cases i with
   | zero => rfl
   | succ i => simpa using h.ri (i + 1) i (by omega) (by omega)
 have hs : mN rn rs sn ss = true := by
  unfold mN
  rw [Bool.and_eq_true, cM]
  refine ⟨fun i hi => ?_, ?_⟩
  ·unfold lU
   have e : aK i (wT ss (sbAt ss i).a (sbAt ss i).l) = false := bZ.2 (fun k hk => h.sa i k hk hi)
   rw [h.sb i hi, e, h.fc i hi]
   rfl
  ·unfold gW
   rw [cM]
   intro i hi
   unfold iH
   cases i with
   | zero => rfl
   | succ i => simpa using h.si (i + 1) i (by omega) (by omega)
 unfold aV
 rw [hm, h.iw, hr, hs]
 rfl
theorem O3 (h : bR fs gs) : allNs fs = allNs gs := by
 have e : fs.map Fc.ns = gs.map Fc.ns := by
  refine List.ext_getElem (by simp [h.1]) (fun i h1 h2 => ?_)
  have hi : i < fs.length := by simpa using h1
  have hg : i < gs.length := by rw [← h.1]; exact hi
  have := (h.2 i hi).2.2
  rw [sO hi, sO hg] at this
  simpa using this
 unfold allNs
 rw [List.flatMap_def, List.flatMap_def]
 exact congrArg List.flatten e
theorem O4 (h : bR fs gs) (hn : fs.length = n) (hf : dT a l n fs = true) : dT a l n gs = true := by
 unfold dT at hf ⊢
 simp only [Bool.and_eq_true] at hf ⊢
 refine ⟨⟨?_, ?_⟩, ?_⟩
 ·rw [cM]
  intro i hi
  have h1 := cM.1 hf.1.1 i hi
  obtain ⟨s1, s2, s3⟩ := h.2 i (by omega)
  unfold eL at h1 ⊢
  rw [← s1, ← s2, ← s3]
  exact h1
 ·unfold dM
  rw [cM, ← h.1]
  intro i hi
  have h2 := hf.1.2
  unfold dM at h2
  have h1 := cM.1 h2 i hi
  unfold eG at h1 ⊢
  rw [← (h.2 i hi).1, ← (h.2 (i - 1) (by omega)).1]
  exact h1
 ·rw [← O3 h]
  exact hf.2
theorem CT {α : Type} (xs : List α) (p : Nat) (hp : p < xs.length) (j : Nat) : (xs.take p ++ xs.drop (p + 1))[j]? = xs[if j < p then j else j + 1]? := by
 have hl : (xs.take p).length = p := by rw [List.length_take]; omega
 by_cases h : j < p
 ·rw [if_pos h, List.getElem?_append_left (by omega), List.getElem?_take_of_lt h]
 ·rw [if_neg h, List.getElem?_append_right (by omega), List.getElem?_drop, hl]
  congr 1
  omega
theorem O5 (hp : p < ts.length) (j : Nat) : sbAt (ts.take p ++ ts.drop (p + 1)) j = sbAt ts (if j < p then j else j + 1) := by
 unfold sbAt
 rw [List.getD_eq_getElem?_getD, CT ts p hp, ← List.getD_eq_getElem?_getD]
theorem iT {ts : List Rg} (hp : p < ts.length) (j : Nat) : aL (ts.take p ++ ts.drop (p + 1)) j = aL ts (if j < p then j else j + 1) := by
 unfold aL
 rw [List.getD_eq_getElem?_getD, CT ts p hp, ← List.getD_eq_getElem?_getD]
theorem tF {ts : List Fc} (hp : p < ts.length) (j : Nat) : fcAt (ts.take p ++ ts.drop (p + 1)) j = fcAt ts (if j < p then j else j + 1) := by
 unfold fcAt
 rw [List.getD_eq_getElem?_getD, CT ts p hp, ← List.getD_eq_getElem?_getD]
theorem wV (h : k < i) : (if k < p then k else k + 1) < (if i < p then i else i + 1) := by
 split <;> split <;> omega
theorem RV.pick (h : RV vid rn rs sn ss) (f : Nat → Nat) (hn : sn' ≤ sn) (hf : ∀ k, k < sn' → f k < sn ∧ E3 (sbAt ss (f k)) (sbAt ss' k)) (hm : ∀ i k, k < i → i < sn' → f k < f i) (hl : ∀ i, i < sn → (sbAt ss i).fs.length = (sbAt ss i).n) : RV vid rn rs sn' ss' where
 r4 := h.r4
 s6 := Nat.le_trans hn h.s6
 iw := h.iw
 rg := h.rg
 ap := h.ap
 ri := h.ri
 sb i hi := by
  obtain ⟨g, s1, s2, s3, s4, s5⟩ := hf i hi
  rw [← s1, ← s2, ← s3]
  exact h.sb _ g
 n8 i hi := by
  obtain ⟨g, s1, s2, s3, s4, s5⟩ := hf i hi
  rw [← s4]
  exact h.n8 _ g
 n4 i hi j hj := by
  obtain ⟨g, s1, s2, s3, s4, s5⟩ := hf i hi
  rw [← s4] at hj
  rw [← (s5.2 j (by rw [hl _ g]; exact hj)).2.1]
  exact h.n4 _ g j hj
 fc i hi := by
  obtain ⟨g, s1, s2, s3, s4, s5⟩ := hf i hi
  rw [← s2, ← s3, ← s4]
  exact O4 s5 (hl _ g) (h.fc _ g)
 sa i k hk hi := by
  obtain ⟨g, s1, s2, s3, s4, s5⟩ := hf i hi
  obtain ⟨g', t1, t2, t3, t4, t5⟩ := hf k (by omega)
  rw [← s2, ← s3, ← t2, ← t3]
  exact h.sa _ _ (hm i k hk hi) g
 si i k hk hi := by
  obtain ⟨g, s1, -⟩ := hf i hi
  obtain ⟨g', t1, -⟩ := hf k (by omega)
  rw [← s1, ← t1]
  exact h.si _ _ (hm i k hk hi) g
theorem RV.same (h : RV vid rn rs sn ss) (hsl : ss.length = sn) (hs : bG ss ss') (hl : ∀ i, i < sn → (sbAt ss i).fs.length = (sbAt ss i).n) : RV vid rn rs sn ss' :=
 h.pick (fun k => k) (Nat.le_refl _) (fun k hk => ⟨hk, hs.2 k (by omega)⟩) (fun _ _ hk _ => hk) hl
theorem RV.unsub (h : RV vid rn rs sn ss) (hsl : ss.length = sn) (hs : bG ss ts) (hi : i < ts.length) (hl : ∀ i, i < sn → (sbAt ss i).fs.length = (sbAt ss i).n) : RV vid rn rs (sn - 1) (ts.take i ++ ts.drop (i + 1)) := by
 have htl : ts.length = sn := by rw [← hs.1, hsl]
 refine h.pick (fun k => if k < i then k else k + 1) (by omega) (fun k hk => ?_) (fun a b hb _ => wV hb) hl
 have hk' : (if k < i then k else k + 1) < sn := by split <;> omega
 refine ⟨hk', ?_⟩
 rw [O5 hi]
 exact hs.2 _ (by rw [hsl]; exact hk')
theorem RV.drop (h : RV vid rn rs sn ss) (hrl : rs.length = rn) (hi : i < rn) (hno : ∀ k, k < sn → iZ (sbAt ss k).a (sbAt ss k).l (aL rs i).a (aL rs i).l = false) : RV vid (rn - 1) (rs.take i ++ rs.drop (i + 1)) sn ss where
 r4 := by have := h.r4; omega
 s6 := h.s6
 iw := h.iw
 rg k hk := by
  rw [iT (by omega)]
  exact h.rg _ (by split <;> omega)
 ap k j hj hk := by
  rw [iT (by omega), iT (by omega)]
  exact h.ap _ _ (wV hj) (by split <;> omega)
 ri k j hj hk := by
  rw [iT (by omega), iT (by omega)]
  exact h.ri _ _ (wV hj) (by split <;> omega)
 sb k hk := by
  have h1 := h.sb k hk
  unfold kP at h1 ⊢
  rw [Bool.and_eq_true] at h1 ⊢
  refine ⟨h1.1, ?_⟩
  obtain ⟨q, hq, hf⟩ := kC h1.2
  unfold S2 at hf
  have hne : q ≠ i := fun e => by rw [e, hno k hk] at hf; cases hf
  by_cases c : q < i
  ·refine aT (k := q) (by omega) ?_
   unfold S2
   rw [iT (by omega), if_pos c]
   exact hf
  ·refine aT (k := q - 1) (by omega) ?_
   unfold S2
   rw [iT (by omega), if_neg (by omega), show q - 1 + 1 = q by omega]
   exact hf
 n8 := h.n8
 n4 := h.n4
 fc := h.fc
 sa := h.sa
 si := h.si
theorem O6 (hp : p ≤ ts.length) (e : Sb) (j : Nat) : sbAt (ts.take p ++ [e] ++ ts.drop p) j = if j < p then sbAt ts j else if j = p then e else sbAt ts (j - 1) := by
 have hlen : (ts.take p).length = p := by rw [List.length_take]; omega
 unfold sbAt
 simp only [List.getD_eq_getElem?_getD]
 by_cases h1 : j < p
 ·rw [if_pos h1, List.append_assoc, List.getElem?_append_left (by omega), List.getElem?_take_of_lt h1]
 ·rw [if_neg h1]
  by_cases h2 : j = p
  ·rw [if_pos h2, List.append_assoc, List.getElem?_append_right (by omega), hlen, h2, Nat.sub_self]
   rfl
  ·rw [if_neg h2, List.getElem?_append_right (by simp; omega), List.getElem?_drop]
   rw [show p + (j - (List.take p ts ++ [e]).length) = j - 1 by simp; omega]
theorem RV.sub {id c m : Int} (h : RV vid rn rs sn ss) (hsl : ss.length = sn) (hp : OB ⟨id, c, m, none, 0, 0, []⟩ ss ss') (h6 : sn ≠ 6) (hB : kP rn rs id c m = true) (hno : ∀ i, i < sn → (sbAt ss i).id ≠ id) (hm : ∀ i, i < sn → gF (sbAt ss i).a (sbAt ss i).l c m = false) : RV vid rn rs (sn + 1) ss' := by
 obtain ⟨p, hp1, hp2, hp3, rfl⟩ := hp
 have hat := O6 hp1 ⟨id, c, m, none, 0, 0, []⟩
 have ev : ∀ (P : Sb → Prop), (∀ i, i < sn → P (sbAt ss i)) → P ⟨id, c, m, none, 0, 0, []⟩ → ∀ i, i < sn + 1 → P (sbAt (ss.take p ++ [⟨id, c, m, none, 0, 0, []⟩] ++ ss.drop p) i) := fun P h1 h2 i hi => by
  rw [hat]
  split
  ·exact h1 i (by omega)
  ·split
   ·exact h2
   ·exact h1 _ (by omega)
 have ev2 : ∀ (P : Sb → Sb → Prop), (∀ i k, k < i → i < sn → P (sbAt ss k) (sbAt ss i)) → (∀ k, k < p → P (sbAt ss k) ⟨id, c, m, none, 0, 0, []⟩) → (∀ i, p ≤ i → i < sn → P ⟨id, c, m, none, 0, 0, []⟩ (sbAt ss i)) →
   ∀ i k, k < i → i < sn + 1 → P (sbAt (ss.take p ++ [⟨id, c, m, none, 0, 0, []⟩] ++ ss.drop p) k) (sbAt (ss.take p ++ [⟨id, c, m, none, 0, 0, []⟩] ++ ss.drop p) i) := fun P h1 h2 h3 i k hk hi => by
  rw [hat, hat]
  by_cases a1 : i < p
  ·rw [if_pos a1, if_pos (by omega)]
   exact h1 i k hk (by omega)
  ·rw [if_neg a1]
   by_cases a2 : i = p
   ·rw [if_pos a2, if_pos (by omega)]
    exact h2 k (by omega)
   ·rw [if_neg a2]
    by_cases a3 : k < p
    ·rw [if_pos a3]
     exact h1 (i - 1) k (by omega) (by omega)
    ·rw [if_neg a3]
     by_cases a4 : k = p
     ·rw [if_pos a4]
      exact h3 (i - 1) (by omega) (by omega)
     ·rw [if_neg a4]
      exact h1 (i - 1) (k - 1) (by omega) (by omega)
 refine ⟨h.r4, by have := h.s6; omega, h.iw, h.rg, h.ap, h.ri, ?_, ?_, ?_, ?_, ?_, ?_⟩
 ·exact ev (fun s => kP rn rs s.id s.a s.l = true) h.sb hB
 ·exact ev (fun s => s.n ≤ 8) h.n8 (Nat.zero_le _)
 ·exact ev (fun s => ∀ j, j < s.n → (fcAt s.fs j).n ≤ 4) h.n4 (fun j hj => absurd hj (Nat.not_lt_zero _))
 ·exact ev (fun s => dT s.a s.l s.n s.fs = true) h.fc rfl
 ·exact ev2 (fun s t => gF s.a s.l t.a t.l = false) h.sa (fun k hk => hm k (by omega)) (fun i _ hi => by rw [fQ]; exact hm i hi)
 ·refine ev2 (fun s t => s.id < t.id) h.si (fun k hk => ?_) (fun i hpi hi => ?_)
  ·have h1 := hp2 k hk
   have h2 := hno k (by omega)
   show (sbAt ss k).id < id
   simp only at h1
   omega
  ·show id < (sbAt ss i).id
   have h1 := hp3 (by omega)
   simp only at h1
   by_cases e : i = p
   ·rw [e]; exact h1
   ·have := h.si i p (by omega) hi
    omega
theorem Q1 (hf : dT a l n fs = true) (hn : fs.length = n) (hj : j < n) : dT a l (n - 1) (fs.take j ++ fs.drop (j + 1)) = true := by
 unfold dT at hf ⊢
 simp only [Bool.and_eq_true] at hf ⊢
 have hr : ∀ i k, k < i → i < n → (fcAt fs k).id < (fcAt fs i).id := by
  refine tE (f := fun i => (fcAt fs i).id) (fun i hi => ?_)
  have h2 := hf.1.2
  unfold dM at h2
  have h3 := cM.1 h2 (i + 1) (by omega)
  unfold eG at h3
  simpa using h3
 refine ⟨⟨?_, ?_⟩, ?_⟩
 ·rw [cM]
  intro i hi
  have h1 := cM.1 hf.1.1 (if i < j then i else i + 1) (by split <;> omega)
  unfold eL at h1 ⊢
  rw [tF (by omega)]
  exact h1
 ·unfold dM
  rw [cM]
  intro i hi
  have hi' : i < n - 1 := by simp at hi; omega
  unfold eG
  cases i with
  | zero => rfl
  | succ i =>
   rw [Nat.add_sub_cancel, tF (by omega), tF (by omega)]
   have := hr _ _ (wV (p := j) (Nat.lt_succ_self i)) (by split <;> omega)
   simpa using this
 ·have h3 := hf.2
  unfold yE at h3 ⊢
  simp only [Bool.not_not, decide_eq_true_eq] at h3 ⊢
  have e : fs = fs.take j ++ fcAt fs j :: fs.drop (j + 1) := by
   have h4 : j < fs.length := by omega
   rw [sO h4, ← List.drop_eq_getElem_cons h4, List.take_append_drop]
  have e1 : allNs fs = allNs (fs.take j) ++ ((fcAt fs j).ns ++ allNs (fs.drop (j + 1))) := by
   have h5 : allNs (fs.take j ++ fcAt fs j :: fs.drop (j + 1)) = allNs (fs.take j) ++ ((fcAt fs j).ns ++ allNs (fs.drop (j + 1))) := by simp [allNs]
   rw [← e] at h5
   exact h5
  have e2 : allNs (fs.take j ++ fs.drop (j + 1)) = allNs (fs.take j) ++ allNs (fs.drop (j + 1)) := by simp [allNs]
  rw [e1] at h3
  rw [e2]
  exact List.Nodup.sublist (List.Sublist.append_left (List.sublist_append_right _ _) _) h3
theorem RV.unface {x : Option Addr} (h : RV vid rn rs sn ss) (hsl : ss.length = sn) (hl : ∀ i, i < sn → (sbAt ss i).fs.length = (sbAt ss i).n) (hi : i < sn) (hj : j < (sbAt ss i).n) (hn : n = ((sbAt ss i).fs.take j ++ (sbAt ss i).fs.drop (j + 1)).length) : RV vid rn rs sn (ss.set i (bK (sbAt ss i) x n c ((sbAt ss i).fs.take j ++ (sbAt ss i).fs.drop (j + 1)))) := by
 have hat : ∀ k, sbAt (ss.set i (bK (sbAt ss i) x n c ((sbAt ss i).fs.take j ++ (sbAt ss i).fs.drop (j + 1)))) k = if i = k then bK (sbAt ss i) x n c ((sbAt ss i).fs.take j ++ (sbAt ss i).fs.drop (j + 1)) else sbAt ss k := fun k => cW (by omega)
 have hn' : n = (sbAt ss i).n - 1 := by
  rw [hn]
  have := hl i hi
  simp
  omega
 have ev : ∀ (P : Sb → Prop), (∀ k, k < sn → P (sbAt ss k)) → P (bK (sbAt ss i) x n c ((sbAt ss i).fs.take j ++ (sbAt ss i).fs.drop (j + 1))) → ∀ k, k < sn → P (sbAt (ss.set i (bK (sbAt ss i) x n c ((sbAt ss i).fs.take j ++ (sbAt ss i).fs.drop (j + 1)))) k) := fun P h1 h2 k hk => by
  rw [hat]
  split
  ·exact h2
  ·exact h1 k hk
 have hid : ∀ k, (sbAt (ss.set i (bK (sbAt ss i) x n c ((sbAt ss i).fs.take j ++ (sbAt ss i).fs.drop (j + 1)))) k).id = (sbAt ss k).id ∧ (sbAt (ss.set i (bK (sbAt ss i) x n c ((sbAt ss i).fs.take j ++ (sbAt ss i).fs.drop (j + 1)))) k).a = (sbAt ss k).a ∧ (sbAt (ss.set i (bK (sbAt ss i) x n c ((sbAt ss i).fs.take j ++ (sbAt ss i).fs.drop (j + 1)))) k).l = (sbAt ss k).l := fun k => by
  rw [hat]
  split
  ·rename_i e; rw [← e]; exact ⟨rfl, rfl, rfl⟩
  ·exact ⟨rfl, rfl, rfl⟩
 refine ⟨h.r4, h.s6, h.iw, h.rg, h.ap, h.ri, ?_, ?_, ?_, ?_, ?_, ?_⟩
 ·exact ev (fun s => kP rn rs s.id s.a s.l = true) h.sb (h.sb i hi)
 ·exact ev (fun s => s.n ≤ 8) h.n8 (by show n ≤ 8; have := h.n8 i hi; omega)
 ·refine ev (fun s => ∀ j, j < s.n → (fcAt s.fs j).n ≤ 4) h.n4 (fun k hk => ?_)
  have hk' : k < n := hk
  show (fcAt ((sbAt ss i).fs.take j ++ (sbAt ss i).fs.drop (j + 1)) k).n ≤ 4
  rw [tF (by rw [hl i hi]; exact hj)]
  exact h.n4 i hi _ (by split <;> omega)
 ·refine ev (fun s => dT s.a s.l s.n s.fs = true) h.fc ?_
  show dT (sbAt ss i).a (sbAt ss i).l n _ = true
  rw [hn']
  exact Q1 (h.fc i hi) (hl i hi) hj
 ·intro a b hb ha
  rw [(hid a).2.1, (hid a).2.2, (hid b).2.1, (hid b).2.2]
  exact h.sa a b hb ha
 ·intro a b hb ha
  rw [(hid a).1, (hid b).1]
  exact h.si a b hb ha
def wW (vid : Int) (rn : Nat) (rs : List Rg) (sn : Nat) (ss : List Sb) (sub id : Int) (E y i : Int) (rs' : List Rg) (ss' : List Sb) : Prop := nA vid rn rs sn ss sub id E y ∧ (E ≠ 0 → i = 0 ∧ rs' = [] ∧ ss' = []) ∧ (E = 0 → i = vid ∧ rs' = rs ∧ ∃ ts p x n c fx gs, qL sn ss sub p ∧ p < ts.length ∧ bG ss ts ∧ A8 ⟨id, fx, 1, 1, [y]⟩ (sbAt ts p).fs gs ∧ n = gs.length ∧ ss' = ts.set p (bK (sbAt ts p) x n c gs))
def wX (vid : Int) (rn : Nat) (rs : List Rg) (sn : Nat) (ss : List Sb) (sub id : Int) (E y i : Int) (rs' : List Rg) (ss' : List Sb) : Prop := vN vid rn rs sn ss sub id E y ∧ (E ≠ 0 → i = 0 ∧ rs' = [] ∧ ss' = []) ∧ (E = 0 → i = vid ∧ rs' = rs ∧ ∃ ts p q x c ns, gY sn ss sub id p q ∧ p < ts.length ∧ q < (sbAt ts p).fs.length ∧ bG ss ts ∧ A9 y (fcAt (sbAt ts p).fs q).ns ns ∧ ss' = ts.set p (bK (sbAt ts p) (sbAt ts p).x (sbAt ts p).n (sbAt ts p).c ((sbAt ts p).fs.set q (withA (fcAt (sbAt ts p).fs q) x ns.length c ns))))
theorem BD {rs : List Sb} (h : k < rs.length) : rs[k]? = some (sbAt rs k) := by
 unfold sbAt
 rw [List.getD_eq_getElem?_getD, List.getElem?_eq_getElem h]
 rfl
theorem H1 (fs : List Fc) (k : Nat) (hk : k < fs.length) : allNs (fs.take (k + 1)) = allNs (fs.take k) ++ (fcAt fs k).ns := by
 have h : fs[k]? = some (fcAt fs k) := by
  unfold fcAt
  rw [List.getD_eq_getElem?_getD, List.getElem?_eq_getElem hk]
  rfl
 rw [sZ h]
 simp [allNs]
theorem uO (h : k < ns.length) : ns[k]? = some (bA ns k) := by
 unfold bA
 rw [List.getD_eq_getElem?_getD, List.getElem?_eq_getElem h]
 rfl
theorem IY {α : Type} (xs : List α) (p : Nat) (hp : p ≤ xs.length) (e : α) (j : Nat) : (xs.take p ++ [e] ++ xs.drop p)[j]? = if j < p then xs[j]? else if j = p then some e else xs[j - 1]? := by
 have hl : (xs.take p).length = p := by rw [List.length_take]; omega
 by_cases h1 : j < p
 ·rw [if_pos h1, List.append_assoc, List.getElem?_append_left (by omega), List.getElem?_take, if_pos h1]
 ·rw [if_neg h1]
  by_cases h2 : j = p
  ·subst h2
   rw [if_pos rfl, List.append_assoc, List.getElem?_append_right (by omega), hl, Nat.sub_self]
   rfl
  ·rw [if_neg h2, List.getElem?_append_right (by simp; omega), List.length_append, hl, List.getElem?_drop]
   congr 1
   simp
   omega
theorem oT (h : dM fs = true) : ∀ (i j : Nat), i < j → j < fs.length → (fcAt fs i).id < (fcAt fs j).id
 | i, 0, hij, _ => by omega
 | i, j + 1, hij, hj => by
  have h1 : eG fs (j + 1) = true := by
   unfold dM at h
   exact List.all_eq_true.1 h (j + 1) (List.mem_range.2 hj)
  unfold eG at h1
  simp only [Nat.add_sub_cancel, Bool.or_eq_true, decide_eq_true_eq, beq_iff_eq] at h1
  have h2 : (fcAt fs j).id < (fcAt fs (j + 1)).id := by
   rcases h1 with h1 | h1
   ·omega
   ·exact h1
  by_cases e : i < j
  ·have := oT h i j e (by omega)
   omega
  ·obtain rfl : i = j := by omega
   exact h2
theorem lZ {ts : List Fc} (hp : p ≤ ts.length) (e : Fc) (j : Nat) : fcAt (ts.take p ++ [e] ++ ts.drop p) j = if j < p then fcAt ts j else if j = p then e else fcAt ts (j - 1) := by
 unfold fcAt
 rw [List.getD_eq_getElem?_getD, IY ts p hp]
 split
 ·rw [List.getD_eq_getElem?_getD]
 ·split
  ·rfl
  ·rw [List.getD_eq_getElem?_getD]
theorem zB {ts : List Int} (hp : p ≤ ts.length) (e : Int) (j : Nat) : bA (ts.take p ++ [e] ++ ts.drop p) j = if j < p then bA ts j else if j = p then e else bA ts (j - 1) := by
 unfold bA
 rw [List.getD_eq_getElem?_getD, IY ts p hp]
 split
 ·rw [List.getD_eq_getElem?_getD]
 ·split
  ·rfl
  ·rw [List.getD_eq_getElem?_getD]
theorem bR.symm {a : List Fc} (h : bR a b) : bR b a := ⟨h.1.symm, fun i hi => by
 obtain ⟨h1, h2, h3⟩ := h.2 i (by rw [h.1]; exact hi)
 exact ⟨h1.symm, h2.symm, h3.symm⟩⟩
theorem Q2 {α : Type} (xs : List α) (p : Nat) (hp : p < xs.length) (j : Nat) : (xs.take p ++ xs.drop (p + 1))[j]? = if j < p then xs[j]? else xs[j + 1]? := by
 have hl : (xs.take p).length = p := by rw [List.length_take]; omega
 by_cases h1 : j < p
 ·rw [if_pos h1, List.getElem?_append_left (by omega), List.getElem?_take, if_pos h1]
 ·rw [if_neg h1, List.getElem?_append_right (by omega), hl, List.getElem?_drop]
  congr 1
  omega
theorem FH {ts : List Fc} (hp : p < ts.length) (j : Nat) : fcAt (ts.take p ++ ts.drop (p + 1)) j = if j < p then fcAt ts j else fcAt ts (j + 1) := by
 unfold fcAt
 rw [List.getD_eq_getElem?_getD, Q2 ts p hp]
 split <;> rw [List.getD_eq_getElem?_getD]
theorem bR.del {a : List Fc} (h : bR a b) (hp : p < a.length) : bR (a.take p ++ a.drop (p + 1)) (b.take p ++ b.drop (p + 1)) := by
 have hpb : p < b.length := by rw [← h.1]; exact hp
 refine ⟨by simp [h.1], fun j hj => ?_⟩
 rw [FH hp, FH hpb]
 have hj' : j < a.length - 1 := by simp at hj; omega
 split
 ·exact h.2 j (by omega)
 ·exact h.2 (j + 1) (by omega)
def bV (ss : List Sb) : List Int := ss.flatMap fun s => allNs s.fs
theorem H2 (ss : List Sb) (k : Nat) (hk : k < ss.length) : bV (ss.take (k + 1)) = bV (ss.take k) ++ allNs (sbAt ss k).fs := by
 rw [sZ (BD hk)]
 simp [bV]
theorem Q3 (vid : Int) (rx : Option Addr) (rn rc : Nat) (sx : Option Addr) (sn sc : Nat) (ss : List Sb) (a : Int) (w : World) (hp : SS w sx sn ss) (hsn : sn ≤ 64) (hm : ∀ i, i < sn → (sbAt ss i).n ≤ 64) (hm2 : ∀ i, i < sn → ∀ j, j < (sbAt ss i).n → (fcAt (sbAt ss i).fs j).n ≤ 64) :
  Calls Tryz.prog 9 #[.agg #[.int .i64 vid, .slice rx rn rc, .slice sx sn sc], .int .i64 a] w fun e w' => e = .returned (.int .i64 ((bV ss).count a : Nat)) ∧ Below w.heap.size w w' := by
 have hsl : Hid (ss.length = sn) := hp.len
 go_enter Tryz.func9, Tryz.ntmps9
 go_upto_region 1 with fail
 obtain ⟨w0, hw0⟩ : ∃ w0, w0 = w.alloc (cZ vid (.slice rx rn rc) (.slice sx sn sc)) := ⟨_, rfl⟩
 rw [← hw0]
 have hB0 : Below w.heap.size w w0 := by rw [hw0]; exact bl1 w _
 have hb0 : w0.heap[w.heap.size]? = some (cZ vid (.slice rx rn rc) (.slice sx sn sc)) := by rw [hw0]; exact aC _ rfl
 clear hw0
 have b2 := aU hb0 2 rfl
 have hp0 := hp.later hB0
 go_wp2
 go_loopw [5, 6] (fun d i wr => ∃ (k t : Nat), d = .int .i64 t ∧ i = .int .i64 k ∧ k ≤ sn ∧ t ≤ 5000 * k ∧ wr = w0 ∧ Hid (t = (bV (ss.take k)).count a)) (fun _ i _ => sn - (intOf i).toNat)
 case atStart => exact ⟨0, 0, rfl, rfl, by omega, by omega, rfl, by unfold Hid; simp [bV]⟩
 case round =>
  obtain ⟨k, t, rfl, rfl, hkn, htk, rfl, ht⟩ := hrel
  by_cases hlt : k < sn
  ·obtain ⟨b, o, rfl, c0, c1, c2, c3⟩ := hp0.cells k hlt
   have hF := (hp0.faces k hlt).2.2
   have hlth : Hid (k < sn) := hlt
   have hmk := hm k hlt
   have hmk2 := hm2 k hlt
   have hk0 : (0 : Int) ≤ k := by omega
   have hkn2 : (k : Int) < sn := by omega
   clear hlt c0 c1 c2
   go_wp2
   go_loopw [5, 7] (fun d i wq => ∃ (j t' : Nat), d = .int .i64 t' ∧ i = .int .i64 j ∧ j ≤ (sbAt ss k).n ∧ t' ≤ 5000 * k + 70 * j ∧ wq = wr ∧ Hid (t' = t + (allNs ((sbAt ss k).fs.take j)).count a)) (fun _ i _ => (sbAt ss k).n - (intOf i).toNat)
   case atStart => exact ⟨0, t, rfl, rfl, by omega, by omega, by trivial, by unfold Hid; simp [allNs]⟩
   case round =>
    obtain ⟨j, t', rfl, rfl, hjn, htj, rfl, ht'⟩ := hrel
    by_cases hltj : j < (sbAt ss k).n
    ·obtain ⟨b2', o2, hx2, q0, q1⟩ := hF.cells j hltj
     obtain ⟨hac, ham, hAS⟩ := hF.addrs j hltj
     have c3' : wr.cell? ⟨b, o + k * 4 + 3, none⟩ = some (.slice (some ⟨b2', o2, none⟩) (sbAt ss k).n (sbAt ss k).c) := by rw [← hx2]; exact c3
     have hc3 : Hid (wr.cell? ⟨b, o + k * 4 + 3, none⟩ = some (.slice (sbAt ss k).x (sbAt ss k).n (sbAt ss k).c)) := c3
     have hltjh : Hid (j < (sbAt ss k).n) := hltj
     have hmj := hmk2 j hltj
     have hj0 : (0 : Int) ≤ j := by omega
     have hjn2 : (j : Int) < (sbAt ss k).n := by omega
     clear hltj hx2 c3 q0
     go_wp2
     go_loopw [5, 8] (fun d i wq => ∃ (m t2 : Nat), d = .int .i64 t2 ∧ i = .int .i64 m ∧ m ≤ (fcAt (sbAt ss k).fs j).n ∧ t2 ≤ 5000 * k + 70 * j + m ∧ wq = wr ∧ Hid (t2 = t' + ((fcAt (sbAt ss k).fs j).ns.take m).count a)) (fun _ i _ => (fcAt (sbAt ss k).fs j).n - (intOf i).toNat)
     case atStart => exact ⟨0, t', rfl, rfl, by omega, by omega, by trivial, by unfold Hid; simp⟩
     case round =>
      obtain ⟨m, t2, rfl, rfl, hmn, htm, rfl, ht2⟩ := hrel
      by_cases hltm : m < (fcAt (sbAt ss k).fs j).n
      ·obtain ⟨b3, o3, hx3, r0⟩ := hAS.cells m hltm
       have q1' : wr.cell? ⟨b2', o2 + j * 2 + 1, none⟩ = some (.slice (some ⟨b3, o3, none⟩) (fcAt (sbAt ss k).fs j).n (fcAt (sbAt ss k).fs j).c) := by rw [← hx3]; exact q1
       have hq1 : Hid (wr.cell? ⟨b2', o2 + j * 2 + 1, none⟩ = some (.slice (fcAt (sbAt ss k).fs j).x (fcAt (sbAt ss k).fs j).n (fcAt (sbAt ss k).fs j).c)) := q1
       have hltmh : Hid (m < (fcAt (sbAt ss k).fs j).n) := hltm
       have hm0 : (0 : Int) ≤ m := by omega
       have hmn2 : (m : Int) < (fcAt (sbAt ss k).fs j).n := by omega
       have hnext : Hid (((fcAt (sbAt ss k).fs j).ns.take (m + 1)).count a = ((fcAt (sbAt ss k).fs j).ns.take m).count a + if bA (fcAt (sbAt ss k).fs j).ns m = a then 1 else 0) := by
        unfold Hid
        rw [sZ (uO (by rw [hAS.len]; exact hltm)), List.count_append, List.count_singleton]
        simp
       clear q1 hltm hx3
       by_cases he : bA (fcAt (sbAt ss k).fs j).ns m = a
       ·go_wp2
        go_roundw
        case rel => exact ⟨m + 1, t2 + 1, by go_num, by go_num, hltmh.out, by omega, by trivial, by unfold Hid; rw [hnext.out, if_pos he, ht2.out]; omega⟩
        case measure => have := hltmh.out; simp [intOf]; omega
       ·have he2 : (bA (fcAt (sbAt ss k).fs j).ns m == a) = false := by simp [he]
        go_wp2
        go_roundw
        case rel => exact ⟨m + 1, t2, by trivial, by go_num, hltmh.out, by omega, by trivial, by unfold Hid; rw [hnext.out, if_neg he, ht2.out]; omega⟩
        case measure => have := hltmh.out; simp [intOf]; omega
      ·have hnm : ¬ (m : Int) < (fcAt (sbAt ss k).fs j).n := by omega
       have hend : Hid (t2 = t + (allNs ((sbAt ss k).fs.take (j + 1))).count a) := by
        have e3 : (fcAt (sbAt ss k).fs j).ns.take m = (fcAt (sbAt ss k).fs j).ns := List.take_of_length_le (by rw [hAS.len]; omega)
        unfold Hid
        rw [ht2.out, ht'.out, H1 _ _ (by rw [hF.len]; exact hltjh.out), List.count_append, e3]
        omega
       go_wp2
       go_roundw
       case rel => exact ⟨j + 1, t2, by trivial, by go_num, hltjh.out, by omega, by trivial, hend⟩
       case measure => have := hltjh.out; simp [intOf]; omega
    ·have hnj : ¬ (j : Int) < (sbAt ss k).n := by omega
     have hend : Hid (t' = (bV (ss.take (k + 1))).count a) := by
      have e3 : (sbAt ss k).fs.take j = (sbAt ss k).fs := List.take_of_length_le (by rw [hF.len]; omega)
      unfold Hid
      rw [ht'.out, ht.out, H2 _ _ (by rw [hsl.out]; exact hlth.out), List.count_append, e3]
     go_wp2
     go_roundw
     case rel => exact ⟨k + 1, t', by trivial, by go_num, hlth.out, by omega, by trivial, hend⟩
     case measure => have := hlth.out; simp [intOf]; omega
  ·have hnk : ¬ (k : Int) < sn := by omega
   have hend : Hid (t = (bV ss).count a) := by
    unfold Hid
    rw [ht.out, List.take_of_length_le (by rw [hsl.out]; omega)]
   go_wp2
   go_ret
   exact ⟨by rw [← hend.out]; rfl, hB0⟩
structure O7 (sn : Nat) (ss : List Sb) : Prop where
 subs : ss.length = sn
 fcs : ∀ i, i < sn → (sbAt ss i).fs.length = (sbAt ss i).n
 ads : ∀ i, i < sn → ∀ j, j < (sbAt ss i).n → (fcAt (sbAt ss i).fs j).ns.length = (fcAt (sbAt ss i).fs j).n
theorem Vp.lens {rc sc : Nat} (h : Vp w rx rn rc rs sx sn sc ss) : O7 sn ss :=
 ⟨h.subs.len, fun i hi => (h.subs.faces i hi).2.2.len, fun i hi j hj => ((h.subs.faces i hi).2.2.addrs j hj).2.2.len⟩
theorem pU (h : aV vid rn rs sn ss = 0) (i : Nat) (hi : i < sn) : kP rn rs (sbAt ss i).id (sbAt ss i).a (sbAt ss i).l = true ∧ (∀ j, j < i → wT ss (sbAt ss i).a (sbAt ss i).l j = false) ∧ dT (sbAt ss i).a (sbAt ss i).l (sbAt ss i).n (sbAt ss i).fs = true := by
 obtain ⟨-, -, hs⟩ := kI h
 unfold mN at hs
 rw [Bool.and_eq_true, List.all_eq_true] at hs
 have h1 := hs.1 i (by simpa using hi)
 unfold lU at h1
 simp only [Bool.and_eq_true, Bool.not_eq_true'] at h1
 exact ⟨h1.1.1, bZ.1 h1.1.2, h1.2⟩
theorem gZ (h : dT a l n fs = true) : (∀ i, i < n → eL a l fs i = true) ∧ dM fs = true ∧ (allNs fs).Nodup := by
 unfold dT yE at h
 simp only [Bool.and_eq_true, List.all_eq_true, Bool.not_not, decide_eq_true_eq] at h
 exact ⟨fun i hi => h.1.1 i (List.mem_range.2 hi), h.1.2, h.2⟩
theorem CU (h1 : ∀ i, i < n → eL a l fs i = true) (h2 : dM fs = true) (h3 : (allNs fs).Nodup) : dT a l n fs = true := by
 unfold dT yE
 simp only [Bool.and_eq_true, List.all_eq_true, Bool.not_not, decide_eq_true_eq]
 exact ⟨⟨fun i hi => h1 i (List.mem_range.1 hi), h2⟩, h3⟩
theorem FI (h : eL a l fs j = true) : ∀ m, m < (fcAt fs j).n → oJ a l (bA (fcAt fs j).ns m) = true := fun m hm => by
 unfold eL G5 at h
 simp only [Bool.and_eq_true, Bool.not_eq_true'] at h
 have := bZ.1 h.2.2 m hm
 simpa using this
theorem BE (h : y ∈ allNs fs) : ∃ j, j < fs.length ∧ y ∈ (fcAt fs j).ns := by
 unfold allNs at h
 obtain ⟨f, hf, hy⟩ := List.mem_flatMap.1 h
 obtain ⟨j, hj, rfl⟩ := List.getElem_of_mem hf
 refine ⟨j, hj, ?_⟩
 have e : fcAt fs j = fs[j] := by unfold fcAt; rw [List.getD_eq_getElem?_getD, List.getElem?_eq_getElem hj]; rfl
 rw [e]
 exact hy
theorem O8 (h : y ∈ ns) : ∃ m, m < ns.length ∧ bA ns m = y := by
 obtain ⟨m, hm, rfl⟩ := List.getElem_of_mem h
 exact ⟨m, hm, by unfold bA; rw [List.getD_eq_getElem?_getD, List.getElem?_eq_getElem hm]; rfl⟩
theorem O9 (h : aV vid rn rs sn ss = 0) (hl : O7 sn ss) (hi : i < sn) (hL : mY (sbAt ss i) y) : y ∉ bV ss := fun hy => by
 unfold bV at hy
 obtain ⟨s, hs, hy⟩ := List.mem_flatMap.1 hy
 obtain ⟨q, hq, rfl⟩ := List.getElem_of_mem hs
 have e : sbAt ss q = ss[q] := by unfold sbAt; rw [List.getD_eq_getElem?_getD, List.getElem?_eq_getElem hq]; rfl
 rw [← e] at hy
 rw [hl.subs] at hq
 by_cases hqi : q = i
 ·subst hqi; exact hL.free hy
 ·obtain ⟨j, hj, hyj⟩ := BE hy
  rw [hl.fcs q hq] at hj
  obtain ⟨m, hm, hym⟩ := O8 hyj
  rw [hl.ads q hq j hj] at hm
  have hu := FI ((gZ (pU h q hq).2.2).1 j hj) m hm
  rw [hym] at hu
  have hu2 := hL.use
  unfold oJ at hu hu2
  simp only [Bool.and_eq_true, decide_eq_true_eq] at hu hu2
  have hr1 := (oO h q hq).1
  have hr2 := (oO h i hi).1
  have hm1 := qQ hr1 hr2 (by omega) (by omega)
  rcases Nat.lt_or_gt_of_ne hqi with hlt | hlt
  ·have := (pU h i hi).2.1 q hlt
   unfold wT at this
   rw [hm1] at this
   cases this
  ·have := (pU h q hq).2.1 i hlt
   unfold wT at this
   rw [fQ, hm1] at this
   cases this
theorem LD (hi : i < ts.length) : ts.set i s = ts.take i ++ s :: ts.drop (i + 1) ∧ ts = ts.take i ++ sbAt ts i :: ts.drop (i + 1) := by
 refine ⟨List.set_eq_take_append_cons_drop.trans (if_pos hi), ?_⟩
 have e : sbAt ts i = ts[i] := by unfold sbAt; rw [List.getD_eq_getElem?_getD, List.getElem?_eq_getElem hi]; rfl
 rw [e, List.getElem_cons_drop, List.take_append_drop]
theorem BF (hi : i < ts.length) : (bV (ts.set i s)).count a + (allNs (sbAt ts i).fs).count a = (bV ts).count a + (allNs s.fs).count a := by
 obtain ⟨h1, h2⟩ := LD (s := s) hi
 have e1 : (bV (ts.set i s)).count a = (bV (ts.take i)).count a + ((allNs s.fs).count a + (bV (ts.drop (i + 1))).count a) := by rw [h1]; simp [bV, List.count_append]
 have e2 : (bV ts).count a = (bV (ts.take i)).count a + ((allNs (sbAt ts i).fs).count a + (bV (ts.drop (i + 1))).count a) := by
  conv => lhs; rw [h2]
  simp [bV, List.count_append]
 omega
theorem bR.nss (h : bR fs gs) : allNs fs = allNs gs := by
 have e : fs.map Fc.ns = gs.map Fc.ns := by
  refine List.ext_getElem (by simp [h.1]) (fun i h1 h2 => ?_)
  have hi : i < fs.length := by simpa using h1
  have hg : i < gs.length := by simpa using h2
  have h3 := (h.2 i hi).2.2
  unfold fcAt at h3
  rw [List.getD_eq_getElem?_getD, List.getElem?_eq_getElem hi, List.getD_eq_getElem?_getD, List.getElem?_eq_getElem hg] at h3
  simpa using h3
 unfold allNs
 rw [List.flatMap_def, List.flatMap_def, e]
theorem bG.ads (h : bG ss ts) : bV ss = bV ts := by
 have e : ss.map (fun s => allNs s.fs) = ts.map (fun s => allNs s.fs) := by
  refine List.ext_getElem (by simp [h.1]) (fun i h1 h2 => ?_)
  have hi : i < ss.length := by simpa using h1
  have hg : i < ts.length := by simpa using h2
  have h3 := (h.2 i hi).2.2.2.2.nss
  unfold sbAt at h3
  rw [List.getD_eq_getElem?_getD, List.getElem?_eq_getElem hi, List.getD_eq_getElem?_getD, List.getElem?_eq_getElem hg] at h3
  simpa using h3
 unfold bV
 rw [List.flatMap_def, List.flatMap_def, e]
theorem FJ (he : e.ns = [y]) : (allNs (fs.take p ++ [e] ++ fs.drop p)).Perm (y :: allNs fs) := by
 have e1 : allNs (fs.take p ++ [e] ++ fs.drop p) = allNs (fs.take p) ++ y :: allNs (fs.drop p) := by simp [allNs, he]
 have e2 : allNs fs = allNs (fs.take p) ++ allNs (fs.drop p) := by
  have h : allNs (fs.take p ++ fs.drop p) = allNs (fs.take p) ++ allNs (fs.drop p) := by simp only [allNs, List.flatMap_append]
  rw [List.take_append_drop] at h
  exact h
 rw [e1, e2]
 exact List.perm_middle
theorem BG {x : Option Addr} (hq : q < fs.length) (h : A9 y (fcAt fs q).ns ns) : (allNs (fs.set q (withA (fcAt fs q) x n c ns))).Perm (y :: allNs fs) := by
 obtain ⟨p, -, -, -, rfl⟩ := h
 have hs : fs.set q (withA (fcAt fs q) x n c ((fcAt fs q).ns.take p ++ [y] ++ (fcAt fs q).ns.drop p)) = fs.take q ++ withA (fcAt fs q) x n c ((fcAt fs q).ns.take p ++ [y] ++ (fcAt fs q).ns.drop p) :: fs.drop (q + 1) := List.set_eq_take_append_cons_drop.trans (if_pos hq)
 have h2 : fs = fs.take q ++ fcAt fs q :: fs.drop (q + 1) := by
  have e : fcAt fs q = fs[q] := by unfold fcAt; rw [List.getD_eq_getElem?_getD, List.getElem?_eq_getElem hq]; rfl
  rw [e, List.getElem_cons_drop, List.take_append_drop]
 have e1 : allNs (fs.set q (withA (fcAt fs q) x n c ((fcAt fs q).ns.take p ++ [y] ++ (fcAt fs q).ns.drop p))) = (allNs (fs.take q) ++ (fcAt fs q).ns.take p) ++ y :: ((fcAt fs q).ns.drop p ++ allNs (fs.drop (q + 1))) := by
  rw [hs]
  simp [allNs, withA]
 have e2 : allNs fs = (allNs (fs.take q) ++ (fcAt fs q).ns.take p) ++ ((fcAt fs q).ns.drop p ++ allNs (fs.drop (q + 1))) := by
  conv => lhs; rw [h2]
  have e4 : allNs (fs.take q ++ fcAt fs q :: fs.drop (q + 1)) = allNs (fs.take q) ++ ((fcAt fs q).ns ++ allNs (fs.drop (q + 1))) := by simp [allNs]
  rw [e4, List.append_assoc, ← List.append_assoc (List.take p _), List.take_append_drop]
 rw [e1, e2]
 exact List.perm_middle
theorem H3 (h : E2 (fcAt fs i) (fcAt gs i)) : eL a l fs i = eL a l gs i := by
 unfold eL
 rw [h.1, h.2.1, h.2.2]
theorem zC (h : ∀ j, j + 1 < fs.length → (fcAt fs j).id < (fcAt fs (j + 1)).id) : dM fs = true := by
 refine A1 (fun j hj => ?_)
 unfold eG
 rcases j with _ | j
 ·rfl
 ·simp only [Nat.add_sub_cancel, Bool.or_eq_true, decide_eq_true_eq]
  exact .inr (h j hj)
theorem BH (h : bR fs gs) (hn : fs.length = n) (hf : dT a l n fs = true) : dT a l n gs = true := by
 obtain ⟨h1, h2, h3⟩ := gZ hf
 refine CU (fun i hi => ?_) (zC (fun j hj => ?_)) (by rw [← h.nss]; exact h3)
 ·rw [← H3 (h.2 i (by omega))]; exact h1 i hi
 ·have hl := h.1
  rw [← (h.2 j (by omega)).1, ← (h.2 (j + 1) (by omega)).1]
  exact oT h2 j (j + 1) (by omega) (by omega)
theorem PA {id : Int} (hf : dT a l n fs = true) (hn : fs.length = n) (hp : A8 ⟨id, fx, 1, 1, [y]⟩ fs gs) (hid : dH id 1 65536 = true) (hno : ∀ j, j < n → (fcAt fs j).id ≠ id) (hu : oJ a l y = true) (hy : y ∉ allNs fs) : dT a l gs.length gs = true := by
 obtain ⟨h1, h2, h3⟩ := gZ hf
 obtain ⟨p, hp1, hp2, hp3, rfl⟩ := hp
 have hl : (fs.take p ++ [(⟨id, fx, 1, 1, [y]⟩ : Fc)] ++ fs.drop p).length = fs.length + 1 := by simp; omega
 refine CU (fun i hi => ?_) (zC (fun j hj => ?_)) ?_
 ·rw [hl] at hi
  have hat : ∀ f : Fc, fcAt (fs.take p ++ [(⟨id, fx, 1, 1, [y]⟩ : Fc)] ++ fs.drop p) i = f → (dH f.id 1 65536 && decide (0 < f.n) && G5 a l f.n f.ns) = true → eL a l (fs.take p ++ [(⟨id, fx, 1, 1, [y]⟩ : Fc)] ++ fs.drop p) i = true := fun f e h => by unfold eL; rw [e]; exact h
  rw [lZ hp1] at hat
  by_cases c1 : i < p
  ·exact hat (fcAt fs i) (if_pos c1) (h1 i (by omega))
  ·by_cases c2 : i = p
   ·refine hat ⟨id, fx, 1, 1, [y]⟩ (by rw [if_neg c1, if_pos c2]) ?_
    have hr : G5 a l 1 [y] = true := by
     unfold G5
     have h5 : fX [y] = true := by rfl
     rw [h5, Bool.true_and, Bool.not_eq_true']
     refine bZ.2 (fun m hm => ?_)
     obtain rfl : m = 0 := by omega
     simpa [bA] using hu
    simp [hid, hr]
   ·exact hat (fcAt fs (i - 1)) (by rw [if_neg c1, if_neg c2]) (h1 (i - 1) (by omega))
 ·rw [hl] at hj
  rw [lZ hp1, lZ hp1]
  by_cases c1 : j + 1 < p
  ·rw [if_pos (by omega), if_pos c1]
   exact oT h2 j (j + 1) (by omega) (by omega)
  ·by_cases c2 : j + 1 = p
   ·rw [if_pos (by omega), if_neg c1, if_pos c2]
    have h5 := hp2 j (by omega)
    have h6 := hno j (by omega)
    simp only at h5 ⊢
    omega
   ·by_cases c3 : j = p
    ·rw [if_neg (by omega), if_pos c3, if_neg c1, if_neg c2, Nat.add_sub_cancel, c3]
     exact hp3 (by omega)
    ·rw [if_neg (by omega), if_neg c3, if_neg c1, if_neg c2, Nat.add_sub_cancel]
     exact oT h2 (j - 1) j (by omega) (by omega)
 ·exact (FJ rfl).nodup_iff.2 (List.nodup_cons.2 ⟨hy, h3⟩)
theorem PB (h : ∀ j, j + 1 < ns.length → bA ns j < bA ns (j + 1)) : fX ns = true := by
 unfold fX
 rw [List.all_eq_true]
 intro j hj
 have hj' := List.mem_range.1 hj
 unfold jK
 rcases j with _ | j
 ·rfl
 ·simp only [Nat.add_sub_cancel, Bool.or_eq_true, decide_eq_true_eq]
  exact .inr (h j hj')
theorem LE {x : Option Addr} (hf : dT a l n fs = true) (hn : fs.length = n) (hq : q < n) (hqn : (fcAt fs q).ns.length = (fcAt fs q).n) (hp : A9 y (fcAt fs q).ns ns) (hu : oJ a l y = true) (hy : y ∉ allNs fs) : dT a l n (fs.set q (withA (fcAt fs q) x ns.length c ns)) = true := by
 obtain ⟨h1, h2, h3⟩ := gZ hf
 have hqf : q < fs.length := by omega
 have hyq : y ∉ (fcAt fs q).ns := fun h => hy (by
  unfold allNs
  exact List.mem_flatMap.2 ⟨_, yN hqf, h⟩)
 have hperm := BG (x := x) (n := ns.length) (c := c) hqf hp
 refine CU (fun i hi => ?_) (zC (fun j hj => ?_)) ?_
 ·unfold eL
  rw [kG hqf]
  by_cases e : q = i
  ·subst e
   rw [if_pos rfl]
   have h4 := h1 q hi
   unfold eL G5 at h4
   simp only [Bool.and_eq_true, Bool.not_eq_true'] at h4
   obtain ⟨p, hp1, hp2, hp3, rfl⟩ := hp
   have hl : ((fcAt fs q).ns.take p ++ [y] ++ (fcAt fs q).ns.drop p).length = (fcAt fs q).ns.length + 1 := by simp; omega
   have hr : fX ((fcAt fs q).ns.take p ++ [y] ++ (fcAt fs q).ns.drop p) = true := PB (fun j hj => by
    rw [hl] at hj
    rw [zB hp1, zB hp1]
    by_cases c1 : j + 1 < p
    ·rw [if_pos (by omega), if_pos c1]
     exact yJ h4.2.1 j (j + 1) (by omega) (by omega)
    ·by_cases c2 : j + 1 = p
     ·rw [if_pos (by omega), if_neg c1, if_pos c2]
      have h5 := hp2 j (by omega)
      have h6 : bA (fcAt fs q).ns j ≠ y := fun e => hyq (by
       rw [← e]
       exact List.mem_of_getElem? (uO (by omega)))
      omega
     ·by_cases c3 : j = p
      ·rw [if_neg (by omega), if_pos c3, if_neg c1, if_neg c2, Nat.add_sub_cancel, c3]
       exact hp3 (by omega)
      ·rw [if_neg (by omega), if_neg c3, if_neg c1, if_neg c2, Nat.add_sub_cancel]
       exact yJ h4.2.1 (j - 1) j (by omega) (by omega))
   have hus : (!aK ((fcAt fs q).ns.take p ++ [y] ++ (fcAt fs q).ns.drop p).length fun i => !oJ a l (bA ((fcAt fs q).ns.take p ++ [y] ++ (fcAt fs q).ns.drop p) i)) = true := by
    rw [Bool.not_eq_true']
    refine bZ.2 (fun m hm => ?_)
    rw [hl] at hm
    have hold := fun k hk => bZ.1 h4.2.2 k hk
    rw [zB hp1]
    by_cases c1 : m < p
    ·rw [if_pos c1]; exact hold m (by omega)
    ·rw [if_neg c1]
     by_cases c2 : m = p
     ·rw [if_pos c2, hu]; rfl
     ·rw [if_neg c2]; exact hold (m - 1) (by omega)
   show (dH (fcAt fs q).id 1 65536 && decide (0 < ((fcAt fs q).ns.take p ++ [y] ++ (fcAt fs q).ns.drop p).length) && G5 a l ((fcAt fs q).ns.take p ++ [y] ++ (fcAt fs q).ns.drop p).length ((fcAt fs q).ns.take p ++ [y] ++ (fcAt fs q).ns.drop p)) = true
   unfold G5
   rw [hr, hus, h4.1.1, hl]
   simp
  ·rw [if_neg e]
   exact h1 i hi
 ·rw [List.length_set] at hj
  have hid : ∀ k, (fcAt (fs.set q (withA (fcAt fs q) x ns.length c ns)) k).id = (fcAt fs k).id := fun k => by
   rw [kG hqf]
   split
   ·rename_i e; subst e; rfl
   ·rfl
  rw [hid, hid]
  exact oT h2 j (j + 1) (by omega) (by omega)
 ·exact hperm.nodup_iff.2 (List.nodup_cons.2 ⟨hy, h3⟩)
theorem BI (h : aV vid rn rs sn ss = 0) (hl : ss.length = sn) (hl' : ss'.length = sn) (hn : ∀ k, k < sn → (sbAt ss' k).id = (sbAt ss k).id ∧ (sbAt ss' k).a = (sbAt ss k).a ∧ (sbAt ss' k).l = (sbAt ss k).l)
  (hf : ∀ k, k < sn → (sbAt ss' k).n ≤ 8 ∧ (∀ j, j < (sbAt ss' k).n → (fcAt (sbAt ss' k).fs j).n ≤ 4) ∧ dT (sbAt ss k).a (sbAt ss k).l (sbAt ss' k).n (sbAt ss' k).fs = true) : aV vid rn rs sn ss' = 0 := by
 obtain ⟨g1, g2, -, -⟩ := cA h
 obtain ⟨r1, r2, r3⟩ := kI h
 have hm : cO rn sn ss' = false := by
  unfold cO
  have e : aK sn (fun i => dY (sbAt ss' i)) = false := bZ.2 (fun k hk => by
   obtain ⟨h1, h2, -⟩ := hf k hk
   unfold dY
   have e2 : aK (sbAt ss' k).n (fun j => decide (4 < (fcAt (sbAt ss' k).fs j).n)) = false := bZ.2 (fun j hj => by have := h2 j hj; simp; omega)
   rw [e2]
   simp
   omega)
  rw [e]
  simp
  omega
 have hs : mN rn rs sn ss' = true := by
  unfold mN
  rw [Bool.and_eq_true, List.all_eq_true]
  refine ⟨fun k hk => ?_, ?_⟩
  ·have hk' := List.mem_range.1 hk
   obtain ⟨h1, h2, h3⟩ := hn k hk'
   obtain ⟨c1, c2, -⟩ := pU h k hk'
   unfold lU
   rw [h1, h2, h3, c1, (hf k hk').2.2]
   have e : aK k (wT ss' (sbAt ss k).a (sbAt ss k).l) = false := bZ.2 (fun j hj => by
    have h4 := c2 j hj
    obtain ⟨-, h5, h6⟩ := hn j (by omega)
    unfold wT at h4 ⊢
    rw [h5, h6]
    exact h4)
   rw [e]
   rfl
  ·unfold mN at r3
   rw [Bool.and_eq_true] at r3
   have r4 := r3.2
   unfold gW at r4 ⊢
   rw [List.all_eq_true] at r4 ⊢
   intro k hk
   have hk' := List.mem_range.1 hk
   have h5 := r4 k (List.mem_range.2 (by omega))
   unfold iH at h5 ⊢
   rw [(hn k (by omega)).1, (hn (k - 1) (by omega)).1]
   exact h5
 unfold aV
 rw [hm, r1, r2, hs]
 rfl
theorem FK {id : Int} (h : lD s id = 0) : dH id 1 65536 = true ∧ (∀ j, j < s.n → (fcAt s.fs j).id ≠ id) ∧ s.n ≠ 8 := by
 unfold lD at h
 by_cases c1 : dH id 1 65536 = false
 ·rw [if_pos c1] at h; omega
 ·rw [if_neg c1] at h
  by_cases c2 : 0 ≤ fstAt s.n (fun i => (fcAt s.fs i).id == id)
  ·rw [if_pos c2] at h; omega
  ·rw [if_neg c2] at h
   by_cases c3 : s.n = 8
   ·rw [if_pos c3] at h; omega
   ·refine ⟨by simpa using c1, fun j hj => ?_, c3⟩
    rcases fstAt_cases s.n (fun i => (fcAt s.fs i).id == id) with ⟨q, -, -, -, hq⟩ | ⟨hno, -⟩
    ·rw [hq] at c2; omega
    ·simpa using hno j hj
theorem PC (hp : p ≤ xs.length) : (xs.take p ++ [e] ++ xs.drop p).take p ++ (xs.take p ++ [e] ++ xs.drop p).drop (p + 1) = xs := by
 have hl : (xs.take p).length = p := by rw [List.length_take]; omega
 have h1 : (xs.take p ++ [e] ++ xs.drop p).take p = xs.take p := by
  rw [List.append_assoc]
  exact List.take_left' hl
 have h2 : (xs.take p ++ [e] ++ xs.drop p).drop (p + 1) = xs.drop p := List.drop_left' (by simp [hl])
 rw [h1, h2, List.take_append_drop]
theorem wW.right {sub id : Int} (hv : O7 sn ss) (hK : wW vid rn rs sn ss sub id 0 y i0 rs1 ss1) :
  i0 = vid ∧ rs1 = rs ∧ ss1.length = sn ∧ aV vid rn rs sn ss = 0 ∧ (bV ss).count y = 0 ∧ (bV ss1).count y = 1 ∧ aV vid rn rs sn ss1 = 0 ∧
   ∃ i p, gY sn ss1 sub id i p ∧ ∀ us x n c, bG ss1 us → n = ((sbAt us i).fs.take p ++ (sbAt us i).fs.drop (p + 1)).length → bG (us.set i (bK (sbAt us i) x n c ((sbAt us i).fs.take p ++ (sbAt us i).fs.drop (p + 1)))) ss := by
 obtain ⟨hA, -, hR⟩ := hK
 obtain ⟨rfl, rfl, ts, i, x, n, c, fx, gs, hSA, hit, hss, hput, rfl, rfl⟩ := hR rfl
 have hcz : aV i0 rn rs1 sn ss = 0 := by
  unfold nA at hA
  by_cases c : aV i0 rn rs1 sn ss ≠ 0
  ·rw [if_pos c] at hA; exact absurd hA.1.symm c
  ·exact Classical.not_not.1 c
 have hrel : mZ (sbAt ss i) id 0 y := by
  unfold nA at hA
  rw [if_neg (by simp [hcz])] at hA
  rcases hA with ⟨-, h, -⟩ | ⟨k, hk, h⟩
  ·exact absurd h (by decide)
  ·obtain rfl := hk.one hSA
   exact h
 obtain ⟨hE, hL⟩ := hrel.ok
 obtain ⟨hwid, hno, hn8⟩ := FK hE
 have hi := hSA.isn
 obtain ⟨-, -, f3, f4⟩ := cA hcz
 have hsi := hss.2 i (by rw [hv.subs]; exact hi)
 have hFl : (sbAt ts i).fs.length = (sbAt ss i).n := by rw [← hsi.2.2.2.2.1, hv.fcs i hi]
 have hnob := O9 hcz hv hi hL
 have htl : ts.length = sn := by rw [← hss.1, hv.subs]
 have hfts : ∀ k, k < sn → dT (sbAt ss k).a (sbAt ss k).l (sbAt ss k).n (sbAt ts k).fs = true := fun k hk => BH (hss.2 k (by rw [hv.subs]; exact hk)).2.2.2.2 (hv.fcs k hk) (pU hcz k hk).2.2
 have hyi : y ∉ allNs (sbAt ts i).fs := by rw [← hsi.2.2.2.2.nss]; exact hL.free
 obtain ⟨p, hp1, hp2, hp3, hgs⟩ := hput
 have hgl : gs.length = (sbAt ss i).n + 1 := by rw [hgs]; simp; omega
 have hperm : (allNs gs).Perm (y :: allNs (sbAt ts i).fs) := by rw [hgs]; exact FJ rfl
 have hc0 : (bV ss).count y = 0 := List.count_eq_zero.2 hnob
 have hids : ∀ j, j < (sbAt ss i).n → (fcAt (sbAt ts i).fs j).id = (fcAt (sbAt ss i).fs j).id := fun j hj => (hsi.2.2.2.2.2 j (by rw [hv.fcs i hi]; exact hj)).1.symm
 refine ⟨rfl, rfl, by rw [List.length_set]; exact htl, hcz, hc0, ?_, ?_, i, p, ?_, ?_⟩
 ·have h1 := BF (ts := ts) (i := i) (s := bK (sbAt ts i) x gs.length c gs) (a := y) hit
  have h2 : (allNs (sbAt ts i).fs).count y = 0 := List.count_eq_zero.2 hyi
  have h3 : (bV ts).count y = 0 := by rw [← hss.ads]; exact hc0
  have h4 : (allNs (bK (sbAt ts i) x gs.length c gs).fs).count y = 1 := by
   show (allNs gs).count y = 1
   rw [hperm.count_eq, List.count_cons_self, h2]
  omega
 ·refine BI hcz hv.subs (by rw [List.length_set]; exact htl) (fun k hk => ?_) (fun k hk => ?_)
  ·rw [cW hit]
   have h1 := hss.2 k (by rw [hv.subs]; exact hk)
   split
   ·rename_i e; subst e; exact ⟨h1.1.symm, h1.2.1.symm, h1.2.2.1.symm⟩
   ·exact ⟨h1.1.symm, h1.2.1.symm, h1.2.2.1.symm⟩
  ·rw [cW hit]
   have h1 := hss.2 k (by rw [hv.subs]; exact hk)
   split
   ·rename_i e
    subst e
    refine ⟨by show gs.length ≤ 8; have := f3 i hk; omega, fun j hj => ?_, ?_⟩
    ·show (fcAt gs j).n ≤ 4
     have hj' : j < gs.length := hj
     rw [hgs, lZ hp1]
     split
     ·rw [← (hsi.2.2.2.2.2 j (by rw [hv.fcs i hk]; omega)).2.1]; exact f4 i hk j (by omega)
     ·split
      ·show 1 ≤ 4; omega
      ·rw [← (hsi.2.2.2.2.2 (j - 1) (by rw [hv.fcs i hk]; omega)).2.1]; exact f4 i hk (j - 1) (by omega)
    ·exact PA (hfts i hk) hFl ⟨p, hp1, hp2, hp3, hgs⟩ hwid (fun j hj => by rw [hids j hj]; exact hno j hj) hL.use hyi
   ·refine ⟨by rw [← h1.2.2.2.1]; exact f3 k hk, fun j hj => ?_, by rw [← h1.2.2.2.1]; exact hfts k hk⟩
    rw [← h1.2.2.2.1] at hj
    rw [← (h1.2.2.2.2.2 j (by rw [hv.fcs k hk]; exact hj)).2.1]
    exact f4 k hk j hj
 ·have hat : ∀ k, (sbAt (ts.set i (bK (sbAt ts i) x gs.length c gs)) k).id = (sbAt ts k).id := fun k => by
   rw [cW hit]
   split
   ·rename_i e; subst e; rfl
   ·rfl
  have hid : ∀ k, k < sn → (sbAt ts k).id = (sbAt ss k).id := fun k hk => (hss.2 k (by rw [hv.subs]; exact hk)).1.symm
  have hsi' : sbAt (ts.set i (bK (sbAt ts i) x gs.length c gs)) i = bK (sbAt ts i) x gs.length c gs := by rw [cW hit, if_pos rfl]
  refine ⟨hi, by rw [hat, hid i hi]; exact hSA.sid, fun k hk => by rw [hat, hid k (by omega)]; exact hSA.sno k hk, ?_, ?_, ?_⟩
  ·rw [hsi']; show p < gs.length; omega
  ·rw [hsi']; show (fcAt gs p).id = id; rw [hgs, lZ hp1, if_neg (Nat.lt_irrefl _), if_pos rfl]
  ·intro k hk
   rw [hsi']
   show (fcAt gs k).id ≠ id
   rw [hgs, lZ hp1, if_pos hk, hids k (by omega)]
   exact hno k (by omega)
 ·intro us x' n' c' hus hn'
  have hil : i < (ts.set i (bK (sbAt ts i) x gs.length c gs)).length := by rw [List.length_set]; exact hit
  have hui := hus.2 i hil
  rw [cW hit, if_pos rfl] at hui
  have hgu : bR gs (sbAt us i).fs := hui.2.2.2.2
  have hpg : p < gs.length := by omega
  have hcut : bR (gs.take p ++ gs.drop (p + 1)) ((sbAt us i).fs.take p ++ (sbAt us i).fs.drop (p + 1)) := hgu.del hpg
  have hcg : gs.take p ++ gs.drop (p + 1) = (sbAt ts i).fs := by rw [hgs]; exact PC hp1
  rw [hcg] at hcut
  have hul : i < us.length := by rw [← hus.1, List.length_set]; exact hit
  refine ⟨by rw [List.length_set, ← hus.1, List.length_set, htl, hv.subs], fun k hk => ?_⟩
  rw [List.length_set, ← hus.1, List.length_set] at hk
  have hk' : k < sn := by omega
  have h1 := hss.2 k (by rw [hv.subs]; exact hk')
  rw [cW hul]
  by_cases e : i = k
  ·subst e
   rw [if_pos rfl]
   refine ⟨hui.1.symm.trans h1.1.symm, hui.2.1.symm.trans h1.2.1.symm, hui.2.2.1.symm.trans h1.2.2.1.symm, ?_, ?_⟩
   ·show n' = (sbAt ss i).n
    rw [hn', ← hcut.1, hFl]
   ·exact (hcut.symm.trans h1.2.2.2.2.symm)
  ·rw [if_neg e]
   have h2 := hus.2 k (by rw [List.length_set]; exact hk)
   rw [cW hit, if_neg e] at h2
   exact ⟨h2.1.symm.trans h1.1.symm, h2.2.1.symm.trans h1.2.1.symm, h2.2.2.1.symm.trans h1.2.2.1.symm, h2.2.2.2.1.symm.trans h1.2.2.2.1.symm, h2.2.2.2.2.symm.trans h1.2.2.2.2.symm⟩
theorem wX.right {sub id : Int} (hv : O7 sn ss) (hK : wX vid rn rs sn ss sub id 0 y i0 rs1 ss1) (hcz0 : aV vid rn rs sn ss = 0) :
  i0 = vid ∧ rs1 = rs ∧ ss1.length = sn ∧ (bV ss).count y = 0 ∧ (bV ss1).count y = 1 ∧ aV vid rn rs sn ss1 = 0 := by
 obtain ⟨hA, -, hR⟩ := hK
 obtain ⟨rfl, rfl, ts, i, q, x, c, ns, hFA, hit, hqt, hss, hput, rfl⟩ := hR rfl
 have hcz := hcz0
 have hrel : qM (sbAt ss i) (fcAt (sbAt ss i).fs q) 0 y := by
  by_cases c : wL i0 rn rs1 sn ss sub id = 0
  ·obtain ⟨k, l, h1, h2⟩ := hA.2 c
   obtain ⟨rfl, rfl⟩ := h1.one hFA
   exact h2
  ·exact absurd (hA.1 c).1.symm c
 unfold qM at hrel
 by_cases h4 : (fcAt (sbAt ss i).fs q).n = 4
 ·rw [if_pos h4] at hrel; exact absurd hrel.1 (by decide)
 rw [if_neg h4] at hrel
 have hL : mY (sbAt ss i) y := by
  rcases hrel with ⟨-, h⟩ | ⟨h, -⟩
  ·exact h
  ·exact absurd h (by decide)
 have hi := hFA.isn
 obtain ⟨-, -, f3, f4⟩ := cA hcz
 have hsi := hss.2 i (by rw [hv.subs]; exact hi)
 have hFl : (sbAt ts i).fs.length = (sbAt ss i).n := by rw [← hsi.2.2.2.2.1, hv.fcs i hi]
 have hnob := O9 hcz hv hi hL
 have htl : ts.length = sn := by rw [← hss.1, hv.subs]
 have hfts : ∀ k, k < sn → dT (sbAt ss k).a (sbAt ss k).l (sbAt ss k).n (sbAt ts k).fs = true := fun k hk => BH (hss.2 k (by rw [hv.subs]; exact hk)).2.2.2.2 (hv.fcs k hk) (pU hcz k hk).2.2
 have hyi : y ∉ allNs (sbAt ts i).fs := by rw [← hsi.2.2.2.2.nss]; exact hL.free
 have hqn : q < (sbAt ss i).n := hFA.jn
 have hfq := hsi.2.2.2.2.2 q (by rw [hv.fcs i hi]; exact hqn)
 have hnsl : (fcAt (sbAt ts i).fs q).ns.length = (fcAt (sbAt ts i).fs q).n := by rw [← hfq.2.2, ← hfq.2.1]; exact hv.ads i hi q hqn
 have hnl : ns.length = (fcAt (sbAt ss i).fs q).n + 1 := by
  obtain ⟨p, hp, -, -, rfl⟩ := hput
  rw [hnsl, ← hfq.2.1] at hp
  simp
  rw [hnsl, ← hfq.2.1]
  omega
 have hperm := BG (x := x) (n := ns.length) (c := c) hqt hput
 have hc0 : (bV ss).count y = 0 := List.count_eq_zero.2 hnob
 refine ⟨rfl, rfl, by rw [List.length_set]; exact htl, hc0, ?_, ?_⟩
 ·have h1 := BF (ts := ts) (i := i) (s := bK (sbAt ts i) (sbAt ts i).x (sbAt ts i).n (sbAt ts i).c ((sbAt ts i).fs.set q (withA (fcAt (sbAt ts i).fs q) x ns.length c ns))) (a := y) hit
  have h2 : (allNs (sbAt ts i).fs).count y = 0 := List.count_eq_zero.2 hyi
  have h3 : (bV ts).count y = 0 := by rw [← hss.ads]; exact hc0
  have h5 : (allNs (bK (sbAt ts i) (sbAt ts i).x (sbAt ts i).n (sbAt ts i).c ((sbAt ts i).fs.set q (withA (fcAt (sbAt ts i).fs q) x ns.length c ns))).fs).count y = 1 := by
   show (allNs ((sbAt ts i).fs.set q (withA (fcAt (sbAt ts i).fs q) x ns.length c ns))).count y = 1
   rw [hperm.count_eq, List.count_cons_self, h2]
  omega
 ·refine BI hcz hv.subs (by rw [List.length_set]; exact htl) (fun k hk => ?_) (fun k hk => ?_)
  ·rw [cW hit]
   have h1 := hss.2 k (by rw [hv.subs]; exact hk)
   split
   ·rename_i e; subst e; exact ⟨h1.1.symm, h1.2.1.symm, h1.2.2.1.symm⟩
   ·exact ⟨h1.1.symm, h1.2.1.symm, h1.2.2.1.symm⟩
  ·rw [cW hit]
   have h1 := hss.2 k (by rw [hv.subs]; exact hk)
   split
   ·rename_i e
    subst e
    refine ⟨by show (sbAt ts i).n ≤ 8; rw [← h1.2.2.2.1]; exact f3 i hk, fun j hj => ?_, ?_⟩
    ·show (fcAt ((sbAt ts i).fs.set q (withA (fcAt (sbAt ts i).fs q) x ns.length c ns)) j).n ≤ 4
     have hj' : j < (sbAt ss i).n := by rw [h1.2.2.2.1]; exact hj
     rw [kG hqt]
     split
     ·show ns.length ≤ 4
      have := f4 i hk q hqn
      omega
     ·rw [← (hsi.2.2.2.2.2 j (by rw [hv.fcs i hk]; exact hj')).2.1]; exact f4 i hk j hj'
    ·show dT (sbAt ss i).a (sbAt ss i).l (sbAt ts i).n ((sbAt ts i).fs.set q (withA (fcAt (sbAt ts i).fs q) x ns.length c ns)) = true
     rw [← h1.2.2.2.1]
     exact LE (hfts i hk) hFl hqn hnsl hput hL.use hyi
   ·refine ⟨by rw [← h1.2.2.2.1]; exact f3 k hk, fun j hj => ?_, by rw [← h1.2.2.2.1]; exact hfts k hk⟩
    rw [← h1.2.2.2.1] at hj
    rw [← (h1.2.2.2.2.2 j (by rw [hv.fcs k hk]; exact hj)).2.1]
    exact f4 k hk j hj
open Go.RowKit Go.Maps
abbrev IZ (p a l : Int) : Value := .agg #[.int .i64 p, .int .i64 a, .int .i64 l]
def dU (p a l : Int) : Lit := .string (keyBytes [.int .i64 p, .int .i64 a, .int .i64 l])
theorem LF : laidOutB Tryz.prog = true := by kernel_rfl
theorem LG : (match Tryz.prog.underlying 102 with | some (.array _ _) | some (.struct _) => true | _ => false) = true := by kernel_rfl
theorem PD : (102 : TypeId) < Tryz.prog.types.size := of_decide_eq_true (by kernel_rfl)
theorem LH : Tryz.prog.keyTypeAt 3 102 = true := by kernel_rfl
theorem mA : Keyed Tryz.prog 102 := Keyed.of_law (deep_law_laid LF (m := 3) (by omega) PD LH LG)
theorem LI : ∃ m, Tryz.prog.types.size = m + 3 := ⟨Tryz.prog.types.size - 3, by kernel_rfl⟩
theorem zD : Tryz.prog.cellsOf 102 = 3 := by kernel_rfl
theorem vQ : Tryz.prog.cellsOf 49 = 2 := by kernel_rfl
theorem vT : Tryz.prog.cellsOf 3 = 1 := by kernel_rfl
theorem LJ : Tryz.prog.keyType 102 = true := by kernel_rfl
theorem PE (ha : (Lit.int .i64 a).wf = true) (hl : (Lit.int .i64 l).wf = true) : Tryz.prog.keyLits (m + 2) 49 [.int .i64 a, .int .i64 l] = some [.int .i64 a, .int .i64 l] := by
 unfold Program.keyLits
 simp only [Tryz.underlying49]
 rw [if_pos ⟨by rw [vQ]; rfl, by kernel_rfl⟩]
 simp [vT, Program.keyLits, Tryz.underlying3, ha, hl]
theorem LK {p : Int} (hp : (Lit.int .i64 p).wf = true) (ha : (Lit.int .i64 a).wf = true) (hl : (Lit.int .i64 l).wf = true) : Tryz.prog.keyLits (m + 3) 102 [.int .i64 p, .int .i64 a, .int .i64 l] = some [.int .i64 p, .int .i64 a, .int .i64 l] := by
 unfold Program.keyLits
 simp only [Tryz.underlying102]
 rw [if_pos ⟨by rw [zD]; rfl, by kernel_rfl⟩]
 have h1 : Tryz.prog.keyLits (m + 2) 3 [.int .i64 p] = some [.int .i64 p] := by simp [Program.keyLits, Tryz.underlying3, hp]
 have h2 := PE (m := m) ha hl
 simp [vT, vQ, h1, h2]
theorem oU {p : Int} (hp : (Lit.int .i64 p).wf = true) (ha : (Lit.int .i64 a).wf = true) (hl : (Lit.int .i64 l).wf = true) : keyOf Tryz.prog 102 (IZ p a l) = some (dU p a l) := by
 obtain ⟨m, hm⟩ := LI
 have h1 := LK (m := m + 1) hp ha hl
 have h2 : (IZ p a l).formed Tryz.prog 102 = true := by simp [Value.formed, Tryz.underlying102, zD]
 unfold keyOf dU
 simp only [Tryz.underlying102]
 rw [if_pos (by rw [LJ, h2]; rfl), hm]
 show Option.map _ (Tryz.prog.keyLits (m + 1 + 3) 102 [.int .i64 p, .int .i64 a, .int .i64 l]) = _
 rw [h1]
 rfl
theorem oV {p q b m : Int} (hp : (Lit.int .i64 p).wf = true) (ha : (Lit.int .i64 a).wf = true) (hl : (Lit.int .i64 l).wf = true) (hq : (Lit.int .i64 q).wf = true) (hb : (Lit.int .i64 b).wf = true) (hm : (Lit.int .i64 m).wf = true) (h : dU p a l = dU q b m) : p = q ∧ a = b ∧ l = m := by
 have h1 := oU hp ha hl
 have h2 := oU hq hb hm
 rw [← h] at h2
 have := mA.inj h1 h2
 simpa using this
open Go.RowKit Go.Shelf Go.Maps
def keyB (p a l : Int) (x : (Int × Int × Int) × Int) : Bool := decide (x.1 = (p, a, l))
def nI (L : List ((Int × Int × Int) × Int)) (p a l : Int) : Int := match L.find? (keyB p a l) with | some x => x.2 | none => 0
def C4 (p a l : Int) : Prop := (Lit.int .i64 p).wf = true ∧ (Lit.int .i64 a).wf = true ∧ (Lit.int .i64 l).wf = true
structure F3 (D : DataW Unit) (L : List ((Int × Int × Int) × Int)) : Prop where
 isMap : IsMap D
 at_ : ∀ p a l, C4 p a l → D.atKey (dU p a l) (.lit (.int .i64 0)) = .lit (.int .i64 (nI L p a l))
 has_ : ∀ p a l, C4 p a l → has D (dU p a l) = L.any (keyB p a l)
 only : ∀ kl, has D kl = true → ∃ x ∈ L, kl = dU x.1.1 x.1.2.1 x.1.2.2
 wfs : ∀ x ∈ L, C4 x.1.1 x.1.2.1 x.1.2.2
theorem F3.empty : F3 (.map []) [] := ⟨isMap_empty, fun _ _ _ _ => rfl, fun _ _ _ _ => rfl, (fun _ h => by cases h), (fun _ h => by cases h)⟩
theorem F3.put {D : DataW Unit} (h : F3 D L) {p a l : Int} (o : Int) (hw : C4 p a l) : F3 (D.put (dU p a l) (.lit (.int .i64 o))) (((p, a, l), o) :: L) where
 isMap := h.isMap.put _ _
 at_ := fun q b m hq => by
  by_cases e : p = q ∧ a = b ∧ l = m
  ·obtain ⟨rfl, rfl, rfl⟩ := e
   rw [atKey_put_same h.isMap (by trivial)]
   simp [nI, keyB]
  ·have hne : dU q b m ≠ dU p a l := fun e2 => by
    obtain ⟨h1, h2, h3⟩ := oV hq.1 hq.2.1 hq.2.2 hw.1 hw.2.1 hw.2.2 e2
    exact e ⟨h1.symm, h2.symm, h3.symm⟩
   rw [atKey_put_other hne, h.at_ q b m hq]
   have hk : keyB q b m ((p, a, l), o) = false := by
    unfold keyB
    rw [decide_eq_false]
    intro e3
    simp only [Prod.mk.injEq] at e3
    exact e e3
   simp [nI, hk]
 has_ := fun q b m hq => by
  by_cases e : p = q ∧ a = b ∧ l = m
  ·obtain ⟨rfl, rfl, rfl⟩ := e
   rw [has_put_same h.isMap (by trivial)]
   simp [keyB]
  ·have hne : dU q b m ≠ dU p a l := fun e2 => by
    obtain ⟨h1, h2, h3⟩ := oV hq.1 hq.2.1 hq.2.2 hw.1 hw.2.1 hw.2.2 e2
    exact e ⟨h1.symm, h2.symm, h3.symm⟩
   rw [has_put_other hne, h.has_ q b m hq]
   have hk : keyB q b m ((p, a, l), o) = false := by
    unfold keyB
    rw [decide_eq_false]
    intro e3
    simp only [Prod.mk.injEq] at e3
    exact e e3
   simp [hk]
 only := fun kl h1 => by
  by_cases e : kl = dU p a l
  ·exact ⟨_, List.mem_cons_self, e⟩
  ·rw [has_put_other e] at h1
   obtain ⟨x, hx, h2⟩ := h.only kl h1
   exact ⟨x, List.mem_cons_of_mem _ hx, h2⟩
 wfs := fun x hx => by
  rcases List.mem_cons.1 hx with rfl | hx
  ·exact hw
  ·exact h.wfs x hx
def gD (id : Int) (ls : List Le) : List ((Int × Int × Int) × Int) := ((ls.filter fun e => e.kd == 1).map fun e => ((id, e.a, e.l), e.ow)).reverse
def bT (ps : List Po) : List ((Int × Int × Int) × Int) := ps.reverse.flatMap fun p => gD p.id p.ls
theorem LL {ls : List Le} (h : i < ls.length) : aM ls i = ls[i] := by unfold aM; rw [List.getD_eq_getElem?_getD, List.getElem?_eq_getElem h]; rfl
theorem H4 {id : Int} {ls : List Le} (h : q < ls.length) : gD id (ls.take (q + 1)) = if (aM ls q).kd = 1 then ((id, (aM ls q).a, (aM ls q).l), (aM ls q).ow) :: gD id (ls.take q) else gD id (ls.take q) := by
 unfold gD
 rw [List.take_add_one, List.getElem?_eq_getElem h, LL h, Option.toList_some, List.filter_append]
 by_cases c : ls[q].kd = 1
 ·rw [if_pos c]
  simp [c]
 ·rw [if_neg c]
  simp [c]
theorem H5 (h : k < ps.length) : bT (ps.take (k + 1)) = gD (poAt ps k).id (poAt ps k).ls ++ bT (ps.take k) := by
 unfold bT
 rw [List.take_add_one, List.getElem?_eq_getElem h, bC h, Option.toList_some, List.reverse_append]
 simp
theorem BJ {id : Int} {ls : List Le} : (gD id ls).length ≤ ls.length := by
 unfold gD
 rw [List.length_reverse, List.length_map]
 exact List.length_filter_le _ _
theorem mS : Tryz.prog.underlying 99 = some (.map 102 3) := by kernel_rfl
theorem lF (t : Int) (x : Option Addr) (n c : Nat) (ps : List Po) (w : World) (hp : qA w x n ps) (hn : n ≤ 64) (hm : ∀ k, k < n → (poAt ps k).n ≤ 64)
  (hW : ∀ k, k < n → ∀ q, q < (poAt ps k).n → C4 (poAt ps k).id (aM (poAt ps k).ls q).a (aM (poAt ps k).ls q).l ∧ (Lit.int .i64 (aM (poAt ps k).ls q).ow).wf = true) :
  Calls Tryz.prog 39 #[.agg #[.int .i64 t, .slice x n c]] w fun e w' => ∃ bm D, e = .returned (.map (some bm)) ∧ w.heap.size ≤ bm ∧ w'.ownsMap Tryz.prog 102 (plainElem Tryz.prog 3) bm (bT ps).length D ∧ F3 D (bT ps) ∧ Below w.heap.size w w' := by
 have hmm := @run_makeMap Tryz.prog
 have hpl : Hid (ps.length = n) := hp.len
 go_enter Tryz.func39, Tryz.ntmps39
 go_wp2
 go_loopw [12] (fun i wr => ∃ (k : Nat) (D : DataW Unit), k ≤ n ∧ i = .int .i64 k ∧ Below w.heap.size w wr ∧ wr.ownsMap Tryz.prog 102 (plainElem Tryz.prog 3) (w.heap.size + 1) (bT (ps.take k)).length D ∧ F3 D (bT (ps.take k)) ∧ (bT (ps.take k)).length ≤ k * 64) (fun i _ => n - (intOf i).toNat)
 case atStart =>
  refine ⟨0, .map [], by omega, rfl, ?_, ?_, ?_, ?_⟩
  ·exact cB w _ _
  ·have := World.ownsMap_made (H := Unit) (w.alloc (QJ t x n c)) Tryz.prog 102 (plainElem Tryz.prog 3)
   simpa [bT] using this
  ·exact F3.empty
  ·simp [bT]
 case round =>
  obtain ⟨k, D, hk, rfl, hB, hO, hC, hL⟩ := hrel
  by_cases hlt : k < n
  ·have hlt' : Hid (k < n) := hlt
   have hpr := hp.later hB
   obtain ⟨b, o, rfl, c0, c1, c2, c3, c4, c5, c6, c7, c8⟩ := hpr.cells k hlt
   have hI := (hp.leases k hlt).2.2
   have hm1 := hm k hlt
   have hW1 := hW k hlt
   have hsz := hB.size
   have hst : Hid (bT (ps.take (k + 1)) = gD (poAt ps k).id (poAt ps k).ls ++ bT (ps.take k)) := H5 (by rw [hpl.out]; exact hlt)
   generalize hf : poAt ps k = f at *
   clear hf
   go_wp2
   obtain ⟨wo, rfl⟩ : ∃ wo, wo = wr := ⟨_, rfl⟩
   clear c0 c1 c2 c3 c4 c5 c6 c7 c8
   have hol : Hid (w.heap.size + 1 < wo.heap.size) := hO.lt
   go_loopw [19] (fun i wr => ∃ (q : Nat) (D : DataW Unit), q ≤ f.n ∧ i = .int .i64 q ∧ Below w.heap.size w wr ∧ wr.heap[wo.heap.size]? = some (GG f) ∧ wr.ownsMap Tryz.prog 102 (plainElem Tryz.prog 3) (w.heap.size + 1) (gD f.id (f.ls.take q) ++ bT (ps.take k)).length D ∧ F3 D (gD f.id (f.ls.take q) ++ bT (ps.take k))) (fun i _ => f.n - (intOf i).toNat)
   case atStart => exact ⟨0, D, by omega, rfl, hB.trans ((bl1 wo _).mono hsz), aC _ rfl, by simpa [gD] using hO.alloc _, by simpa [gD] using hC⟩
   case round =>
    obtain ⟨q, D2, hq, rfl, hB2, hbx, hO2, hC2⟩ := hrel
    by_cases hq2 : q < f.n
    ·have hq' : Hid (q < f.n) := hq2
     obtain ⟨b2, o2, hx2, d0, d1, d2, d3, d4⟩ := (hI.later hB2).cells q hq2
     have hst2 := H4 (id := f.id) (ls := f.ls) (q := q) (by rw [hI.len]; exact hq2)
     have hL2 : Hid ((gD f.id (f.ls.take q) ++ bT (ps.take k)).length ≤ k * 64 + 64) := by
      show _ ≤ _
      rw [List.length_append]
      have := BJ (id := f.id) (ls := f.ls.take q)
      rw [List.length_take] at this
      omega
     obtain ⟨hw3, hwo⟩ := hW1 q hq2
     have hkey : keyOf Tryz.prog 102 (IZ f.id (aM f.ls q).a (aM f.ls q).l) = some (dU f.id (aM f.ls q).a (aM f.ls q).l) := oU hw3.1 hw3.2.1 hw3.2.2
     generalize hLd : gD f.id (f.ls.take q) ++ bT (ps.take k) = L at *
     have hmx : L.length < maxLen := by have := hL2.out; unfold maxLen; omega
     rw [hx2]
     generalize aM f.ls q = e at *
     obtain ⟨ea, el, ek, eo, eu⟩ := e
     simp only at *
     have hbx2 := aF (RY ⟨ea, el, ek, eo, eu⟩) hbx
     have hO3 := hO2.alloc (RY ⟨ea, el, ek, eo, eu⟩)
     have hB3 := hB2.alloc hB2.size (RY ⟨ea, el, ek, eo, eu⟩)
     obtain ⟨kb, -⟩ := aA hbx2
     have kb0 := kb 0
     by_cases hkd : ek = 1
     ·subst hkd
      rw [if_pos rfl] at hst2
      go_wp2_with (first
       | (at_mapUpdate; refine wpList_mapUpdate_own _ rfl _ _ _ 99 rfl 102 3 mA mS _ (w.heap.size + 1) _ _ rfl hO3 hmx _ _ _ rfl rfl hkey _ [] (plainElem_int under_int hwo) ?_; intro w1 hown1 hgrow1)
       | go_in)
      have hP := hC2.put eo hw3
      have hsz3 := hB3.size
      go_roundw
      case rel =>
       refine ⟨q + 1, D2.put (dU f.id ea el) (.lit (.int .i64 eo)), hq'.out, by go_num, hB3.grown hgrow1 hB3.size (fun j hj => by cases hj; omega), fI hgrow1 hbx2 (by have := hol.out; omega), ?_, ?_⟩
       ·rw [hst2, List.cons_append, hLd]
        exact hown1
       ·rw [hst2, List.cons_append, hLd]
        exact hP
      case measure => simp [intOf]; have := hq'.out; omega
     ·rw [if_neg hkd] at hst2
      have hkd' : (ek == 1) = false := by simpa using hkd
      go_wp2
      go_roundw
      case rel => exact ⟨q + 1, D2, hq'.out, by go_num, hB3, hbx2, by rw [hst2, hLd]; exact hO3, by rw [hst2, hLd]; exact hC2⟩
      case measure => simp [intOf]; have := hq'.out; omega
    ·obtain rfl : q = f.n := by omega
     have e : f.ls.take f.n = f.ls := by rw [← hI.len, List.take_length]
     rw [e, ← hst.out] at hO2 hC2
     go_wp2
     go_roundw
     case rel =>
      refine ⟨k + 1, D2, hlt'.out, by go_num, hB2, hO2, hC2, ?_⟩
      rw [hst.out, List.length_append]
      have := BJ (id := f.id) (ls := f.ls)
      rw [hI.len] at this
      omega
     case measure => simp [intOf]; have := hlt'.out; omega
  ·obtain rfl : k = n := by omega
   have e : ps.take k = ps := by rw [← hpl.out, List.take_length]
   rw [e] at hO hC
   go_wp2
   go_ret
   exact ⟨_, D, rfl, by omega, hO, hC, hB⟩
def uP (L : List ((Int × Int × Int) × Int)) (id : Int) : Bool := L.any fun x => decide (nI L x.1.1 x.1.2.1 x.1.2.2 = id)
theorem BK (bm m : Nat) (D : DataW Unit) (L : List ((Int × Int × Int) × Int)) (id : Int) (w : World) (hO : w.ownsMap Tryz.prog 102 (plainElem Tryz.prog 3) bm m D) (hC : F3 D L) :
  Calls Tryz.prog 40 #[.map (some bm), .int .i64 id] w fun e w' => e = .returned (.bool (uP L id)) ∧ Below w.heap.size w w' := by
 have hDb : Hid (F3 D L) := hC
 go_enter Tryz.func40, Tryz.ntmps40
 go_wp2_with (first | (at_range; refine wpList_range_own _ rfl _ 99 rfl 102 3 mA mS _ bm m D rfl hO ?_; intro w0 hrg0 hg0 hs0) | go_in)
 go_frame
 go_loopw [] (fun wr => ∃ left cnt, wr.ranges Tryz.prog 102 (plainElem Tryz.prog 3) bm w.heap.size m D left cnt ∧ Below w.heap.size w wr ∧ (∀ x ∈ L, left (dU x.1.1 x.1.2.1 x.1.2.2) = true ∨ nI L x.1.1 x.1.2.1 x.1.2.2 ≠ id)) (fun wr => wr.rangeLeft bm w.heap.size)
 case atStart => exact ⟨_, _, hrg0, (Below.refl _ _).grown hg0 (Nat.le_refl _) (fun j hj => by cases hj), fun x hx => .inl (by rw [hDb.out.has_ _ _ _ (hDb.out.wfs x hx)]; exact List.any_eq_true.2 ⟨x, hx, by unfold keyB; simp⟩)⟩
 case round =>
  obtain ⟨left, cnt, hrg, hB, hall⟩ := hrel
  go_wp2_with (first
   | (at_next; refine wpList_next_ranges (α := Value) (β := Int) _ rfl _ rfl 102 mA (plainElem Tryz.prog 3) (fun x => x) (fun c => .int .i64 c) (fun key _ _ => ⟨key, rfl⟩) (fun v y h => (plainElem_int_inv under_int h).imp fun _ h => h.1) bm w.heap.size m _ _ _ rfl hrg ?_ ?_)
   | go_in)
  ·intro hc0 hl0
   go_wp2
   go_ret
   refine ⟨aH ?_, hB⟩
   symm
   unfold uP
   rw [List.any_eq_false]
   intro x hx
   rcases hall x hx with h | h
   ·rw [hl0] at h; cases h
   ·simpa using h
  ·intro x c kl y yp w1 cnt1 hkx hlx hvc hat hrg1 hlt hg1 hs1 hen
   have hB1 : Below w.heap.size w w1 := hB.grown hg1 hB.size (fun j hj => by cases hj; omega)
   obtain ⟨z, hz, hkl⟩ := hDb.out.only kl (has_true_of_atKey hat)
   have hcx : nI L z.1.1 z.1.2.1 z.1.2.2 = c := by
    have h1 := hat (.lit (.int .i64 0))
    rw [hkl, hDb.out.at_ _ _ _ (hDb.out.wfs z hz)] at h1
    obtain ⟨c', e1, e2, -⟩ := plainElem_int_inv under_int hvc
    cases e1
    cases e2
    cases h1
    rfl
   by_cases hgt : c = id
   ·go_wp2
    go_ret
    exact ⟨aH (List.any_eq_true.2 ⟨z, hz, by rw [hcx, hgt]; simp⟩).symm, hB1⟩
   ·go_wp2
    go_roundw
    case rel => exact ⟨_, cnt1, hrg1, hB1, fun u hu => by
     by_cases e : dU u.1.1 u.1.2.1 u.1.2.2 = kl
     ·refine .inr ?_
      obtain ⟨e1, e2, e3⟩ := oV (hDb.out.wfs u hu).1 (hDb.out.wfs u hu).2.1 (hDb.out.wfs u hu).2.2 (hDb.out.wfs z hz).1 (hDb.out.wfs z hz).2.1 (hDb.out.wfs z hz).2.2 (e.trans hkl)
      rw [e1, e2, e3, hcx]
      exact hgt
     ·rcases hall u hu with h | h
      ·refine .inl ?_
       rw [h, sameKey_ne e]
       rfl
      ·exact .inr h⟩
    case measure => rw [hrg1.left_eq, hrg.left_eq]; omega
theorem eV {p : Int} : keyB p a l x = true ↔ x.1 = (p, a, l) := by unfold keyB; simp
def H6 (id : Int) : List ((Int × Int × Int) × Int) → List (Int × Int × Int) → Option (List ((Int × Int × Int) × Int))
 | L, [] => some L
 | L, k :: ks => if nI L k.1 k.2.1 k.2.2 = id then H6 id (L.filter fun x => !keyB k.1 k.2.1 k.2.2 x) ks else none
def FL : List ((Int × Int × Int) × Int) → List (Int × List (Int × Int × Int)) → Bool
 | _, [] => true
 | L, v :: vs => match H6 v.1 L v.2 with
  | none => false
  | some M => !uP M v.1 && FL M vs
structure zE (L : List ((Int × Int × Int) × Int)) : Prop where
 one : L.Pairwise fun x y => x.1 ≠ y.1
 pos : ∀ x ∈ L, x.2 ≠ 0
theorem zE.eq (h : zE L) {x y : (Int × Int × Int) × Int} (hx : x ∈ L) (hy : y ∈ L) (e : x.1 = y.1) : x = y := by
 obtain ⟨i, hi, rfl⟩ := List.mem_iff_getElem.1 hx
 obtain ⟨j, hj, rfl⟩ := List.mem_iff_getElem.1 hy
 have h1 := h.one
 rw [List.pairwise_iff_getElem] at h1
 rcases Nat.lt_trichotomy i j with c | c | c
 ·exact absurd e (h1 i j hi hj c)
 ·subst c; rfl
 ·exact absurd e.symm (h1 j i hj hi c)
theorem zE.filter (h : zE L) (f : (Int × Int × Int) × Int → Bool) : zE (L.filter f) := ⟨h.one.filter f, fun x hx => h.pos x (List.mem_filter.1 hx).1⟩
theorem tG (h : zE L) {k : Int × Int × Int} {o : Int} (ho : o ≠ 0) : nI L k.1 k.2.1 k.2.2 = o ↔ (k, o) ∈ L := by
 unfold nI
 constructor
 ·intro g
  cases hf : L.find? (keyB k.1 k.2.1 k.2.2) with
  | none => rw [hf] at g; exact absurd g.symm ho
  | some x =>
   rw [hf] at g
   have h1 := List.find?_some hf
   have h2 := List.mem_of_find?_eq_some hf
   rw [eV] at h1
   simp only at g
   have : x = (k, o) := by
    obtain ⟨x1, x2⟩ := x
    simp only at h1 g
    rw [h1, g]
   rw [← this]
   exact h2
 ·intro g
  cases hf : L.find? (keyB k.1 k.2.1 k.2.2) with
  | none =>
   have := List.find?_eq_none.1 hf (k, o) g
   exact absurd (eV.2 rfl) this
  | some x =>
   have h1 := List.find?_some hf
   have h2 := List.mem_of_find?_eq_some hf
   rw [eV] at h1
   rw [h.eq h2 g h1]
theorem FM (h : zE L) {id : Int} (hid : id ≠ 0) : uP L id = true ↔ ∃ k, (k, id) ∈ L := by
 unfold uP
 rw [List.any_eq_true]
 constructor
 ·rintro ⟨x, hx, h1⟩
  exact ⟨x.1, (tG h hid).1 (by simpa using h1)⟩
 ·rintro ⟨k, hk⟩
  exact ⟨(k, id), hk, by simpa using (tG h hid).2 hk⟩
theorem I0 {id : Int} (hid : id ≠ 0) : ∀ (ks : List (Int × Int × Int)) (L : List ((Int × Int × Int) × Int)), zE L → ks.Nodup → ((∃ M, H6 id L ks = some M) ↔ ∀ k ∈ ks, (k, id) ∈ L) ∧ ∀ M, H6 id L ks = some M → zE M ∧ ∀ x, x ∈ M ↔ x ∈ L ∧ x.1 ∉ ks
 | [], L, h, _ => ⟨⟨fun _ k hk => (by cases hk), fun _ => ⟨L, rfl⟩⟩, fun M e => by
  cases e
  exact ⟨h, fun x => by simp⟩⟩
 | k :: ks, L, h, hn => by
  obtain ⟨hk, hn'⟩ := List.nodup_cons.1 hn
  obtain ⟨g1, g2⟩ := I0 hid ks (L.filter fun x => !keyB k.1 k.2.1 k.2.2 x) (h.filter _) hn'
  have hmem : ∀ x, x ∈ (L.filter fun x => !keyB k.1 k.2.1 k.2.2 x) ↔ x ∈ L ∧ x.1 ≠ k := fun x => by
   rw [List.mem_filter]
   have : (!keyB k.1 k.2.1 k.2.2 x) = true ↔ x.1 ≠ k := by
    cases e : keyB k.1 k.2.1 k.2.2 x
    ·simp only [Bool.not_false, true_iff]
     intro e2
     rw [eV.2 e2] at e
     cases e
    ·simp [eV.1 e]
   rw [this]
  unfold H6
  by_cases c : nI L k.1 k.2.1 k.2.2 = id
  ·rw [if_pos c]
   have hkL := (tG h hid).1 c
   refine ⟨?_, fun M e => ?_⟩
   ·rw [g1]
    constructor
    ·intro a j hj
     rcases List.mem_cons.1 hj with rfl | hj
     ·exact hkL
     ·exact ((hmem _).1 (a j hj)).1
    ·intro a j hj
     exact (hmem _).2 ⟨a j (List.mem_cons_of_mem _ hj), fun e => hk (e ▸ hj)⟩
   ·obtain ⟨a1, a2⟩ := g2 M e
    refine ⟨a1, fun x => ?_⟩
    rw [a2, hmem, List.mem_cons, not_or]
    exact ⟨fun ⟨⟨b1, b2⟩, b3⟩ => ⟨b1, b2, b3⟩, fun ⟨b1, b2, b3⟩ => ⟨⟨b1, b2⟩, b3⟩⟩
  ·rw [if_neg c]
   refine ⟨⟨fun ⟨M, e⟩ => (by cases e), fun a => ?_⟩, fun M e => (by cases e)⟩
   exact absurd ((tG h hid).2 (a k List.mem_cons_self)) c
theorem I1 : ∀ (vs : List (Int × List (Int × Int × Int))) (L : List ((Int × Int × Int) × Int)), zE L → (∀ v ∈ vs, v.1 ≠ 0 ∧ v.2.Nodup) → (vs.Pairwise fun u v => u.1 ≠ v.1) → (FL L vs = true ↔ ∀ v ∈ vs, ∀ k, (k, v.1) ∈ L ↔ k ∈ v.2)
 | [], L, _, _, _ => ⟨fun _ v hv => (by cases hv), fun _ => rfl⟩
 | v :: vs, L, h, hv, hp => by
  obtain ⟨p1, p2⟩ := List.pairwise_cons.1 hp
  obtain ⟨v0, vn⟩ := hv v List.mem_cons_self
  obtain ⟨g1, g2⟩ := I0 v0 v.2 L h vn
  unfold FL
  cases hr : H6 v.1 L v.2 with
  | none =>
   refine ⟨fun a => (by cases a), fun a => ?_⟩
   obtain ⟨M, e⟩ := g1.2 (fun k hk => (a v List.mem_cons_self k).2 hk)
   rw [hr] at e
   cases e
  | some M =>
   obtain ⟨a1, a2⟩ := g2 M hr
   have a3 := g1.1 ⟨M, hr⟩
   have ih := I1 vs M a1 (fun u hu => hv u (List.mem_cons_of_mem _ hu)) p2
   have hrest : ∀ u ∈ vs, ∀ k, (k, u.1) ∈ M ↔ (k, u.1) ∈ L := fun u hu k => by
    rw [a2]
    refine ⟨fun b => b.1, fun b => ⟨b, fun hk => ?_⟩⟩
    have := h.eq b (a3 k hk) rfl
    simp only [Prod.mk.injEq, true_and] at this
    exact p1 u hu this.symm
   simp only [Bool.and_eq_true, ih]
   have hany : (!uP M v.1) = true ↔ ∀ k, (k, v.1) ∈ L → k ∈ v.2 := by
    have hA := FM a1 v0
    constructor
    ·intro b k hk
     refine Classical.byContradiction fun c => ?_
     rw [hA.2 ⟨k, (a2 _).2 ⟨hk, c⟩⟩] at b
     cases b
    ·intro b
     cases e : uP M v.1
     ·rfl
     ·obtain ⟨k, hk⟩ := hA.1 e
      obtain ⟨c1, c2⟩ := (a2 _).1 hk
      exact absurd (b k c1) c2
   rw [hany]
   constructor
   ·rintro ⟨b1, b2⟩ u hu k
    rcases List.mem_cons.1 hu with rfl | hu
    ·exact ⟨b1 k, a3 k⟩
    ·rw [← hrest u hu]
     exact b2 u hu k
   ·intro b
    exact ⟨fun k hk => (b v List.mem_cons_self k).1 hk, fun u hu k => by rw [hrest u hu]; exact b u (List.mem_cons_of_mem _ hu) k⟩
theorem LM {p q b m : Int} (e : ¬ (p = q ∧ a = b ∧ l = m)) : (L.filter fun x => !keyB p a l x).find? (keyB q b m) = L.find? (keyB q b m) :=
 find_filter_keep (fun x hx => by
  rw [eV] at hx
  cases c : keyB p a l x
  ·rfl
  ·rw [eV, hx] at c
   simp only [Prod.mk.injEq] at c
   exact absurd ⟨c.1.symm, c.2.1.symm, c.2.2.symm⟩ e) L
theorem LN {p : Int} : (L.filter fun x => !keyB p a l x).find? (keyB p a l) = none := by
 rw [List.find?_eq_none]
 intro x hx h
 have := (List.mem_filter.1 hx).2
 rw [h] at this
 cases this
theorem F3.del {D : DataW Unit} (h : F3 D L) {p a l : Int} (hw : C4 p a l) : F3 (D.del (dU p a l)) (L.filter fun x => !keyB p a l x) where
 isMap := h.isMap.del _
 at_ := fun q b m hq => by
  by_cases e : p = q ∧ a = b ∧ l = m
  ·obtain ⟨rfl, rfl, rfl⟩ := e
   rw [atKey_del_same]
   unfold nI
   rw [LN]
  ·have hne : dU q b m ≠ dU p a l := fun e2 => by
    obtain ⟨h1, h2, h3⟩ := oV hq.1 hq.2.1 hq.2.2 hw.1 hw.2.1 hw.2.2 e2
    exact e ⟨h1.symm, h2.symm, h3.symm⟩
   rw [atKey_del_other hne, h.at_ q b m hq]
   unfold nI
   rw [LM e]
 has_ := fun q b m hq => by
  by_cases e : p = q ∧ a = b ∧ l = m
  ·obtain ⟨rfl, rfl, rfl⟩ := e
   rw [has_del_same]
   symm
   rw [List.any_eq_false]
   intro x hx h2
   have := (List.mem_filter.1 hx).2
   rw [h2] at this
   cases this
  ·have hne : dU q b m ≠ dU p a l := fun e2 => by
    obtain ⟨h1, h2, h3⟩ := oV hq.1 hq.2.1 hq.2.2 hw.1 hw.2.1 hw.2.2 e2
    exact e ⟨h1.symm, h2.symm, h3.symm⟩
   rw [has_del_other hne, h.has_ q b m hq]
   symm
   exact any_filter_keep (fun x hx => by
    rw [eV] at hx
    cases c : keyB p a l x
    ·rfl
    ·rw [eV, hx] at c
     simp only [Prod.mk.injEq] at c
     exact absurd ⟨c.1.symm, c.2.1.symm, c.2.2.symm⟩ e) L
 only := fun kl h1 => by
  by_cases e : kl = dU p a l
  ·rw [e, has_del_same] at h1
   cases h1
  ·rw [has_del_other e] at h1
   obtain ⟨x, hx, h2⟩ := h.only kl h1
   refine ⟨x, List.mem_filter.2 ⟨hx, ?_⟩, h2⟩
   cases c : keyB p a l x
   ·rfl
   ·rw [eV] at c
    rw [c] at h2
    exact absurd h2 e
 wfs := fun x hx => h.wfs x (List.mem_filter.1 hx).1
theorem PF (w : World) : (zeroValue 3).run Tryz.prog w = .ok (.int .i64 0) w := by kernel_rfl
theorem mT {Q : Act → Prop} (x y : Operand) (b n : Nat) (D : DataW Unit) (p a l c : Int) (hop : o.op = .lookup 99 x y false) (hg : Region.wanted o (yielded ops A.tmps) = true)
  (hx : A.eval x = .map (some b)) (hy : A.eval y = IZ p a l) (hC : ∀ w, C w → w.ownsMap Tryz.prog 102 (plainElem Tryz.prog 3) b n D) (hw : C4 p a l) (hat : D.atKey (dU p a l) (.lit (.int .i64 0)) = .lit (.int .i64 c))
  (h : wpQuiet Tryz.prog ops C Q rest (A.put o.dst (.int .i64 c))) : wpQuiet Tryz.prog ops C Q (o :: rest) A := by
 unfold wpQuiet
 rw [if_pos hg]
 refine ⟨_, fun w hw' => ?_, h⟩
 obtain ⟨c', hrun, hat', -⟩ := (hC w hw').lookup_int mA mS under_int (PF w) (oU hw.1 hw.2.1 hw.2.2)
 have e : c' = c := by
  rw [hat] at hat'
  cases hat'
  rfl
 subst e
 unfold Oper.quietAt execOp
 rw [hop]
 simp only [hx, hy, Sem.run_bind, hrun, Result.andThen_ok, Sem.run_pure]
 exact ⟨rfl, rfl⟩
def UL (ps : List Po) (i a l o : Int) : Prop := ∃ p ∈ ps, p.id = i ∧ ∃ e ∈ p.ls, e.kd = 1 ∧ e.a = a ∧ e.l = l ∧ e.ow = o
theorem I2 (h : fD ps qs) (hls : ∀ k, k < ps.length → ∀ e : Le, e.kd = 1 → (e ∈ (poAt qs k).ls ↔ e ∈ (poAt ps k).ls)) {i a l o : Int} : UL qs i a l o ↔ UL ps i a l o := by
 constructor
 ·rintro ⟨p, hp, h1, e, he, h2, h3⟩
  obtain ⟨k, hk, rfl⟩ := bJ hp
  have hk2 : k < ps.length := by rw [h.1]; exact hk
  exact ⟨_, poAt_mem hk2, (h.2 k hk2).1.trans h1, e, (hls k hk2 e h2).1 he, h2, h3⟩
 ·rintro ⟨p, hp, h1, e, he, h2, h3⟩
  obtain ⟨k, hk, rfl⟩ := bJ hp
  exact ⟨_, poAt_mem (by rw [← h.1]; exact hk), (h.2 k hk).1.symm.trans h1, e, (hls k hk e h2).2 he, h2, h3⟩
theorem CV (h : cT ps qs) {i a l o : Int} : UL qs i a l o ↔ UL ps i a l o :=
 I2 ⟨h.1, fun k hk => (h.2 k hk).head⟩ (fun k hk e _ => by rw [(h.2 k hk).2.2.2.2.2.2.2.2.2])
theorem PG {e : Po} {rs : List Po} (he : e.ls = []) (h : jB e qs rs) {i a l o : Int} : UL rs i a l o ↔ UL qs i a l o := by
 obtain ⟨k, hk, -, -, rfl⟩ := h
 constructor
 ·rintro ⟨p, hp, h1, g, hg, h2⟩
  rcases kW.1 hp with rfl | hp
  ·rw [he] at hg
   exact absurd hg (by simp)
  ·exact ⟨p, hp, h1, g, hg, h2⟩
 ·rintro ⟨p, hp, h1⟩
  exact ⟨p, kW.2 (.inr hp), h1⟩
theorem Q4 {rs : List Po} {id mn mx us co : Int} (hs : cT ps qs) (hp : jB ⟨id, 0, a, l, mn, mx, us, co, none, 0, 0, []⟩ qs rs) {i b m o : Int} : UL rs i b m o ↔ UL ps i b m o := by
 rw [PG rfl hp, CV hs]
theorem pV {e x : Le} {ls : List Le} (h : iM e ls ls') : x ∈ ls' ↔ x = e ∨ x ∈ ls := by
 obtain ⟨k, hk, -, -, rfl⟩ := h
 exact kW
theorem Q5 {rs : List Po} {e : Po} (he : e.ls = []) (hup : ¬ aN ps up < 0) (hN : tX ps e up rs) {i b m o : Int} : UL rs i b m o ↔ UL ps i b m o := by
 obtain ⟨qs, ms, x', c', ls', hs, hput, hle, rfl⟩ := hN
 rw [← CV hs, ← PG he hput]
 have hat : ¬ aN ms up < 0 := fun h => by
  obtain ⟨k, hk, -, hid⟩ := aR hup
  have hk2 : k < qs.length := by rw [← hs.1]; exact hk
  obtain ⟨j, hj, -, -, hm⟩ := hput
  have hmem : poAt qs k ∈ ms := by rw [hm]; exact kW.2 (.inr (poAt_mem hk2))
  obtain ⟨q, hq, e⟩ := bJ hmem
  exact gT h q hq (by rw [e, ← (hs.2 k hk).1]; exact hid)
 obtain ⟨k, hk, hatk, -⟩ := aR hat
 rw [hatk, Int.toNat_natCast] at hle ⊢
 have hset : ∀ j, poAt (ms.set k (aQ (poAt ms k) x' ls'.length c' ls')) j = if k = j then aQ (poAt ms k) x' ls'.length c' ls' else poAt ms j := fun j => dD hk
 refine I2 ⟨by rw [List.length_set], fun j hj => ?_⟩ (fun j hj x hx => ?_)
 ·rw [hset]
  split
  ·rename_i e
   rw [← e]
   exact ⟨rfl, rfl, rfl, rfl, rfl, rfl, rfl, rfl⟩
  ·exact ⟨rfl, rfl, rfl, rfl, rfl, rfl, rfl, rfl⟩
 ·rw [hset]
  split
  ·rename_i e
   rw [← e]
   show x ∈ ls' ↔ _
   rw [pV hle]
   exact ⟨fun h => h.resolve_left (fun h => by rw [h] at hx; exact absurd (show (2 : Int) = 1 from hx) (by decide)), .inr⟩
  ·exact Iff.rfl
theorem Q6 {m : Int} {rs : List Po} (hc : aS t ps = 0) (hf : cC ps) (hm : 1 ≤ m) (hm1 : t + m ≤ 1073741824) (hs : cT ps qs) (hp : jX (t + m) qs qs.length rs) {i b k o : Int} : UL rs i b k o ↔ UL ps i b k o := by
 obtain ⟨-, hH, -, hls⟩ := xV hc hf hm hm1 hs hp
 refine I2 hH (fun j hj e he => ?_)
 rw [hls j hj]
 unfold jD mL
 rw [List.mem_filter]
 exact ⟨fun h => h.1, fun h => ⟨h, by rw [he]; rfl⟩⟩
theorem Q7 (hF : cC ps) (hi : i < ps.length) (hs : cT ps qs) (hput : iM ⟨a, l, 1, ow, 0⟩ (poAt ps i).ls ls') {j b m o : Int} :
  UL (qs.set i (aQ (poAt qs i) x' ls'.length c' ls')) j b m o ↔ UL ps j b m o ∨ (j = (poAt ps i).id ∧ b = a ∧ m = l ∧ o = ow) := by
 obtain ⟨hH, -, hls⟩ := lS (x' := x') (c' := c') (ls' := ls') hs hF hi
 constructor
 ·rintro ⟨p, hp, h1, e, he, h2, h3⟩
  obtain ⟨k, hk, rfl⟩ := bJ hp
  have hk2 : k < ps.length := by rw [hH.1]; exact hk
  rw [hls k hk2] at he
  have hid := (hH.2 k hk2).1
  split at he
  ·rename_i e'
   subst e'
   rcases (pV hput).1 he with rfl | he
   ·exact .inr ⟨by rw [hid]; exact h1.symm, h3.1.symm, h3.2.1.symm, h3.2.2.symm⟩
   ·exact .inl ⟨_, poAt_mem hi, hid.trans h1, e, he, h2, h3⟩
  ·exact .inl ⟨_, poAt_mem hk2, hid.trans h1, e, he, h2, h3⟩
 ·rintro (⟨p, hp, h1, e, he, h2, h3⟩ | ⟨rfl, rfl, rfl, rfl⟩)
  ·obtain ⟨k, hk, rfl⟩ := bJ hp
   refine ⟨_, poAt_mem (i := k) (by rw [← hH.1]; exact hk), (hH.2 k hk).1.symm.trans h1, e, ?_, h2, h3⟩
   rw [hls k hk]
   split
   ·rename_i e'
    subst e'
    exact (pV hput).2 (.inr he)
   ·exact he
  ·refine ⟨_, poAt_mem (i := i) (by rw [← hH.1]; exact hi), (hH.2 i hi).1.symm, ⟨b, m, 1, o, 0⟩, ?_, rfl, rfl, rfl, rfl⟩
   rw [hls i hi, if_pos rfl]
   exact (pV hput).2 (.inl rfl)
theorem Q8 (hF : cC ps) (hi : i < ps.length) (hj : j < (poAt ps i).ls.length) (hk : (aM (poAt ps i).ls j).kd ≠ 1) (hs : cT ps qs) :
  fD ps (qs.set i (aQ (poAt qs i) x' (cD (poAt ps i) j t).length c' (cD (poAt ps i) j t))) ∧ ∀ n, n < ps.length → ∀ e : Le, e.kd = 1 → (e ∈ (poAt (qs.set i (aQ (poAt qs i) x' (cD (poAt ps i) j t).length c' (cD (poAt ps i) j t))) n).ls ↔ e ∈ (poAt ps n).ls) := by
 obtain ⟨hH, -, hls⟩ := lS (x' := x') (c' := c') (ls' := cD (poAt ps i) j t) hs hF hi
 refine ⟨hH, fun n hn e he => ?_⟩
 rw [hls n hn]
 split
 ·rename_i e'
  subst e'
  constructor
  ·intro h
   rcases cool_mem hj h with ⟨q, -, hq, rfl⟩ | ⟨-, rfl⟩
   ·exact eR hq
   ·exact absurd (show (3 : Int) = 1 from he) (by decide)
  ·intro h
   obtain ⟨q, hq, rfl⟩ := iP h
   exact sI hj hq (fun c => hk (by rw [← c]; exact he))
 ·exact Iff.rfl
theorem PH {rs : List Po} {id : Int} (hF : cC ps) (hE : gU t ps id = 0) (hR : oD t ps id t' rs) {k b m o : Int} : UL rs k b m o ↔ UL ps k b m o := by
 obtain ⟨-, qs, hA, hC, hrs⟩ := hR
 unfold gU at hE
 by_cases c0' : aS t ps ≠ 0
 ·rw [if_pos c0'] at hE
  exact absurd hE c0'
 have c0 : aS t ps = 0 := Classical.not_not.1 c0'
 rw [if_neg c0'] at hE
 by_cases c1 : aN ps id < 0
 ·rw [if_pos c1] at hE; omega
 rw [if_neg c1] at hE
 obtain ⟨i, hi, hat, hid⟩ := aR c1
 rw [hat, Int.toNat_natCast] at hE hrs hA hC
 by_cases c2 : aK (poAt ps i).n (qG (poAt ps i).ls) = true
 ·rw [if_pos c2] at hE; omega
 have hB := jZ hF c0
 have hno : ∀ e ∈ (poAt ps i).ls, e.kd = 3 := fun e he => by
  obtain ⟨k, hk, rfl⟩ := iP he
  by_cases c : (aM (poAt ps i).ls k).kd = 3
  ·exact c
  ·exact absurd (aT (k := k) (by rw [← hF i hi]; exact hk) (by unfold qG; simp [c])) c2
 have hq : fD ps qs ∧ ∀ n, n < ps.length → ∀ e : Le, e.kd = 1 → (e ∈ (poAt qs n).ls ↔ e ∈ (poAt ps n).ls) := by
  by_cases c3 : aN ps (poAt ps i).up < 0
  ·have hs := hA c3
   exact ⟨⟨hs.1, fun n hn => (hs.2 n hn).head⟩, fun n hn e _ => by rw [(hs.2 n hn).2.2.2.2.2.2.2.2.2]⟩
  ·obtain ⟨k0, hk0, hat0, hid0⟩ := aR c3
   obtain ⟨us, x', c', hs, hqs⟩ := hC k0 hat0
   have hup : (poAt ps i).up ≠ 0 := fun e => by
    have := hB.idw _ (poAt_mem hk0)
    rw [hid0, e] at this
    exact absurd this (by decide)
   have hany : aK (poAt ps k0).n (fN (poAt ps k0).ls (poAt ps i).id) = true := by
    obtain ⟨f, hf⟩ := hB.ups _ (poAt_mem hi)
    cases f with
    | zero => unfold lH at hf; cases hf
    | succ f =>
     rcases (up_step hF hB.rise).1 hf with h | ⟨q, hq, h1, h2, -⟩
     ·exact absurd h hup
     ·obtain rfl := CB hB.rise hq (poAt_mem hk0) (h1.trans hid0.symm)
      exact (kV (hF k0 hk0)).2 h2
   rcases firstAt_any (n := (poAt ps k0).n) (f := fN (poAt ps k0).ls (poAt ps i).id) with ⟨-, j, hj, hfj, -, hfa⟩ | ⟨h, -⟩
   ·rw [hfa, Int.toNat_natCast] at hqs
    unfold fN at hfj
    simp only [Bool.and_eq_true, beq_iff_eq] at hfj
    rw [hqs]
    exact Q8 hF hk0 (by rw [hF k0 hk0]; exact hj) (by rw [hfj.1]; decide) hs
   ·rw [hany] at h
    cases h
 have hiq : i < qs.length := by rw [← hq.1.1]; exact hi
 rw [← I2 hq.1 hq.2, hrs]
 constructor
 ·rintro ⟨p, hp, h1⟩
  exact ⟨p, pM.subset hp, h1⟩
 ·rintro ⟨p, hp, h1, e, he, h2, h3⟩
  obtain ⟨n, hn, rfl⟩ := bJ hp
  refine ⟨_, (CE hiq).2 ⟨n, hn, fun c => ?_, rfl⟩, h1, e, he, h2, h3⟩
  subst c
  have := hno e ((hq.2 n hi e h2).1 he)
  omega
theorem I3 {rs : List Po} {id : Int} (hF : cC ps) (hE : jC t ps id a l = 0) (hR : vC t ps id a l t' rs) {k b m o : Int} : UL rs k b m o ↔ UL ps k b m o ∧ ¬ (k = id ∧ b = a ∧ m = l) := by
 obtain ⟨-, qs, x', c', hs, hrs⟩ := hR
 unfold jC at hE
 by_cases c0' : aS t ps ≠ 0
 ·rw [if_pos c0'] at hE
  exact absurd hE c0'
 have c0 : aS t ps = 0 := Classical.not_not.1 c0'
 rw [if_neg c0'] at hE
 by_cases c1 : aN ps id < 0
 ·rw [if_pos c1] at hE; omega
 rw [if_neg c1] at hE
 obtain ⟨i, hi, hat, hid⟩ := aR c1
 rw [hat, Int.toNat_natCast] at hE hrs
 by_cases c2 : bM (poAt ps i).n (tW (poAt ps i).ls a l) < 0
 ·rw [if_pos c2] at hE; omega
 obtain ⟨j, hj, hfa, hu⟩ := iF c2
 rw [hfa, Int.toNat_natCast] at hrs
 have hjl : j < (poAt ps i).ls.length := by rw [hF i hi]; exact hj
 unfold tW at hu
 simp only [Bool.and_eq_true, beq_iff_eq, decide_eq_true_eq] at hu
 obtain ⟨hH, -, hls⟩ := lS (x' := x') (c' := c') (ls' := cD (poAt ps i) j t) hs hF hi
 rw [← hrs] at hH hls
 have hB := jZ hF c0
 constructor
 ·rintro ⟨p, hp, h1, e, he, h2, h3⟩
  obtain ⟨n, hn, rfl⟩ := bJ hp
  have hn2 : n < ps.length := by rw [hH.1]; exact hn
  have hid2 := (hH.2 n hn2).1
  rw [hls n hn2] at he
  split at he
  ·rename_i e'
   subst e'
   rcases cool_mem hjl he with ⟨q, hqj, hq, rfl⟩ | ⟨-, rfl⟩
   ·refine ⟨⟨_, poAt_mem hi, hid2.trans h1, _, eR hq, h2, h3⟩, fun ⟨_, g2, _⟩ => hqj ?_⟩
    exact NM (hB.used _ (poAt_mem hi)) hq hjl (by rw [h3.1, g2, hu.2.1])
   ·exact absurd (show (3 : Int) = 1 from h2) (by decide)
  ·rename_i hne
   refine ⟨⟨_, poAt_mem hn2, hid2.trans h1, e, he, h2, h3⟩, fun ⟨g1, _⟩ => hne ?_⟩
   exact GW hB.rise hi hn2 (by rw [hid, hid2, h1, g1])
 ·rintro ⟨⟨p, hp, h1, e, he, h2, h3⟩, hno⟩
  obtain ⟨n, hn, rfl⟩ := bJ hp
  refine ⟨_, poAt_mem (i := n) (by rw [← hH.1]; exact hn), (hH.2 n hn).1.symm.trans h1, e, ?_, h2, h3⟩
  rw [hls n hn]
  split
  ·rename_i e'
   subst e'
   obtain ⟨q, hq, rfl⟩ := iP he
   refine sI hjl hq (fun c => hno ?_)
   rw [c] at h3
   exact ⟨h1.symm.trans hid, h3.1.symm.trans hu.2.1, h3.2.1.symm.trans hu.2.2⟩
  ·exact he
theorem mB {id : Int} {ls : List Le} : x ∈ gD id ls ↔ ∃ e ∈ ls, e.kd = 1 ∧ x = ((id, e.a, e.l), e.ow) := by
 unfold gD
 rw [List.mem_reverse, List.mem_map]
 constructor
 ·rintro ⟨e, he, rfl⟩
  obtain ⟨h1, h2⟩ := List.mem_filter.1 he
  exact ⟨e, h1, by simpa using h2, rfl⟩
 ·rintro ⟨e, he, h1, rfl⟩
  exact ⟨e, List.mem_filter.2 ⟨he, by simpa using h1⟩, rfl⟩
theorem hZ {i o : Int} : ((i, a, l), o) ∈ bT ps ↔ UL ps i a l o := by
 unfold bT UL
 rw [List.mem_flatMap]
 constructor
 ·rintro ⟨p, hp, hx⟩
  obtain ⟨e, he, h1, h2⟩ := mB.1 hx
  simp only [Prod.mk.injEq] at h2
  exact ⟨p, List.mem_reverse.1 hp, h2.1.1.symm, e, he, h1, h2.1.2.1.symm, h2.1.2.2.symm, h2.2.symm⟩
 ·rintro ⟨p, hp, rfl, e, he, h1, rfl, rfl, rfl⟩
  exact ⟨p, List.mem_reverse.2 hp, mB.2 ⟨e, he, h1, rfl⟩⟩
theorem LO {id : Int} {ls : List Le} (h : nE (lp ls) a l) : (gD id ls).Pairwise fun x y => x.1 ≠ y.1 := by
 have hr := h.rise
 unfold lp at hr
 rw [List.pairwise_map] at hr
 unfold gD
 rw [List.pairwise_reverse, List.pairwise_map]
 refine (hr.filter _).imp fun {x y} hxy e => ?_
 simp only [Prod.mk.injEq] at e
 have := cG x.l
 simp only at hxy
 omega
theorem tH (h : RB t ps) : zE (bT ps) := by
 refine ⟨?_, fun x hx => ?_⟩
 ·unfold bT
  rw [List.pairwise_flatMap]
  refine ⟨fun p hp => LO (h.used p (List.mem_reverse.1 hp)), ?_⟩
  rw [List.pairwise_reverse]
  refine h.rise.imp fun {p q} hpq x hx y hy e => ?_
  obtain ⟨e1, -, -, rfl⟩ := mB.1 hx
  obtain ⟨e2, -, -, rfl⟩ := mB.1 hy
  simp only [Prod.mk.injEq] at e
  omega
 ·unfold bT at hx
  obtain ⟨p, hp, hx⟩ := List.mem_flatMap.1 hx
  obtain ⟨e, he, h1, rfl⟩ := mB.1 hx
  intro e0
  simp only at e0
  rcases h.les p (List.mem_reverse.1 hp) e he with g | g | g
  ·have := g.2.1
   rw [e0] at this
   exact absurd this (by decide)
  ·omega
  ·omega
def tK (ps : List Po) (vs : List (Int × List (Int × Int × Int))) : Prop := ∀ v ∈ vs, ∀ i a l, UL ps i a l v.1 ↔ (i, a, l) ∈ v.2
theorem Q9 (h : RB t ps) (hv : ∀ v ∈ vs, v.1 ≠ 0 ∧ v.2.Nodup) (hp : vs.Pairwise fun u v => u.1 ≠ v.1) : FL (bT ps) vs = true ↔ tK ps vs := by
 rw [I1 vs _ (tH h) hv hp]
 constructor
 ·intro g v hv i a l
  rw [← hZ]
  exact g v hv (i, a, l)
 ·rintro g v hv ⟨i, a, l⟩
  rw [hZ]
  exact g v hv i a l
theorem tK.same (h : tK ps vs) (hu : ∀ i a l o, UL qs i a l o ↔ UL ps i a l o) : tK qs vs := fun v hv i a l => (hu i a l v.1).trans (h v hv i a l)
theorem tK.turn (h : tK ps vs) (hN : ∀ x ∈ us, ∃ v ∈ vs, v.1 = x.1 ∧ ∀ k, k ∈ x.2 ↔ k ∈ v.2) : tK ps us := fun x hx i a l => by
 obtain ⟨v, hv, e, hk⟩ := hN x hx
 rw [← e, h v hv, hk]
theorem tK.take (h : tK ps vs) (hu : ∀ i a l o, UL qs i a l o ↔ UL ps i a l o ∨ (i = i0 ∧ a = a0 ∧ l = l0 ∧ o = ow)) (hno : ∀ v ∈ vs, v.1 ≠ ow) : tK qs vs := fun v hv i a l => by
 rw [hu, ← h v hv]
 exact ⟨fun g => g.resolve_right fun g => hno v hv g.2.2.2, .inl⟩
theorem tK.give (h : tK ps vs) (hu : ∀ i a l o, UL qs i a l o ↔ UL ps i a l o ∧ ¬ (i = i0 ∧ a = a0 ∧ l = l0)) (hno : ∀ v ∈ vs, ¬ UL ps i0 a0 l0 v.1) : tK qs vs := fun v hv i a l => by
 rw [hu, ← h v hv]
 refine ⟨fun g => g.1, fun g => ⟨g, ?_⟩⟩
 rintro ⟨rfl, rfl, rfl⟩
 exact hno v hv g
theorem tK.make {id : Int} (h : tK ps vs) (hN : ∀ x, x ∈ us ↔ x = (id, []) ∨ x ∈ vs) (hno : ∀ i a l, ¬ UL ps i a l id) : tK ps us := fun x hx i a l => by
 rcases (hN x).1 hx with rfl | hx
 ·exact ⟨fun g => absurd g (hno i a l), fun g => absurd g (by simp)⟩
 ·exact h x hx i a l
theorem tK.grow {id : Int} (h : tK ps vs) (hu : ∀ i a l o, UL qs i a l o ↔ UL ps i a l o ∨ (i = i0 ∧ a = a0 ∧ l = l0 ∧ o = id))
  (hN : ∀ x ∈ us, ∃ v ∈ vs, v.1 = x.1 ∧ ∀ k, k ∈ x.2 ↔ k ∈ v.2 ∨ (x.1 = id ∧ k = (i0, a0, l0))) : tK qs us := fun x hx i a l => by
 obtain ⟨v, hv, e, hk⟩ := hN x hx
 rw [hu, hk, ← h v hv, e]
 simp only [Prod.mk.injEq]
 constructor
 ·rintro (g | ⟨g1, g2, g3, g4⟩)
  ·exact .inl g
  ·exact .inr ⟨g4, g1, g2, g3⟩
 ·rintro (g | ⟨g4, g1, g2, g3⟩)
  ·exact .inl g
  ·exact .inr ⟨g1, g2, g3, g4⟩
theorem TL (h : RB t ps) {i a l o u : Int} (h1 : UL ps i a l o) (h2 : UL ps i a l u) : o = u := by
 have := (tH h).eq (hZ.2 h1) (hZ.2 h2) rfl
 simpa using this
theorem tK.drop {id : Int} (hB : RB t ps) (h : tK ps vs) (hh : UL ps i0 a0 l0 id) (hu : ∀ i a l o, UL qs i a l o ↔ UL ps i a l o ∧ ¬ (i = i0 ∧ a = a0 ∧ l = l0))
  (hN : ∀ x ∈ us, ∃ v ∈ vs, v.1 = x.1 ∧ ∀ k, k ∈ x.2 ↔ k ∈ v.2 ∧ ¬ (x.1 = id ∧ k = (i0, a0, l0))) : tK qs us := fun x hx i a l => by
 obtain ⟨v, hv, e, hk⟩ := hN x hx
 rw [hu, hk, ← h v hv, e]
 simp only [Prod.mk.injEq]
 constructor
 ·rintro ⟨g1, g2⟩
  exact ⟨g1, fun g => g2 g.2⟩
 ·rintro ⟨g1, g2⟩
  refine ⟨g1, ?_⟩
  rintro ⟨rfl, rfl, rfl⟩
  exact g2 ⟨TL hB g1 hh, rfl, rfl, rfl⟩
end Go.Proofs.YtndpilfpejfloaaGreat
