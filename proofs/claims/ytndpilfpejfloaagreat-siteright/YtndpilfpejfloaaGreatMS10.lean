/- A part of the proof. -/
import Derived.Test.YtndpilfpejfloaaGreatMS09
set_option maxRecDepth 100000
set_option maxHeartbeats 3200000
namespace Go.Proofs.YtndpilfpejfloaaGreat
variable {w w' W W' : World} {v : Vn} {i base base' n c ln lc o g cap rn sn j k : Nat} {us : List Vn} {ms ls fs : List (Int × Int)} {vV vK V u : Value} {E b vid eg a : Int} {t : TypeId} {x lx : Option Addr} {cs : Array Value} {p q : Int × Int} {f : Nat → Bool} {rs rs' : List Rg} {ss ts : List Sb} {r : Rg} {e : Ending} {gs : List Fc} {ns : List Int}
open Go.RowKit Go.Shelf
def lE (w : World) (v : Vn) : Prop := v.rn ≤ 9223372036854775807 ∧ v.sn ≤ 9223372036854775807 ∧ v.rc ≤ 9223372036854775807 ∧ Vp w v.rx v.rn v.rc v.rs v.sx v.sn v.sc v.ss
theorem lE.later (h : lE w v) (hb : Below w.heap.size w w') : lE w' v := ⟨h.1, h.2.1, h.2.2.1, h.2.2.2.later hb⟩
def newV (id : Int) : Vn := ⟨id, none, 0, 0, [], none, 0, 0, []⟩
theorem bS {vs : List Vn} (h : i < vs.length) : vnAt vs i ∈ vs := by
 rw [eT h]
 exact List.getElem_mem h
theorem dF {vs : List Vn} (h : v ∈ vs) : ∃ i, i < vs.length ∧ vnAt vs i = v := by
 obtain ⟨i, hi, rfl⟩ := List.getElem_of_mem h
 exact ⟨i, hi, eT hi⟩
theorem bX.vs {v : Value} (h : bX w base v us) (hv : ∀ u ∈ us, lE w u) : ∃ X C, v = .slice X us.length C ∧ VS w X us.length us ∧ us.length ≤ C ∧ C ≤ 9223372036854775807 ∧ ((X = none ∧ C = 0) ∨ ∃ b o, X = some ⟨b, o, none⟩) := by
 obtain ⟨X, C, e, h1, h2, h3, h4⟩ := h.mem
 refine ⟨X, C, e, ⟨rfl, h4, fun i hi => hv _ (bS hi)⟩, h1, h2, ?_⟩
 rcases h.2 with ⟨e1, e2⟩ | ⟨g, cap, cur, e1, -⟩
 ·rw [e] at e1
  simp only [Value.slice.injEq] at e1
  exact .inl ⟨e1.1, e1.2.2⟩
 ·rw [e] at e1
  simp only [Value.slice.injEq] at e1
  exact .inr ⟨g, 0, e1.1⟩
theorem bU.ps {v : Value} (h : bU w base v ms) : ∃ X C, v = .slice X ms.length C ∧ PS w X ms.length ms ∧ ms.length ≤ C ∧ C ≤ 9223372036854775807 ∧ ((X = none ∧ C = 0) ∨ ∃ b o, X = some ⟨b, o, none⟩) := by
 obtain ⟨X, C, e, h1, h2, h3, h4⟩ := h.mem
 refine ⟨X, C, e, ⟨rfl, h4⟩, h1, h2, ?_⟩
 rcases h.2 with ⟨e1, e2⟩ | ⟨g, cap, cur, e1, -⟩
 ·rw [e] at e1
  simp only [Value.slice.injEq] at e1
  exact .inl ⟨e1.1, e1.2.2⟩
 ·rw [e] at e1
  simp only [Value.slice.injEq] at e1
  exact .inr ⟨g, 0, e1.1⟩
def NN (w : World) (V : Value) (us : List Vn) (ms : List (Int × Int)) : Prop :=
 ∃ X C LX LC, V = .agg #[.slice X us.length C, .slice LX ms.length LC] ∧ VS w X us.length us ∧ PS w LX ms.length ms ∧ us.length ≤ C ∧ C ≤ 9223372036854775807 ∧ ms.length ≤ LC ∧ LC ≤ 9223372036854775807
theorem NN.of (h : bX w base vV us) (hv : ∀ u ∈ us, lE w u) (g : bU w base' vK ms) : NN w (.agg #[vV, vK]) us ms := by
 obtain ⟨X, C, rfl, h1, h2, h3, -⟩ := h.vs hv
 obtain ⟨Y, D, rfl, g1, g2, g3, -⟩ := g.ps
 exact ⟨X, C, Y, D, rfl, h1, g1, h2, h3, g2, g3⟩
theorem QZ (w : World) (base : Nat) (id : Int) : mD w base (newV id) := ⟨World.ownsRow_nil _ _ _ _, jE.nil w base⟩
def NO (w : World) (base : Nat) (V : Value) (us : List Vn) (ms : List (Int × Int)) : Prop := ∃ vV vK, V = .agg #[vV, vK] ∧ bX w base vV us ∧ (∀ u ∈ us, mD w base u) ∧ bU w base vK ms
theorem NO.of {b1 b2 b3 : Nat} (h : bX w b1 vV us) (h1 : base ≤ b1) (hv : ∀ u ∈ us, mD w b2 u) (h2 : base ≤ b2) (g : bU w b3 vK ms) (h3 : base ≤ b3) : NO w base (.agg #[vV, vK]) us ms :=
 ⟨vV, vK, rfl, h.low h1, fun u hu => (hv u hu).low h2, g.low h3⟩
theorem NO.nn (h : NO w base V us ms) : NN w V us ms := by
 obtain ⟨vV, vK, rfl, h1, h2, h3⟩ := h
 exact NN.of h1 (fun u hu => (h2 u hu).vp) h3
def dG (E : Int) (R : List Vn → List (Int × Int) → Prop) (w : World) (e : Ending) (w' : World) : Prop :=
 ∃ V, e = .returned (.tuple #[V, .int .i64 E]) ∧ Below w.heap.size w w' ∧ (E ≠ 0 → V = .agg #[.slice none 0 0, .slice none 0 0]) ∧ (E = 0 → ∃ us ms, NO w' w.heap.size V us ms ∧ R us ms)
theorem dG.err {t : Int} {R : List Vn → List (Int × Int) → Prop} (hE : E = t ∧ t ≠ 0) (hb : Below w.heap.size w w') : dG E R w (.returned (.tuple #[.agg #[.slice none 0 0, .slice none 0 0], .int .i64 t])) w' :=
 ⟨_, by rw [hE.1], hb, fun _ => rfl, fun h => absurd (hE.1.symm.trans h) hE.2⟩
theorem dG.ok {R : List Vn → List (Int × Int) → Prop} (hE : E = 0) (hb : Below w.heap.size w w') (h : NO w' w.heap.size V us ms) (hR : R us ms) : dG E R w (.returned (.tuple #[V, .int .i64 0])) w' :=
 ⟨V, by rw [hE], hb, fun h => absurd hE h, fun _ => ⟨us, ms, h, hR⟩⟩
structure TM (w W : World) (x : Option Addr) (n c : Nat) (lx : Option Addr) (ln lc : Nat) : Prop where
 hb : W.heap[w.heap.size]? = some (nH x n c lx ln lc)
 hs : W.heap[w.heap.size + 1]? = some (dZ (.slice none 0 0) (.slice none 0 0))
 below : Below w.heap.size w W
theorem TM.later (h : TM w W x n c lx ln lc) (hb : Below W.heap.size W W') : TM w W' x n c lx ln lc :=
 ⟨aB hb h.hb, aB hb h.hs, h.below.trans (hb.mono h.below.size)⟩
theorem rN {vs : List Vn} (h : bE n vs ln ls = 0) : n ≤ 6 ∧ ln ≤ 12 ∧ ∀ i, i < n → TJ (vnAt vs i) := by
 obtain ⟨h6, h12, hv, -, -⟩ := dW h
 refine ⟨h6, h12, fun i hi => ?_⟩
 obtain ⟨f1, f2, f3, f4⟩ := cA (lW hv i hi)
 exact ⟨by omega, by omega, fun i hi => by have := f3 i hi; omega, fun i hi j hj => by have := f4 i hi j hj; omega⟩
theorem bX.putBox {b : Nat} {v : Value} {vs : List Vn} (h : bX w base v vs) (hb : w.heap[b]? = some (.cells cs t)) (h1 : t ≠ 41) : bX (w.setCell ⟨b, o, none⟩ u) base v vs :=
 h.kept (aJ _ _ _ _) (fun k hk e => by subst e; exact h.ne hb h1 hk)
theorem bU.putBox {b : Nat} {v : Value} (h : bU w base v ls) (hb : w.heap[b]? = some (.cells cs t)) (h1 : t ≠ 93) : bU (w.setCell ⟨b, o, none⟩ u) base v ls :=
 h.kept (aJ _ _ _ _) (fun k hk e => by subst e; exact h.ne hb h1 hk)
theorem lE.of (h : mD w base v) : lE w v := h.vp
def iR (n : Nat) (vs : List Vn) (ln : Nat) (ls : List (Int × Int)) (id : Int) : Int :=
 if bE n vs ln ls = 0 then (if dH id 1 65536 = false then 3 else if 0 ≤ aG n vs id then 6 else if n = 6 then 2 else 0) else bE n vs ln ls
def ON (id : Int) (vs us : List Vn) : Prop := ∃ us0 i, cI vs us0 ∧ i ≤ us0.length ∧ (∀ j, j < i → ¬ id < (vnAt us0 j).id) ∧ (i < us0.length → id < (vnAt us0 i).id) ∧ us = us0.take i ++ [newV id] ++ us0.drop i
def FA (vs : List Vn) (ls : List (Int × Int)) (id : Int) (us : List Vn) (ms : List (Int × Int)) : Prop := ON id vs us ∧ ms = ls
theorem OO (x : Option Addr) (n c : Nat) (vs : List Vn) (lx : Option Addr) (ln lc : Nat) (ls : List (Int × Int)) (id : Int) (w : World) (hp : VS w x n vs) (hn : n ≤ 9223372036854775807) (hnc : n ≤ c) (hl : PS w lx ln ls) (hln : ln ≤ 9223372036854775807) :
  Calls Tryz.prog 97 #[.agg #[.slice x n c, .slice lx ln lc], .int .i64 id] w (dG (iR n vs ln ls id) (FA vs ls id) w) := by
 have hvl : Hid (vs.length = n) := hp.len
 have hE : Hid (iR n vs ln ls id = if bE n vs ln ls = 0 then (if dH id 1 65536 = false then 3 else if 0 ≤ aG n vs id then 6 else if n = 6 then 2 else 0) else bE n vs ln ls) := rfl
 go_enter Tryz.func97, Tryz.ntmps97
 go_upto_region 1 with fail
 obtain ⟨w0, hw0⟩ : ∃ w0, w0 = (w.alloc (nH x n c lx ln lc)).alloc (dZ (.slice none 0 0) (.slice none 0 0)) := ⟨_, rfl⟩
 rw [← hw0]
 have hT0 : TM w w0 x n c lx ln lc := by
  rw [hw0]
  exact ⟨aF _ (aC _ rfl), aC _ (by simp), cB w _ _⟩
 clear hw0
 obtain ⟨k0, k1⟩ := aO hT0.hb rfl rfl
 obtain ⟨ks0, ks1⟩ := aO hT0.hs rfl rfl
 obtain ⟨kz0, kz1⟩ := cH hT0.hs
 by_cases hc0 : bE n vs ln ls = 0
 ·have hck := fL x n c vs lx ln lc ls 0 hc0 w0 (hp.later hT0.below) hn hnc (hl.later hT0.below) hln
  obtain ⟨h6, h12, hfew⟩ := rN hc0
  have hE1 : Hid (iR n vs ln ls id = if dH id 1 65536 = false then 3 else if 0 ≤ aG n vs id then 6 else if n = 6 then 2 else 0) := hE.out.trans (if_pos hc0)
  clear hc0 hE
  go_wp2_with fail
  refine hck.mono ?_
  rintro e w1 ⟨rfl, hb⟩
  have hT1 := hT0.later hb
  clear k0 k1 ks0 ks1 kz0 kz1
  obtain ⟨k0, k1⟩ := aO hT1.hb rfl rfl
  obtain ⟨ks0, ks1⟩ := aO hT1.hs rfl rfl
  obtain ⟨kz0, kz1⟩ := cH hT1.hs
  clear hck
  cases hwi : dH id 1 65536 with
  | false =>
   have hi := isId_is id false hwi w1
   have hE2 : Hid (iR n vs ln ls id = 3 ∧ (3 : Int) ≠ 0) := ⟨hE1.out.trans (if_pos hwi), by decide⟩
   clear hwi hE1
   go_wp2_with fail
   refine hi.mono ?_
   rintro e w2 ⟨rfl, rfl⟩
   clear hi
   go_wp2
   refine bodyPost_ret (v := .tuple #[.agg #[.slice none 0 0, .slice none 0 0], .int .i64 3]) (by simp [results, Tryz.results97, go_sem, ks0, ks1]) rfl ?_
   exact dG.err hE2.out ((hT1.below.setCell (p := ⟨w.heap.size + 1, 0, none⟩) (Nat.le_add_right _ _) _).setCell (p := ⟨w.heap.size + 1, 1, none⟩) (Nat.le_add_right _ _) _)
  | true =>
   have hi := isId_is id true hwi w1
   have hE2 : Hid (iR n vs ln ls id = if 0 ≤ aG n vs id then 6 else if n = 6 then 2 else 0) := hE1.out.trans (if_neg (c := dH id 1 65536 = false) (by rw [hwi]; decide))
   clear hwi hE1
   go_wp2_with fail
   refine hi.mono ?_
   rintro e w2 ⟨rfl, rfl⟩
   clear hi
   obtain ⟨t, ht⟩ : ∃ t, aG n vs id = t := ⟨_, rfl⟩
   have hpl := sP id x n c vs lx ln lc t ht w2 (hp.later hT1.below) (by omega)
   rw [ht] at hE2
   clear ht
   go_wp2_with fail
   refine hpl.mono ?_
   rintro e w3 ⟨rfl, hb⟩
   have hT3 := hT1.later hb
   clear k0 k1 ks0 ks1 kz0 kz1
   obtain ⟨k0, k1⟩ := aO hT3.hb rfl rfl
   obtain ⟨ks0, ks1⟩ := aO hT3.hs rfl rfl
   obtain ⟨kz0, kz1⟩ := cH hT3.hs
   clear hpl
   by_cases ht0 : t < 0
   ·have ht1 : ¬ (t ≥ 0) := by omega
    by_cases hn6 : n = 6
    ·have hE3 : Hid (iR n vs ln ls id = 2 ∧ (2 : Int) ≠ 0) := ⟨hE2.out.trans (by rw [if_neg (show ¬ (0 : Int) ≤ t by omega), if_pos hn6]), by decide⟩
     have hn6' : ((n : Int) == 6) = true := by simp; omega
     have hn6'' : (n : Int) = 6 := by omega
     clear hE2 hn6
     go_wp2
     refine bodyPost_ret (v := .tuple #[.agg #[.slice none 0 0, .slice none 0 0], .int .i64 2]) (by simp [results, Tryz.results97, go_sem, ks0, ks1]) rfl ?_
     exact dG.err hE3.out ((hT3.below.setCell (p := ⟨w.heap.size + 1, 0, none⟩) (Nat.le_add_right _ _) _).setCell (p := ⟨w.heap.size + 1, 1, none⟩) (Nat.le_add_right _ _) _)
    ·have hE3 : Hid (iR n vs ln ls id = 0) := hE2.out.trans (by rw [if_neg (show ¬ (0 : Int) ≤ t by omega), if_neg hn6])
     have hn6' : ((n : Int) == 6) = false := by simp; omega
     have hn6'' : ¬ (n : Int) = 6 := by omega
     have hfn := gC x n c vs lx ln lc ls w3 (hp.later hT3.below) (by omega) (hl.later hT3.below) (by omega) hfew
     clear hE2 hn6
     go_wp2_with fail
     refine hfn.mono ?_
     rintro e w4 ⟨vV, vK, us, rfl, hsv, hOV, hVo, hOK, hb4⟩
     have hT4 := hT3.later hb4
     clear hfn hn6' hn6''
     obtain ⟨X, C, hvV, hVS4, hXC, hC63, hX0⟩ := hOV.vs (fun u hu => by
      obtain ⟨i, hi, rfl⟩ := dF hu
      exact lE.of (hVo i hi))
     obtain ⟨Y, D, hvK, hPS4, -, -, -⟩ := hOK.ps
     subst hvV
     subst hvK
     have hul : Hid (us.length = n) := by show _ = _; rw [← hsv.1]; exact hvl.out
     have hw3s : Hid (w.heap.size + 1 < w3.heap.size) := (Array.getElem?_eq_some_iff.1 hT3.hs).1
     clear k0 k1 ks0 ks1 kz0 kz1
     go_upto_region 12 with fail
     obtain ⟨w5, hw5⟩ : ∃ w5, w5 = w4.alloc (dZ (.slice X us.length C) (.slice Y ls.length D)) := ⟨_, rfl⟩
     rw [← hw5]
     have hb5 : Below w4.heap.size w4 w5 := by rw [hw5]; exact bl1 w4 _
     have hbx5 : w5.heap[w4.heap.size]? = some (dZ (.slice X us.length C) (.slice Y ls.length D)) := by rw [hw5]; exact aC _ rfl
     clear hw5
     have hT5 := hT4.later hb5
     have m0 := aU hbx5 0 rfl
     have hVS5 := hVS4.later hb5
     have hput := fun W hW bf hby => OJ (newV id) X us.length C us bf 1 W (hVS5.later hW) (by rw [hul.out]; omega) hXC hC63 hX0 hby
     go_wp2_with fail
     have hba : Below w5.heap.size w5 (w5.alloc (.cells #[.func (.func 56) #[] #[]] 119)) := bl1 w5 _
     refine (hput _ hba w5.heap.size (by simp)).mono ?_
     rintro e w6 ⟨v6, rfl, hb6, i, hi, hlo, hup, hO6⟩
     have hb56 : Below w5.heap.size w5 w6 := hba.trans (hb6.mono hba.size)
     have hT6 := hT5.later hb56
     have hbx6 := aB hb56 hbx5
     have hVo6 : ∀ u ∈ us.take i ++ [newV id] ++ us.drop i, mD w6 w3.heap.size u ∨ u = newV id := fun u hu => by
      rcases List.mem_append.1 hu with hu | hu
      ·rcases List.mem_append.1 hu with hu | hu
       ·obtain ⟨j, hj, rfl⟩ := dF (List.mem_of_mem_take hu)
        exact .inl (((hVo j hj).later hb5).later hb56)
       ·exact .inr (by simpa using hu)
      ·obtain ⟨j, hj, rfl⟩ := dF (List.mem_of_mem_drop hu)
       exact .inl (((hVo j hj).later hb5).later hb56)
     have hOK6 := (hOK.later hb5).later hb56
     have hR : Hid (FA vs ls id (us.take i ++ [newV id] ++ us.drop i) ls) := ⟨⟨us, i, hsv, hi, hlo, hup, rfl⟩, rfl⟩
     obtain ⟨u6, hu6⟩ : ∃ u6, u6 = us.take i ++ [newV id] ++ us.drop i := ⟨_, rfl⟩
     rw [← hu6] at hVo6 hO6 hR
     have hO6b : bX w6 w3.heap.size v6 u6 := hO6.low (by have := hb4.size; have := hb5.size; have := hba.size; omega)
     obtain ⟨X6, C6, hv6, -⟩ := hO6.mem
     subst hv6
     have g0 := aU hbx6 0 rfl
     have gz := (aA hbx6).2 0
     clear m0 hput hlo hup hu6 hO6
     go_upto_region 13 with fail
     obtain ⟨w7, hw7⟩ : ∃ w7, w7 = w6.setCell ⟨w4.heap.size, 0, none⟩ (.slice X6 u6.length C6) := ⟨_, rfl⟩
     rw [← hw7]
     have hbx7 : w7.heap[w4.heap.size]? = some (dZ (.slice X6 u6.length C6) (.slice Y ls.length D)) := by
      rw [hw7]
      simpa using heap_setCell_same w6 w4.heap.size 0 _ _ (.slice X6 u6.length C6) hbx6
     have hne0 : w.heap.size ≠ w4.heap.size := by have := hw3s.out; have := hb4.size; omega
     have hne1 : w.heap.size + 1 ≠ w4.heap.size := by have := hw3s.out; have := hb4.size; omega
     have hT7 : TM w w7 x n c lx ln lc := by
      rw [hw7]
      exact ⟨(heap_setCell_other _ _ _ _ hne0).trans hT6.hb, (heap_setCell_other _ _ _ _ hne1).trans hT6.hs, hT6.below.setCell (p := ⟨w4.heap.size, 0, none⟩) (by show w.heap.size ≤ w4.heap.size; have := hw3s.out; have := hb4.size; omega) _⟩
     have hO7 : bX w7 w3.heap.size (.slice X6 u6.length C6) u6 := by rw [hw7]; exact hO6b.putBox hbx6 (by decide)
     have hVo7 : ∀ u ∈ u6, mD w7 w3.heap.size u ∨ u = newV id := fun u hu => by
      rw [hw7]
      rcases hVo6 u hu with h | h
      ·exact .inl (h.putBox hbx6 (by decide) (by decide) (by decide) (by decide))
      ·exact .inr h
     have hOK7 : bU w7 w3.heap.size (.slice Y ls.length D) ls := by rw [hw7]; exact hOK6.putBox hbx6 (by decide)
     clear hw7 g0 gz hO6b hVo6 hOK6 hbx6 hT6
     obtain ⟨g0, g1⟩ := aO hbx7 rfl rfl
     obtain ⟨k0, k1⟩ := aO hT7.hb rfl rfl
     obtain ⟨ks0, ks1⟩ := aO hT7.hs rfl rfl
     obtain ⟨kz0, kz1⟩ := cH hT7.hs
     go_wp2
     refine bodyPost_ret (v := .tuple #[.agg #[.slice X6 u6.length C6, .slice Y ls.length D], .int .i64 0]) (by simp [results, Tryz.results97, go_sem, ks0, ks1]) rfl ?_
     refine dG.ok hE3.out ((hT7.below.setCell (p := ⟨w.heap.size + 1, 0, none⟩) (Nat.le_add_right _ _) _).setCell (p := ⟨w.heap.size + 1, 1, none⟩) (Nat.le_add_right _ _) _) (us := u6) (ms := ls) (NO.of ((hO7.put hw3s.out).put hw3s.out) (by have := hw3s.out; omega) (b2 := w3.heap.size) (fun u hu => ?_) (by have := hw3s.out; omega) ((hOK7.put hw3s.out).put hw3s.out) (by have := hw3s.out; omega)) hR.out
     rcases hVo7 u hu with h | h
     ·exact (h.put hw3s.out).put hw3s.out
     ·rw [h]; exact QZ _ _ _
   ·have ht1 : t ≥ 0 := by omega
    have hE3 : Hid (iR n vs ln ls id = 6 ∧ (6 : Int) ≠ 0) := ⟨hE2.out.trans (if_pos (show (0 : Int) ≤ t by omega)), by decide⟩
    clear hE2
    go_wp2
    refine bodyPost_ret (v := .tuple #[.agg #[.slice none 0 0, .slice none 0 0], .int .i64 6]) (by simp [results, Tryz.results97, go_sem, ks0, ks1]) rfl ?_
    exact dG.err hE3.out ((hT3.below.setCell (p := ⟨w.heap.size + 1, 0, none⟩) (Nat.le_add_right _ _) _).setCell (p := ⟨w.heap.size + 1, 1, none⟩) (Nat.le_add_right _ _) _)
 ·obtain ⟨t, ht⟩ : ∃ t, bE n vs ln ls = t := ⟨_, rfl⟩
  have hck := fL x n c vs lx ln lc ls t ht w0 (hp.later hT0.below) hn hnc (hl.later hT0.below) hln
  rw [ht] at hc0
  have hE1 : Hid (iR n vs ln ls id = t ∧ t ≠ 0) := ⟨by rw [hE.out, ht, if_neg hc0], hc0⟩
  have hne : (t != 0) = true := by simpa using hc0
  clear hE ht
  go_wp2_with fail
  refine hck.mono ?_
  rintro e w1 ⟨rfl, hb⟩
  have hT1 := hT0.later hb
  clear k0 k1 ks0 ks1 kz0 kz1
  obtain ⟨k0, k1⟩ := aO hT1.hb rfl rfl
  obtain ⟨ks0, ks1⟩ := aO hT1.hs rfl rfl
  obtain ⟨kz0, kz1⟩ := cH hT1.hs
  clear hck
  go_wp2
  refine bodyPost_ret (v := .tuple #[.agg #[.slice none 0 0, .slice none 0 0], .int .i64 t]) (by simp [results, Tryz.results97, go_sem, ks0, ks1]) rfl ?_
  exact dG.err hE1.out ((hT1.below.setCell (p := ⟨w.heap.size + 1, 0, none⟩) (Nat.le_add_right _ _) _).setCell (p := ⟨w.heap.size + 1, 1, none⟩) (Nat.le_add_right _ _) _)
theorem HU (a l : Int) (x : Option Addr) (n c : Nat) (ps : List (Int × Int)) (t : Int) (h : fstAt n (eqLk ps a l) = t) (w : World) (hp : PS w x n ps) (hn : n ≤ 64) :
  Calls Tryz.prog 108 #[.slice x n c, .agg #[.int .i64 a, .int .i64 l]] w fun e w' => e = .returned (.int .i64 t) ∧ Below w.heap.size w w' := by
 refine (vO a l x n c ps w hp hn).mono ?_
 rintro e w' ⟨⟨r, rfl, hr⟩, hb⟩
 refine ⟨?_, hb⟩
 rcases fstAt_cases n (eqLk ps a l) with ⟨i, hi, hf, hno, he⟩ | ⟨hno, he⟩
 ·rcases hr with ⟨j, hj, hfj, hnoj, rfl⟩ | ⟨hno2, -⟩
  ·have : i = j := by
    rcases Nat.lt_trichotomy i j with h1 | h1 | h1
    ·rw [hnoj i h1] at hf; cases hf
    ·exact h1
    ·rw [hno j h1] at hfj; cases hfj
   subst this
   rw [← h, he]
  ·rw [hno2 i hi] at hf; cases hf
 ·rcases hr with ⟨j, hj, hfj, -, -⟩ | ⟨-, rfl⟩
  ·rw [hno j hj] at hfj; cases hfj
  ·rw [← h, he]
theorem mD.grown (h : mD w base v) (hg : w.grownBy w' (some g)) (hb : w.heap[g]? = some (.cells cs t)) (h0 : t ≠ 51) (h1 : t ≠ 78) (h2 : t ≠ 80) (h3 : t ≠ 3) : mD w' base v :=
 ⟨h.1.kept hg (fun k hk e => by subst e; exact h.1.ne hb h0 hk), h.2.row.kept hg (fun k hk e => by subst e; exact h.2.row.ne hb h1 hk), fun i hi => (h.2.own i hi).kept_of hg hb h2 h3, h.2.apart⟩
def vP (n : Nat) (vs : List Vn) (ln : Nat) (ls : List (Int × Int)) (a b : Int) : Int :=
 if bE n vs ln ls = 0 then (if L5 ln ls a b = true then 0 else 5) else bE n vs ln ls
def R6 (a b : Int) (ls ms : List (Int × Int)) : Prop := ∃ i, i < ls.length ∧ eqLk ls (min a b) (max a b) i = true ∧ ms = ls.take i ++ ls.drop (i + 1)
def OP (vs : List Vn) (ls : List (Int × Int)) (a b : Int) (us : List Vn) (ms : List (Int × Int)) : Prop := cI vs us ∧ R6 a b ls ms
theorem bU.block (h : bU w base (.slice (some ⟨g, 0, none⟩) n cap) fs) : base ≤ g ∧ ∃ cur, w.heap[g]? = some (.cells cur 93) := pB h
theorem bU.held {v : Value} (h : bU w base v fs) (hf : 0 < fs.length) : ∃ g cap, v = .slice (some ⟨g, 0, none⟩) fs.length cap ∧ fs.length ≤ cap ∧ cap ≤ 9223372036854775807 := by
 obtain ⟨x2, c2, he2, h1, h2, -⟩ := h.mem
 rcases h.2 with ⟨-, h0⟩ | ⟨g, cap, cur, hv, -⟩
 ·omega
 ·rw [he2] at hv
  simp only [Value.slice.injEq] at hv
  obtain ⟨rfl, -, rfl⟩ := hv
  exact ⟨g, c2, he2, h1, h2⟩
theorem OQ (x : Option Addr) (n c : Nat) (vs : List Vn) (lx : Option Addr) (ln lc : Nat) (ls : List (Int × Int)) (a b : Int) (w : World) (hp : VS w x n vs) (hn : n ≤ 9223372036854775807) (hnc : n ≤ c) (hl : PS w lx ln ls) (hln : ln ≤ 9223372036854775807) :
  Calls Tryz.prog 54 #[.agg #[.slice x n c, .slice lx ln lc], .int .i64 a, .int .i64 b] w (dG (vP n vs ln ls a b) (OP vs ls a b) w) := by
 have hvl : Hid (vs.length = n) := hp.len
 have hll : Hid (ls.length = ln) := hl.len
 have hE : Hid (vP n vs ln ls a b = if bE n vs ln ls = 0 then (if L5 ln ls a b = true then 0 else 5) else bE n vs ln ls) := rfl
 go_enter Tryz.func54, Tryz.ntmps54
 go_upto_region 1 with fail
 obtain ⟨w0, hw0⟩ : ∃ w0, w0 = (w.alloc (nH x n c lx ln lc)).alloc (dZ (.slice none 0 0) (.slice none 0 0)) := ⟨_, rfl⟩
 rw [← hw0]
 have hT0 : TM w w0 x n c lx ln lc := by
  rw [hw0]
  exact ⟨aF _ (aC _ rfl), aC _ (by simp), cB w _ _⟩
 clear hw0
 obtain ⟨k0, k1⟩ := aO hT0.hb rfl rfl
 obtain ⟨ks0, ks1⟩ := aO hT0.hs rfl rfl
 obtain ⟨kz0, kz1⟩ := cH hT0.hs
 by_cases hc0 : bE n vs ln ls = 0
 ·have hck := fL x n c vs lx ln lc ls 0 hc0 w0 (hp.later hT0.below) hn hnc (hl.later hT0.below) hln
  obtain ⟨h6, h12, hfew⟩ := rN hc0
  have hE1 : Hid (vP n vs ln ls a b = if L5 ln ls a b = true then 0 else 5) := hE.out.trans (if_pos hc0)
  clear hc0 hE
  go_wp2_with fail
  refine hck.mono ?_
  rintro e w1 ⟨rfl, hb⟩
  have hT1 := hT0.later hb
  clear k0 k1 ks0 ks1 kz0 kz1
  obtain ⟨k0, k1⟩ := aO hT1.hb rfl rfl
  obtain ⟨ks0, ks1⟩ := aO hT1.hs rfl rfl
  obtain ⟨kz0, kz1⟩ := cH hT1.hs
  clear hck
  have hjn : Hid (L5 ln ls a b = aK ln (eqLk ls (min a b) (max a b))) := rfl
  obtain ⟨t, ht⟩ : ∃ t, fstAt ln (eqLk ls (min a b) (max a b)) = t := ⟨_, rfl⟩
  have hix := fun W (hW : Below w1.heap.size w1 W) => HU (min a b) (max a b) lx ln lc ls t ht W ((hl.later hT1.below).later hW) (by omega)
  have a0 := Ws.here k1
  go_upto_region 4 with fail
  go_cut [9] (fun v wc => v = .int .i64 t ∧ Below w1.heap.size w1 wc)
  case first =>
   clear k0 k1 ks0 ks1 kz0 kz1
   refine aI w1.heap.size (by kernel_rfl) (by kernel_rfl) ?_
   repeat (go_big_quiet_step (first | (go_at_call 106; exact Calls.in_ws (Nat.le_refl _) (kY _ _ _)) | (go_at_call 108; exact Calls.in_ws (Nat.le_refl _) (hix _ (Ws.property _)))))
   refine wpQuiet_nil ?_
   rintro _ ⟨u, rfl⟩
   have hu := u.property
   generalize u.val = wu at hu ⊢
   clear u a0
   go_wp2
   go_meet
   case rel => exact ⟨rfl, hu⟩
  case rest =>
   obtain ⟨rfl, hBc⟩ := hcut
   have hT2 := hT1.later hBc
   clear k0 k1 ks0 ks1 kz0 kz1
   clear a0 hix
   obtain ⟨k0, k1⟩ := aO hT2.hb rfl rfl
   obtain ⟨ks0, ks1⟩ := aO hT2.hs rfl rfl
   obtain ⟨kz0, kz1⟩ := cH hT2.hs
   rcases fstAt_cases ln (eqLk ls (min a b) (max a b)) with ⟨i, hi, hf, hno, hfp⟩ | ⟨hno, hfp⟩
   ·obtain rfl : t = i := ht.symm.trans hfp
    have hE2 : Hid (vP n vs ln ls a b = 0) := hE1.out.trans (if_pos (by rw [hjn.out]; exact aT hi hf))
    have hi' : Hid (i < ln ∧ eqLk ls (min a b) (max a b) i = true) := ⟨hi, hf⟩
    have hi0 : ¬ ((i : Int) < 0) := by omega
    have hfn := gC x n c vs lx ln lc ls wc (hp.later hT2.below) (by omega) (hl.later hT2.below) (by omega) hfew
    clear hE1 hjn ht hfp hf hno
    go_wp2_with fail
    refine hfn.mono ?_
    rintro e w4 ⟨vV, vK, us, rfl, hsv, hOV, hVo, hOK, hb4⟩
    have hT4 := hT2.later hb4
    clear hfn
    obtain ⟨g, cap, hvK, hgc, hg63⟩ := hOK.held (by rw [hll.out]; omega)
    obtain ⟨X, C, hvV, -⟩ := hOV.mem
    obtain ⟨kk, hkk⟩ : ∃ kk, Hid (ls.length = kk + 1) := ⟨ls.length - 1, by show _ = _; rw [hll.out]; omega⟩
    rw [hkk.out] at hvK hgc
    subst hvV
    subst hvK
    have hw3s : Hid (w.heap.size + 1 < wc.heap.size) := (Array.getElem?_eq_some_iff.1 hT2.hs).1
    have hik : i ≤ kk := by have := hkk.out; have := hll.out; omega
    clear k0 k1 ks0 ks1 kz0 kz1
    go_upto_region 8 with fail
    obtain ⟨w5, hw5⟩ : ∃ w5, w5 = w4.alloc (dZ (.slice X us.length C) (.slice (some ⟨g, 0, none⟩) (kk + 1) cap)) := ⟨_, rfl⟩
    rw [← hw5]
    have hb5 : Below w4.heap.size w4 w5 := by rw [hw5]; exact bl1 w4 _
    have hbx5 : w5.heap[w4.heap.size]? = some (dZ (.slice X us.length C) (.slice (some ⟨g, 0, none⟩) (kk + 1) cap)) := by rw [hw5]; exact aC _ rfl
    clear hw5
    have hT5 := hT4.later hb5
    have hOK5 := hOK.later hb5
    have hOV5 := hOV.later hb5
    have m1 := aU hbx5 1 rfl
    have hdel := E9 wc.heap.size g kk cap i (i + 1) ls w5 hOK5 hkk.out hik rfl (by have := hkk.out; have := hll.out; omega) hgc hg63
    have hw63 : IntKind.i64.wrap ((i : Int) + 1) = (i : Int) + 1 := by rw [IntKind.wrap_i64]; omega
    obtain ⟨hgb, cur, hcur⟩ := hOK5.block
    have hkk6 : kk ≤ 12 := by have := hkk.out; have := hll.out; omega
    go_wp2_with fail
    refine hdel.mono ?_
    rintro e w6 ⟨rfl, hO6, hg6⟩
    have hbg : w4.heap.size ≠ g := fun e => by rw [← e, hbx5] at hcur; simp at hcur
    have hng : g ≠ w.heap.size ∧ g ≠ w.heap.size + 1 := by have := hw3s.out; omega
    have hT6 : TM w w6 x n c lx ln lc := ⟨dB hg6 (fun e => hng.1 e.symm) hT5.hb, dB hg6 (fun e => hng.2 e.symm) hT5.hs, dQ hT5.below hg6 (fun q e => by cases e; have := hw3s.out; omega)⟩
    have hbx6 := dB hg6 hbg hbx5
    have hOV6 : bX w6 wc.heap.size (.slice X us.length C) us := hOV5.kept hg6 (fun q hq e => by subst e; exact hOV5.ne hcur (by decide) hq)
    have hVo6 : ∀ i, i < us.length → mD w6 wc.heap.size (vnAt us i) := fun i hi => ((hVo i hi).later hb5).grown hg6 hcur (by decide) (by decide) (by decide) (by decide)
    have hR : Hid (OP vs ls a b us (ls.take i ++ ls.drop (i + 1))) := ⟨hsv, i, by rw [hll.out]; exact hi'.out.1, hi'.out.2, rfl⟩
    have hml : Hid ((ls.take i ++ ls.drop (i + 1)).length = kk) := by show _ = _; have := hkk.out; simp; omega
    obtain ⟨ms, hms⟩ : ∃ ms, ms = ls.take i ++ ls.drop (i + 1) := ⟨_, rfl⟩
    rw [← hms] at hO6 hR hml
    have g1 := aU hbx6 1 rfl
    have gz := (aA hbx6).2 1
    clear m1 hdel hw63 hms hOV5 hVo hOK5 hOK hOV hg6
    go_upto_region 9 with fail
    obtain ⟨w7, hw7⟩ : ∃ w7, w7 = w6.setCell ⟨w4.heap.size, 1, none⟩ (.slice (some ⟨g, 0, none⟩) kk cap) := ⟨_, rfl⟩
    rw [← hw7]
    have hbx7 : w7.heap[w4.heap.size]? = some (dZ (.slice X us.length C) (.slice (some ⟨g, 0, none⟩) kk cap)) := by
     rw [hw7]
     simpa using heap_setCell_same w6 w4.heap.size 1 _ _ (.slice (some ⟨g, 0, none⟩) kk cap) hbx6
    have hne0 : w.heap.size ≠ w4.heap.size := by have := hw3s.out; have := hb4.size; omega
    have hne1 : w.heap.size + 1 ≠ w4.heap.size := by have := hw3s.out; have := hb4.size; omega
    have hT7 : TM w w7 x n c lx ln lc := by
     rw [hw7]
     exact ⟨(heap_setCell_other _ _ _ _ hne0).trans hT6.hb, (heap_setCell_other _ _ _ _ hne1).trans hT6.hs, hT6.below.setCell (p := ⟨w4.heap.size, 1, none⟩) (by show w.heap.size ≤ w4.heap.size; have := hw3s.out; have := hb4.size; omega) _⟩
    have hO7 : bX w7 wc.heap.size (.slice X us.length C) us := by rw [hw7]; exact hOV6.putBox hbx6 (by decide)
    have hVo7 : ∀ i, i < us.length → mD w7 wc.heap.size (vnAt us i) := fun i hi => by rw [hw7]; exact (hVo6 i hi).putBox hbx6 (by decide) (by decide) (by decide) (by decide)
    have hOK7 : bU w7 wc.heap.size (.slice (some ⟨g, 0, none⟩) kk cap) ms := by rw [hw7]; exact hO6.putBox hbx6 (by decide)
    clear hw7 g1 gz hOV6 hVo6 hO6 hbx6 hT6
    obtain ⟨g0, g1⟩ := aO hbx7 rfl rfl
    obtain ⟨k0, k1⟩ := aO hT7.hb rfl rfl
    obtain ⟨ks0, ks1⟩ := aO hT7.hs rfl rfl
    obtain ⟨kz0, kz1⟩ := cH hT7.hs
    go_wp2
    refine bodyPost_ret (v := .tuple #[.agg #[.slice X us.length C, .slice (some ⟨g, 0, none⟩) kk cap], .int .i64 0]) (by simp [results, Tryz.results54, go_sem, ks0, ks1]) rfl ?_
    exact dG.ok hE2.out ((hT7.below.setCell (p := ⟨w.heap.size + 1, 0, none⟩) (Nat.le_add_right _ _) _).setCell (p := ⟨w.heap.size + 1, 1, none⟩) (Nat.le_add_right _ _) _) (us := us) (ms := ms) (NO.of ((hO7.put hw3s.out).put hw3s.out) (by have := hw3s.out; omega) (b2 := wc.heap.size) (fun u hu => by
     obtain ⟨j, hj, rfl⟩ := dF hu
     exact ((hVo7 j hj).put hw3s.out).put hw3s.out) (by have := hw3s.out; omega) ((hOK7.put hw3s.out).put hw3s.out) (by have := hw3s.out; omega)) hR.out
   ·obtain rfl : t = -1 := ht.symm.trans hfp
    have hE2 : Hid (vP n vs ln ls a b = 5 ∧ (5 : Int) ≠ 0) := ⟨hE1.out.trans (if_neg (by rw [hjn.out, cY hno]; decide)), by decide⟩
    clear hE1 hjn ht hfp hno
    go_wp2
    refine bodyPost_ret (v := .tuple #[.agg #[.slice none 0 0, .slice none 0 0], .int .i64 5]) (by simp [results, Tryz.results54, go_sem, ks0, ks1]) rfl ?_
    exact dG.err hE2.out ((hT2.below.setCell (p := ⟨w.heap.size + 1, 0, none⟩) (Nat.le_add_right _ _) _).setCell (p := ⟨w.heap.size + 1, 1, none⟩) (Nat.le_add_right _ _) _)
 ·obtain ⟨t, ht⟩ : ∃ t, bE n vs ln ls = t := ⟨_, rfl⟩
  have hck := fL x n c vs lx ln lc ls t ht w0 (hp.later hT0.below) hn hnc (hl.later hT0.below) hln
  rw [ht] at hc0
  have hE1 : Hid (vP n vs ln ls a b = t ∧ t ≠ 0) := ⟨by rw [hE.out, ht, if_neg hc0], hc0⟩
  have hne : (t != 0) = true := by simpa using hc0
  clear hE ht
  go_wp2_with fail
  refine hck.mono ?_
  rintro e w1 ⟨rfl, hb⟩
  have hT1 := hT0.later hb
  clear k0 k1 ks0 ks1 kz0 kz1
  obtain ⟨k0, k1⟩ := aO hT1.hb rfl rfl
  obtain ⟨ks0, ks1⟩ := aO hT1.hs rfl rfl
  obtain ⟨kz0, kz1⟩ := cH hT1.hs
  clear hck
  go_wp2
  refine bodyPost_ret (v := .tuple #[.agg #[.slice none 0 0, .slice none 0 0], .int .i64 t]) (by simp [results, Tryz.results54, go_sem, ks0, ks1]) rfl ?_
  exact dG.err hE1.out ((hT1.below.setCell (p := ⟨w.heap.size + 1, 0, none⟩) (Nat.le_add_right _ _) _).setCell (p := ⟨w.heap.size + 1, 1, none⟩) (Nat.le_add_right _ _) _)
theorem Hid.mk' {p : Prop} (h : p) : Hid p := h
def jF (p : Int × Int) (ls : List (Int × Int)) : Nat := ((List.range ls.length).find? fun i => fO p (lkAt ls i)).getD ls.length
def dK (p : Int × Int) (ls : List (Int × Int)) : List (Int × Int) := ls.take (jF p ls) ++ [p] ++ ls.drop (jF p ls)
theorem OR (hi : i ≤ ls.length) (hlo : ∀ j, j < i → fO p (lkAt ls j) = false) (hup : i < ls.length → fO p (lkAt ls i) = true) : jF p ls = i := by
 unfold jF
 by_cases h : i < ls.length
 ·have : (List.range ls.length).find? (fun i => fO p (lkAt ls i)) = some i := by
   rw [List.find?_range_eq_some]
   exact ⟨hup h, by simpa using h, fun j hj => by simpa using hlo j hj⟩
  rw [this]
  rfl
 ·obtain rfl : i = ls.length := by omega
  have : (List.range ls.length).find? (fun i => fO p (lkAt ls i)) = none := by
   rw [List.find?_eq_none]
   intro j hj
   rw [hlo j (by simpa using hj)]
   decide
  rw [this]
  rfl
theorem OS (hi : i ≤ ls.length) (hlo : ∀ j, j < i → fO p (lkAt ls j) = false) (hup : i < ls.length → fO p (lkAt ls i) = true) : dK p ls = ls.take i ++ [p] ++ ls.drop i := by
 unfold dK
 rw [OR hi hlo hup]
theorem IR : q ∈ dK p ls ↔ q = p ∨ q ∈ ls := by
 unfold dK
 conv => rhs; rw [← List.take_append_drop (jF p ls) ls]
 simp only [List.mem_append, List.mem_cons, List.not_mem_nil, or_false]
 constructor
 ·rintro ((h | h) | h)
  ·exact .inr (.inl h)
  ·exact .inl h
  ·exact .inr (.inr h)
 ·rintro (h | h | h)
  ·exact .inl (.inr h)
  ·exact .inl (.inl h)
  ·exact .inr h
theorem IT : (dK p ls).length = ls.length + 1 := by
 have h1 : ls.length = (ls.take (jF p ls)).length + (ls.drop (jF p ls)).length := by
  rw [← List.length_append, List.take_append_drop]
 unfold dK
 rw [List.length_append, List.length_append, List.length_singleton]
 omega
theorem eI {g : Nat → Bool} (h : ∀ i, i < n → f i = g i) : (List.range n).all f = (List.range n).all g := by
 rw [Bool.eq_iff_iff, List.all_eq_true, List.all_eq_true]
 constructor
 ·intro h1 i hi
  rw [← h i (by simpa using hi)]
  exact h1 i hi
 ·intro h1 i hi
  rw [h i (by simpa using hi)]
  exact h1 i hi
theorem FB {vs : List Vn} (h : cI vs us) : bF us = bF vs := by
 unfold bF
 refine List.ext_getElem (by simp [h.1]) fun i h1 h2 => ?_
 have hi : i < vs.length := by simpa using h2
 have hj : i < us.length := by rw [← h.1]; exact hi
 rw [List.getElem_map, List.getElem_map, ← eT hi, ← eT hj, (h.2 i hi).1]
theorem FC {vs : List Vn} (hl : vs.length = n) (h : cI vs us) : sU ms n us = sU ms n vs := by
 unfold sU
 refine eI fun i hi => ?_
 unfold CJ
 refine eI fun j hj => ?_
 unfold wF
 obtain ⟨a1, a2, a3, -⟩ := h.2 i (by omega)
 obtain ⟨b1, b2, b3, -⟩ := h.2 j (by omega)
 rw [a1, a2, a3, b1, b2, b3]
def lY (n : Nat) (vs : List Vn) (ln : Nat) (ls : List (Int × Int)) (a b : Int) : Int :=
 if bE n vs ln ls = 0 then (if a = b then 3 else if aG n vs a < 0 then 5 else if aG n vs b < 0 then 5 else if L5 ln ls a b = true then 6 else if sU (dK (min a b, max a b) ls) n vs = false then 9 else if ln = 12 then 2 else 0) else bE n vs ln ls
def IU (vs : List Vn) (ls : List (Int × Int)) (a b : Int) (us : List Vn) (ms : List (Int × Int)) : Prop := cI vs us ∧ ms = dK (min a b, max a b) ls
theorem OT (x : Option Addr) (n c : Nat) (vs : List Vn) (lx : Option Addr) (ln lc : Nat) (ls : List (Int × Int)) (a b : Int) (w : World) (hp : VS w x n vs) (hn : n ≤ 9223372036854775807) (hnc : n ≤ c) (hl : PS w lx ln ls) (hln : ln ≤ 9223372036854775807) :
  Calls Tryz.prog 53 #[.agg #[.slice x n c, .slice lx ln lc], .int .i64 a, .int .i64 b] w (dG (lY n vs ln ls a b) (IU vs ls a b) w) := by
 have hvl : Hid (vs.length = n) := hp.len
 have hll : Hid (ls.length = ln) := hl.len
 obtain ⟨E, hEE⟩ : ∃ E, E = lY n vs ln ls a b := ⟨_, rfl⟩
 rw [← hEE]
 unfold lY at hEE
 replace hEE := Hid.mk' hEE
 go_enter Tryz.func53, Tryz.ntmps53
 go_upto_region 1 with fail
 obtain ⟨w0, hw0⟩ : ∃ w0, w0 = (w.alloc (nH x n c lx ln lc)).alloc (dZ (.slice none 0 0) (.slice none 0 0)) := ⟨_, rfl⟩
 rw [← hw0]
 have hT0 : TM w w0 x n c lx ln lc := by
  rw [hw0]
  exact ⟨aF _ (aC _ rfl), aC _ (by simp), cB w _ _⟩
 clear hw0
 obtain ⟨k0, k1⟩ := aO hT0.hb rfl rfl
 obtain ⟨ks0, ks1⟩ := aO hT0.hs rfl rfl
 obtain ⟨kz0, kz1⟩ := cH hT0.hs
 by_cases hc0 : bE n vs ln ls = 0
 ·have hck := fL x n c vs lx ln lc ls 0 hc0 w0 (hp.later hT0.below) hn hnc (hl.later hT0.below) hln
  obtain ⟨h6, h12, hfew⟩ := rN hc0
  rw [if_pos hc0] at hEE
  obtain ⟨-, -, hvb, hlb, -⟩ := dW hc0
  have hvf := sV hvb
  have hlk0 : Hid (∀ q ∈ ls, q.1 ∈ bF vs ∧ q.2 ∈ bF vs) := fun q hq => by
   obtain ⟨-, ⟨k1, h1, e1⟩, k2, h2, e2⟩ := tB hvl.out hll.out hlb q hq
   rw [← e1, ← e2]
   exact ⟨sR (by rw [hvl.out]; exact h1), sR (by rw [hvl.out]; exact h2)⟩
  clear hc0 hvb hlb
  by_cases hab : a = b
  ·rw [if_pos hab] at hEE
   have hE2 : Hid (E = 3 ∧ (3 : Int) ≠ 0) := ⟨hEE.out, by decide⟩
   have hab' : (a == b) = true := by simpa using hab
   clear hEE hab
   go_wp2_with fail
   refine hck.mono ?_
   rintro e w1 ⟨rfl, hb⟩
   have hT1 := hT0.later hb
   clear k0 k1 ks0 ks1 kz0 kz1
   obtain ⟨k0, k1⟩ := aO hT1.hb rfl rfl
   obtain ⟨ks0, ks1⟩ := aO hT1.hs rfl rfl
   obtain ⟨kz0, kz1⟩ := cH hT1.hs
   clear hck
   go_wp2
   refine bodyPost_ret (v := .tuple #[.agg #[.slice none 0 0, .slice none 0 0], .int .i64 3]) (by simp [results, Tryz.results53, go_sem, ks0, ks1]) rfl ?_
   exact dG.err hE2.out ((hT1.below.setCell (p := ⟨w.heap.size + 1, 0, none⟩) (Nat.le_add_right _ _) _).setCell (p := ⟨w.heap.size + 1, 1, none⟩) (Nat.le_add_right _ _) _)
  rw [if_neg hab] at hEE
  have hab' : (a == b) = false := by simpa using hab
  clear hab
  go_wp2_with fail
  refine hck.mono ?_
  rintro e w1 ⟨rfl, hb⟩
  have hT1 := hT0.later hb
  clear k0 k1 ks0 ks1 kz0 kz1
  obtain ⟨k0, k1⟩ := aO hT1.hb rfl rfl
  obtain ⟨ks0, ks1⟩ := aO hT1.hs rfl rfl
  obtain ⟨kz0, kz1⟩ := cH hT1.hs
  clear hck
  obtain ⟨ta, hta⟩ : ∃ t, aG n vs a = t := ⟨_, rfl⟩
  obtain ⟨tb, htb⟩ : ∃ t, aG n vs b = t := ⟨_, rfl⟩
  have hpa := sP a x n c vs lx ln lc ta hta w1 (hp.later hT1.below) (by omega)
  have hmA : Hid (0 ≤ ta → a ∈ bF vs) := fun h => kF hvl.out (by rw [hta]; omega)
  have hmB : Hid (0 ≤ tb → b ∈ bF vs) := fun h => kF hvl.out (by rw [htb]; omega)
  have hpb := fun W (hW : Below w1.heap.size w1 W) => sP b x n c vs lx ln lc tb htb W ((hp.later hT1.below).later hW) (by omega)
  rw [hta, htb] at hEE
  clear hta htb
  by_cases ha0 : ta < 0
  ·rw [if_pos ha0] at hEE
   have hE2 : Hid (E = 5 ∧ (5 : Int) ≠ 0) := ⟨hEE.out, by decide⟩
   clear hEE hpb hmA hmB
   go_wp2_with fail
   refine hpa.mono ?_
   rintro e w2 ⟨rfl, hb⟩
   have hT2 := hT1.later hb
   clear k0 k1 ks0 ks1 kz0 kz1
   obtain ⟨k0, k1⟩ := aO hT2.hb rfl rfl
   obtain ⟨ks0, ks1⟩ := aO hT2.hs rfl rfl
   obtain ⟨kz0, kz1⟩ := cH hT2.hs
   clear hpa
   go_wp2
   refine bodyPost_ret (v := .tuple #[.agg #[.slice none 0 0, .slice none 0 0], .int .i64 5]) (by simp [results, Tryz.results53, go_sem, ks0, ks1]) rfl ?_
   exact dG.err hE2.out ((hT2.below.setCell (p := ⟨w.heap.size + 1, 0, none⟩) (Nat.le_add_right _ _) _).setCell (p := ⟨w.heap.size + 1, 1, none⟩) (Nat.le_add_right _ _) _)
  rw [if_neg ha0] at hEE
  have hma := hmA.out (by omega)
  go_wp2_with fail
  refine hpa.mono ?_
  rintro e w2 ⟨rfl, hb2⟩
  have hT2 := hT1.later hb2
  have hpb2 := hpb w2 hb2
  clear k0 k1 ks0 ks1 kz0 kz1
  obtain ⟨k0, k1⟩ := aO hT2.hb rfl rfl
  obtain ⟨ks0, ks1⟩ := aO hT2.hs rfl rfl
  obtain ⟨kz0, kz1⟩ := cH hT2.hs
  clear hpa hpb hmA
  by_cases hb0 : tb < 0
  ·rw [if_pos hb0] at hEE
   have hE2 : Hid (E = 5 ∧ (5 : Int) ≠ 0) := ⟨hEE.out, by decide⟩
   clear hEE hmB
   go_wp2_with fail
   refine hpb2.mono ?_
   rintro e w3 ⟨rfl, hb⟩
   have hT3 := hT2.later hb
   clear k0 k1 ks0 ks1 kz0 kz1
   obtain ⟨k0, k1⟩ := aO hT3.hb rfl rfl
   obtain ⟨ks0, ks1⟩ := aO hT3.hs rfl rfl
   obtain ⟨kz0, kz1⟩ := cH hT3.hs
   clear hpb2
   go_wp2
   refine bodyPost_ret (v := .tuple #[.agg #[.slice none 0 0, .slice none 0 0], .int .i64 5]) (by simp [results, Tryz.results53, go_sem, ks0, ks1]) rfl ?_
   exact dG.err hE2.out ((hT3.below.setCell (p := ⟨w.heap.size + 1, 0, none⟩) (Nat.le_add_right _ _) _).setCell (p := ⟨w.heap.size + 1, 1, none⟩) (Nat.le_add_right _ _) _)
  rw [if_neg hb0] at hEE
  have hmb := hmB.out (by omega)
  go_wp2_with fail
  refine hpb2.mono ?_
  rintro e w3 ⟨rfl, hb3⟩
  have hT3 := hT2.later hb3
  clear k0 k1 ks0 ks1 kz0 kz1
  obtain ⟨k0, k1⟩ := aO hT3.hb rfl rfl
  obtain ⟨ks0, ks1⟩ := aO hT3.hs rfl rfl
  obtain ⟨kz0, kz1⟩ := cH hT3.hs
  clear hpb2 hmB
  have hma' : Hid (a ∈ bF vs ∧ b ∈ bF vs) := ⟨hma, hmb⟩
  clear hma hmb
  obtain ⟨tj, htj⟩ : ∃ t, L5 ln ls a b = t := ⟨_, rfl⟩
  have htj' : aK ln (eqLk ls (min a b) (max a b)) = tj := htj
  have hcn := fun W (hW : Below w3.heap.size w3 W) => yP (min a b) (max a b) lx ln lc ls W ((hl.later hT3.below).later hW) (by omega)
  rw [htj'] at hcn
  rw [htj] at hEE
  clear htj htj'
  have a0 := Ws.here k1
  go_upto_region 7 with fail
  go_cut [30] (fun v wc => v = .bool tj ∧ Below w3.heap.size w3 wc)
  case first =>
   clear k0 k1 ks0 ks1 kz0 kz1
   refine aI w3.heap.size (by kernel_rfl) (by kernel_rfl) ?_
   repeat (go_big_quiet_step (first | (go_at_call 106; exact Calls.in_ws (Nat.le_refl _) (kY _ _ _)) | (go_at_call 105; exact Calls.in_ws (Nat.le_refl _) (hcn _ (Ws.property _)))))
   refine wpQuiet_nil ?_
   rintro _ ⟨u, rfl⟩
   have hu := u.property
   generalize u.val = wu at hu ⊢
   clear u a0
   go_wp2
   go_meet
   case rel => exact ⟨rfl, hu⟩
  case rest =>
   obtain ⟨rfl, hBc⟩ := hcut
   obtain ⟨wo, hwo⟩ : ∃ wo, wo = wc := ⟨_, rfl⟩
   subst hwo
   have hTc := hT3.later hBc
   clear k0 k1 ks0 ks1 kz0 kz1
   clear a0 hcn
   obtain ⟨k0, k1⟩ := aO hTc.hb rfl rfl
   obtain ⟨ks0, ks1⟩ := aO hTc.hs rfl rfl
   obtain ⟨kz0, kz1⟩ := cH hTc.hs
   cases tj with
   | true =>
    rw [if_pos rfl] at hEE
    have hE2 : Hid (E = 6 ∧ (6 : Int) ≠ 0) := ⟨hEE.out, by decide⟩
    clear hEE
    go_wp2
    refine bodyPost_ret (v := .tuple #[.agg #[.slice none 0 0, .slice none 0 0], .int .i64 6]) (by simp [results, Tryz.results53, go_sem, ks0, ks1]) rfl ?_
    exact dG.err hE2.out ((hTc.below.setCell (p := ⟨w.heap.size + 1, 0, none⟩) (Nat.le_add_right _ _) _).setCell (p := ⟨w.heap.size + 1, 1, none⟩) (Nat.le_add_right _ _) _)
   | false =>
    rw [if_neg (by decide)] at hEE
    have hfn := gC x n c vs lx ln lc ls wo (hp.later hTc.below) (by omega) (hl.later hTc.below) (by omega) hfew
    have hEH : Hid (E = if sU (dK (min a b, max a b) ls) n vs = false then 9 else if ln = 12 then 2 else 0) := hEE.out
    clear hEE
    go_wp2_with fail
    refine hfn.mono ?_
    rintro e w4 ⟨vV, vK, us, rfl, hsv, hOV, hVo, hOK, hb4⟩
    have hT4 := hTc.later hb4
    clear hfn
    obtain ⟨X, C, hvV, hVS4, hXC, hC63, -⟩ := hOV.vs (fun u hu => by
     obtain ⟨i, hi, rfl⟩ := dF hu
     exact lE.of (hVo i hi))
    obtain ⟨Y, D, hvK, hPS4, hYD, hD63, hY0⟩ := hOK.ps
    subst hvV
    subst hvK
    have hul : Hid (us.length = n) := by show _ = _; rw [← hsv.1]; exact hvl.out
    have hw3s : Hid (w.heap.size + 1 < wo.heap.size) := (Array.getElem?_eq_some_iff.1 hTc.hs).1
    have hll12 : ls.length ≤ 12 := by rw [hll.out]; exact h12
    clear k0 k1 ks0 ks1 kz0 kz1
    go_upto_region 12 with fail
    obtain ⟨w5, hw5⟩ : ∃ w5, w5 = w4.alloc (dZ (.slice X us.length C) (.slice Y ls.length D)) := ⟨_, rfl⟩
    rw [← hw5]
    have hb5 : Below w4.heap.size w4 w5 := by rw [hw5]; exact bl1 w4 _
    have hbx5 : w5.heap[w4.heap.size]? = some (dZ (.slice X us.length C) (.slice Y ls.length D)) := by rw [hw5]; exact aC _ rfl
    clear hw5
    have hT5 := hT4.later hb5
    have hPS5 := hPS4.later hb5
    have hput := fun W (hW : Below w5.heap.size w5 W) bf hby hby2 => OM (min a b, max a b) Y ls.length D ls bf 2 W (hPS5.later hW) (by omega) hYD hD63 hY0 hby hby2
    have a1 := Ws.here (aU hbx5 1 rfl)
    go_cut [9] (fun p wd => p = .pointer (some ⟨w4.heap.size, 0, none⟩) ∧ ∃ w6 X6 C6, Below w5.heap.size w5 w6 ∧ bU w6 wo.heap.size (.slice X6 (dK (min a b, max a b) ls).length C6) (dK (min a b, max a b) ls) ∧ wd = w6.setCell ⟨w4.heap.size, 1, none⟩ (.slice X6 (dK (min a b, max a b) ls).length C6))
    case first =>
     have hbd : Below w5.heap.size w5 w5.drew := (Below.refl _ _).drew
     refine bQ (fun w' => ∃ u : Ws w5.heap.size w5, w' = u.val) (fun j => decide (j < 7)) 9 _ (by kernel_rfl) rfl rfl ?_
     refine aZ 5 [0, 1, 2, 3] rfl _ rfl (by kernel_rfl) (fun d _ _ _ _ h => by cases d <;> exact h) ⟨⟨_, hbd⟩, rfl⟩ ?_
     simp only [List.map_cons, List.map_nil, List.getD_cons_zero, List.getD_cons_succ]
     repeat (go_big_quiet_step (fail))
     refine wpQuiet_nil ?_
     clear a1
     refine iD 4 5 _ _ _ _ (by kernel_rfl) (by kernel_rfl) rfl rfl rfl rfl ?_ ?_
     ·intro K hK
      simp only [List.getD_cons_zero, List.getD_cons_succ]
      go_wp2_with fail
      refine (kY a b w5.drew).mono ?_
      rintro e wl ⟨rfl, hbl⟩
      have hBl : Below w5.heap.size w5 wl := ⟨hbl.os, hbl.tape, hbl.output, hbl.size, hbl.block⟩
      go_wp2_with fail
      refine aD (hK.out _ _ ⟨⟨_, hBl⟩, rfl⟩ ?_)
      clear hK K
      refine aW 5 _ _ (by kernel_rfl) (by kernel_rfl) rfl rfl ?_
      intro K hK
      simp only [List.getD_cons_zero, List.getD_cons_succ]
      go_wp2_with fail
      have hBm : Below w5.heap.size w5 (wl.alloc (.cells #[.func (.func 61) #[] #[], .func (.func 62) #[] #[]] 123)) := hBl.trans ((bl1 wl _).mono hBl.size)
      refine aD (hK.out _ _ ⟨⟨_, hBm⟩, rfl⟩ ?_)
      clear hK K
      refine aW 6 _ _ (by kernel_rfl) (by kernel_rfl) rfl rfl ?_
      intro K hK
      simp only [List.getD_cons_zero, List.getD_cons_succ]
      go_wp2_with fail
      refine (hput (wl.alloc (.cells #[.func (.func 61) #[] #[], .func (.func 62) #[] #[]] 123)) hBm wl.heap.size (by simp) (by simp)).mono ?_
      rintro e w6 ⟨v6, rfl, hb6, i, hi, hlo, hup, hO6⟩
      have hb56 : Below w5.heap.size w5 w6 := hBm.trans (hb6.mono hBm.size)
      have hO6b : bU w6 wo.heap.size v6 (ls.take i ++ [(min a b, max a b)] ++ ls.drop i) := hO6.low (by have := hb4.size; have := hb5.size; have := hBm.size; omega)
      rw [← OS hi hlo hup] at hO6b
      obtain ⟨X6, C6, hv6, -⟩ := hO6b.mem
      subst hv6
      go_wp2_with fail
      refine aD (hK.out _ _ ⟨⟨_, hb56⟩, rfl⟩ ?_)
      clear hK K
      have hbx6 := aB hb56 hbx5
      have g1 := aU hbx6 1 rfl
      have gz := (aA hbx6).2 1
      refine aY [7, 8] rfl (by kernel_rfl) ?_
      simp only [List.map_cons, List.map_nil, List.getD_cons_zero, List.getD_cons_succ]
      go_wp2_with fail
      go_meet
      case rel => exact ⟨rfl, w6, X6, C6, hb56, hO6b, rfl⟩
     ·intro K hK
      simp only [List.getD_cons_zero, List.getD_cons_succ]
      go_wp2_with fail
      have hBl : Below w5.heap.size w5 (w5.alloc (.cells #[.func (.func 61) #[] #[], .func (.func 62) #[] #[]] 123)).drew := (bl1 w5 _).drew
      refine aD (hK.out _ _ ⟨⟨_, hBl⟩, rfl⟩ ?_)
      clear hK K
      have f0 : ((w5.alloc (.cells #[.func (.func 61) #[] #[], .func (.func 62) #[] #[]] 123)).drew).cell? ⟨w5.heap.size, 0, none⟩ = some (.func (.func 61) #[] #[]) := (aA (aC (W := w5) (.cells #[.func (.func 61) #[] #[], .func (.func 62) #[] #[]] 123) rfl)).1 0
      have f1 : ((w5.alloc (.cells #[.func (.func 61) #[] #[], .func (.func 62) #[] #[]] 123)).drew).cell? ⟨w5.heap.size, 1, none⟩ = some (.func (.func 62) #[] #[]) := (aA (aC (W := w5) (.cells #[.func (.func 61) #[] #[], .func (.func 62) #[] #[]] 123) rfl)).1 1
      refine aW 4 _ _ (by kernel_rfl) (by kernel_rfl) rfl rfl ?_
      intro K hK
      simp only [List.getD_cons_zero, List.getD_cons_succ]
      go_wp2_with fail
      refine (kY a b (w5.alloc (.cells #[.func (.func 61) #[] #[], .func (.func 62) #[] #[]] 123)).drew).mono ?_
      rintro e wl ⟨rfl, hbl⟩
      have hBm : Below w5.heap.size w5 wl := hBl.trans (hbl.mono hBl.size)
      have f0' := cell_later hbl f0
      have f1' := cell_later hbl f1
      clear f0 f1
      go_wp2_with fail
      refine aD (hK.out _ _ ⟨⟨_, hBm⟩, rfl⟩ ?_)
      clear hK K
      refine aW 6 _ _ (by kernel_rfl) (by kernel_rfl) rfl rfl ?_
      intro K hK
      simp only [List.getD_cons_zero, List.getD_cons_succ]
      go_wp2_with fail
      refine (hput wl hBm w5.heap.size f0' f1').mono ?_
      rintro e w6 ⟨v6, rfl, hb6, i, hi, hlo, hup, hO6⟩
      have hb56 : Below w5.heap.size w5 w6 := hBm.trans (hb6.mono hBm.size)
      have hO6b : bU w6 wo.heap.size v6 (ls.take i ++ [(min a b, max a b)] ++ ls.drop i) := hO6.low (by have := hb4.size; have := hb5.size; have := hBm.size; omega)
      rw [← OS hi hlo hup] at hO6b
      obtain ⟨X6, C6, hv6, -⟩ := hO6b.mem
      subst hv6
      go_wp2_with fail
      refine aD (hK.out _ _ ⟨⟨_, hb56⟩, rfl⟩ ?_)
      clear hK K
      have hbx6 := aB hb56 hbx5
      have g1 := aU hbx6 1 rfl
      have gz := (aA hbx6).2 1
      refine aY [7, 8] rfl (by kernel_rfl) ?_
      simp only [List.map_cons, List.map_nil, List.getD_cons_zero, List.getD_cons_succ]
      go_wp2_with fail
      go_meet
      case rel => exact ⟨rfl, w6, X6, C6, hb56, hO6b, rfl⟩
    case rest =>
     obtain ⟨rfl, w6, X6, C6, hb56, hO6, hwd⟩ := hcut
     clear a1 hput
     have hbx6 := aB hb56 hbx5
     have hT6 := hT5.later hb56
     obtain ⟨ms, hms⟩ : ∃ ms, Hid (ms = dK (min a b, max a b) ls) := ⟨_, rfl⟩
     rw [← hms.out] at hO6 hwd hEH
     have hml : Hid (ms.length = ls.length + 1) := by show _ = _; rw [hms.out]; exact IT
     have hbx7 : wc.heap[w4.heap.size]? = some (dZ (.slice X us.length C) (.slice X6 ms.length C6)) := by
      rw [hwd]
      simpa using heap_setCell_same w6 w4.heap.size 1 _ _ (.slice X6 ms.length C6) hbx6
     have hne0 : w.heap.size ≠ w4.heap.size := by have := hw3s.out; have := hb4.size; omega
     have hne1 : w.heap.size + 1 ≠ w4.heap.size := by have := hw3s.out; have := hb4.size; omega
     have hT7 : TM w wc x n c lx ln lc := by
      rw [hwd]
      exact ⟨(heap_setCell_other _ _ _ _ hne0).trans hT6.hb, (heap_setCell_other _ _ _ _ hne1).trans hT6.hs, hT6.below.setCell (p := ⟨w4.heap.size, 1, none⟩) (by show w.heap.size ≤ w4.heap.size; have := hw3s.out; have := hb4.size; omega) _⟩
     have hO7 : bX wc wo.heap.size (.slice X us.length C) us := by rw [hwd]; exact ((hOV.later hb5).later hb56).putBox hbx6 (by decide)
     have hVo7 : ∀ i, i < us.length → mD wc wo.heap.size (vnAt us i) := fun i hi => by rw [hwd]; exact (((hVo i hi).later hb5).later hb56).putBox hbx6 (by decide) (by decide) (by decide) (by decide)
     have hOK7 : bU wc wo.heap.size (.slice X6 ms.length C6) ms := by rw [hwd]; exact hO6.putBox hbx6 (by decide)
     clear hwd hO6 hbx6 hT6 hOV hVo hOK hVS4 hPS4 hPS5 hT5
     obtain ⟨X', C', hv', hVS7, hXC', -, -⟩ := hO7.vs (fun u hu => by
      obtain ⟨i, hi, rfl⟩ := dF hu
      exact lE.of (hVo7 i hi))
     simp only [Value.slice.injEq] at hv'
     obtain ⟨rfl, -, rfl⟩ := hv'
     obtain ⟨Y', D', hk', hPS7, -⟩ := hOK7.ps
     simp only [Value.slice.injEq] at hk'
     obtain ⟨rfl, -, rfl⟩ := hk'
     have hR : Hid (IU vs ls a b us ms) := ⟨hsv, hms.out⟩
     obtain ⟨ta, hta⟩ : ∃ t, sU ms n vs = t := ⟨_, rfl⟩
     have hap := napart_is X us.length C us X6 ms.length C6 ms ta (by rw [hul.out, FC hvl.out hsv]; exact hta) wc hVS7 (by rw [hul.out]; omega) hXC' hPS7 (by rw [hml.out]; omega) (fun i hi => by
      have h1 := (hsv.2 i (by rw [hsv.1]; exact hi)).1
      rw [← h1]
      exact (hvf i (by rw [← hul.out]; exact hi)).1) (fun i hi => by
      have h1 := (hsv.2 i (by rw [hsv.1]; exact hi)).2.1
      rw [← h1]
      exact (hvf i (by rw [← hul.out]; exact hi)).2) (fun j hj => by
      have hm : lkAt ms j ∈ dK (min a b, max a b) ls := by
       rw [← hms.out]
       unfold lkAt
       rw [List.getD_eq_getElem?_getD, List.getElem?_eq_getElem hj]
       exact List.getElem_mem hj
      rw [FB hsv]
      show (lkAt ms j).1 ∈ _ ∧ (lkAt ms j).2 ∈ _
      rcases IR.1 hm with h | h
      ·rw [h]
       rcases Int.le_total a b with e | e
       ·rw [Int.min_eq_left e, Int.max_eq_right e]; exact hma'.out
       ·rw [Int.min_eq_right e, Int.max_eq_left e]; exact ⟨hma'.out.2, hma'.out.1⟩
      ·exact hlk0.out _ h)
     rw [hta] at hEH
     clear hta hVS7 hPS7
     obtain ⟨g0, g1⟩ := aO hbx7 rfl rfl
     go_wp2_with fail
     refine hap.mono ?_
     rintro e w8 ⟨rfl, hb8⟩
     have hT8 := hT7.later hb8
     have hbx8 := aB hb8 hbx7
     have hO8 := hO7.later hb8
     have hVo8 := fun i hi => (hVo7 i hi).later hb8
     have hOK8 := hOK7.later hb8
     clear g0 g1 hap hO7 hVo7 hOK7 hbx7 hT7 hb8
     obtain ⟨g0, g1⟩ := aO hbx8 rfl rfl
     obtain ⟨k0, k1⟩ := aO hT8.hb rfl rfl
     obtain ⟨ks0, ks1⟩ := aO hT8.hs rfl rfl
     obtain ⟨kz0, kz1⟩ := cH hT8.hs
     cases ta with
     | false =>
      have hE2 : Hid (E = 9 ∧ (9 : Int) ≠ 0) := ⟨hEH.out.trans (if_pos rfl), by decide⟩
      clear hEH
      go_wp2
      refine bodyPost_ret (v := .tuple #[.agg #[.slice none 0 0, .slice none 0 0], .int .i64 9]) (by simp [results, Tryz.results53, go_sem, ks0, ks1]) rfl ?_
      exact dG.err hE2.out ((hT8.below.setCell (p := ⟨w.heap.size + 1, 0, none⟩) (Nat.le_add_right _ _) _).setCell (p := ⟨w.heap.size + 1, 1, none⟩) (Nat.le_add_right _ _) _)
     | true =>
      have hE2 : Hid (E = if ln = 12 then 2 else 0) := hEH.out.trans (if_neg (by decide))
      clear hEH
      by_cases hl12 : ln = 12
      ·have hE3 : Hid (E = 2 ∧ (2 : Int) ≠ 0) := ⟨hE2.out.trans (if_pos hl12), by decide⟩
       have hl12' : ((ln : Int) == 12) = true := by simp; omega
       have hl12'' : (ln : Int) = 12 := by omega
       clear hE2 hl12
       go_wp2
       refine bodyPost_ret (v := .tuple #[.agg #[.slice none 0 0, .slice none 0 0], .int .i64 2]) (by simp [results, Tryz.results53, go_sem, ks0, ks1]) rfl ?_
       exact dG.err hE3.out ((hT8.below.setCell (p := ⟨w.heap.size + 1, 0, none⟩) (Nat.le_add_right _ _) _).setCell (p := ⟨w.heap.size + 1, 1, none⟩) (Nat.le_add_right _ _) _)
      ·have hE3 : Hid (E = 0) := hE2.out.trans (if_neg hl12)
       have hl12' : ((ln : Int) == 12) = false := by simp; omega
       have hl12'' : ¬ (ln : Int) = 12 := by omega
       clear hE2 hl12
       go_wp2
       refine bodyPost_ret (v := .tuple #[.agg #[.slice X us.length C, .slice X6 ms.length C6], .int .i64 0]) (by simp [results, Tryz.results53, go_sem, ks0, ks1]) rfl ?_
       exact dG.ok hE3.out ((hT8.below.setCell (p := ⟨w.heap.size + 1, 0, none⟩) (Nat.le_add_right _ _) _).setCell (p := ⟨w.heap.size + 1, 1, none⟩) (Nat.le_add_right _ _) _) (us := us) (ms := ms) (NO.of ((hO8.put hw3s.out).put hw3s.out) (by have := hw3s.out; omega) (b2 := wo.heap.size) (fun u hu => by
        obtain ⟨j, hj, rfl⟩ := dF hu
        exact ((hVo8 j hj).put hw3s.out).put hw3s.out) (by have := hw3s.out; omega) ((hOK8.put hw3s.out).put hw3s.out) (by have := hw3s.out; omega)) hR.out
 ·obtain ⟨t, ht⟩ : ∃ t, bE n vs ln ls = t := ⟨_, rfl⟩
  have hck := fL x n c vs lx ln lc ls t ht w0 (hp.later hT0.below) hn hnc (hl.later hT0.below) hln
  rw [ht] at hc0 hEE
  have hE1 : Hid (E = t ∧ t ≠ 0) := ⟨by rw [hEE.out, if_neg hc0], hc0⟩
  have hne : (t != 0) = true := by simpa using hc0
  clear hEE ht
  go_wp2_with fail
  refine hck.mono ?_
  rintro e w1 ⟨rfl, hb⟩
  have hT1 := hT0.later hb
  clear k0 k1 ks0 ks1 kz0 kz1
  obtain ⟨k0, k1⟩ := aO hT1.hb rfl rfl
  obtain ⟨ks0, ks1⟩ := aO hT1.hs rfl rfl
  obtain ⟨kz0, kz1⟩ := cH hT1.hs
  clear hck
  go_wp2
  refine bodyPost_ret (v := .tuple #[.agg #[.slice none 0 0, .slice none 0 0], .int .i64 t]) (by simp [results, Tryz.results53, go_sem, ks0, ks1]) rfl ?_
  exact dG.err hE1.out ((hT1.below.setCell (p := ⟨w.heap.size + 1, 0, none⟩) (Nat.le_add_right _ _) _).setCell (p := ⟨w.heap.size + 1, 1, none⟩) (Nat.le_add_right _ _) _)
abbrev V9 (p : Vn) : Value := .agg #[.int .i64 p.id, .slice p.rx p.rn p.rc, .slice p.sx p.sn p.sc]
def fM (vid : Int) (rn : Nat) (rs : List Rg) (sn : Nat) (ss : List Sb) (r : Rg) (w : World) (e : Ending) (w' : World) : Prop :=
 ∃ V, e = .returned (.tuple #[V, .int .i64 (eM vid rn rs sn ss r)]) ∧ Below w.heap.size w w' ∧ (eM vid rn rs sn ss r ≠ 0 → V = .agg #[.int .i64 0, .slice none 0 0, .slice none 0 0]) ∧
  (eM vid rn rs sn ss r = 0 → ∃ u : Vn, V = V9 u ∧ mD w' w.heap.size u ∧ u.id = vid ∧ R2 r rs u.rs ∧ bG ss u.ss)
theorem fM.err (hE : eM vid rn rs sn ss r = E ∧ E ≠ 0) (hb : Below w.heap.size w w') :
  fM vid rn rs sn ss r w (.returned (.tuple #[.agg #[.int .i64 0, .slice none 0 0, .slice none 0 0], .int .i64 E])) w' :=
 ⟨_, by rw [hE.1], hb, fun _ => rfl, fun h => absurd (hE.1.symm.trans h) hE.2⟩
theorem HV (vid : Int) (rx : Option Addr) (rn rc : Nat) (rs : List Rg) (sx : Option Addr) (sn sc : Nat) (ss : List Sb) (r : Rg) (w : World) (hv : Vp w rx rn rc rs sx sn sc ss) (hrn : rn ≤ 9223372036854775807) (hsn : sn ≤ 9223372036854775807) (hrc : rc ≤ 9223372036854775807) :
  Calls Tryz.prog 137 #[.agg #[.int .i64 vid, .slice rx rn rc, .slice sx sn sc], .agg #[.int .i64 r.a, .int .i64 r.l, .int .i64 r.p]] w (fM vid rn rs sn ss r w) := by
 have hrl : Hid (rs.length = rn) := hv.ranges.len
 have hsl : Hid (ss.length = sn) := hv.subs.len
 go_enter Tryz.func137, Tryz.ntmps137
 go_upto_region 1 with fail
 obtain ⟨w0, hw0⟩ : ∃ w0, w0 = ((w.alloc (cZ vid (.slice rx rn rc) (.slice sx sn sc))).alloc (.cells #[.int .i64 r.a, .int .i64 r.l, .int .i64 r.p] 51)).alloc (cZ 0 (.slice none 0 0) (.slice none 0 0)) := ⟨_, rfl⟩
 rw [← hw0]
 have hT0 : TG w w0 vid (.slice rx rn rc) (.slice sx sn sc) r := by
  rw [hw0]
  exact ⟨aF _ (aF _ (aC _ rfl)), aF _ (aC _ (by simp)), aC _ (by simp), (cB w _ _).alloc (by simp; omega) _⟩
 clear hw0
 obtain ⟨b0, b1, b2⟩ := bI hT0.hb rfl rfl rfl
 obtain ⟨p0, p1, p2⟩ := bI hT0.hp rfl rfl rfl
 obtain ⟨s0, s1, s2⟩ := bI hT0.hs rfl rfl rfl
 obtain ⟨zs0, zs1, zs2⟩ := eO hT0.hs
 have hck := checkV_any vid rx rn rc rs sx sn sc ss w0 (hv.later hT0.below) hrn hsn hrc
 by_cases hc0 : aV vid rn rs sn ss = 0
 ·rw [hc0] at hck
  obtain ⟨f1, f2, f3, f4⟩ := cA hc0
  have hE1 : Hid (eM vid rn rs sn ss r = if A2 r = false then 1 else if aK rn (CH rs r.a r.l) = true then 6 else if rn = 4 then 2 else 0) := if_neg (c := aV vid rn rs sn ss ≠ 0) (by simp [hc0])
  clear hc0
  go_wp2_with fail
  refine (hck).mono ?_
  rintro e w1 ⟨rfl, hbw1⟩
  have hT1 := hT0.later hbw1
  clear b0 b1 b2 p0 p1 p2 s0 s1 s2 zs0 zs1 zs2
  obtain ⟨b0, b1, b2⟩ := bI hT1.hb rfl rfl rfl
  obtain ⟨p0, p1, p2⟩ := bI hT1.hp rfl rfl rfl
  obtain ⟨s0, s1, s2⟩ := bI hT1.hs rfl rfl rfl
  obtain ⟨zs0, zs1, zs2⟩ := eO hT1.hs
  cases hrg : A2 r with
  | false =>
   have hne : eM vid rn rs sn ss r = 1 ∧ (1 : Int) ≠ 0 := ⟨hE1.out.trans (if_pos hrg), by decide⟩
   go_wp2_with fail
   refine (iI r false hrg w1).mono ?_
   rintro e w2 ⟨rfl, hbw2⟩
   have hT2 := hT1.later hbw2
   clear b0 b1 b2 p0 p1 p2 s0 s1 s2 zs0 zs1 zs2
   obtain ⟨b0, b1, b2⟩ := bI hT2.hb rfl rfl rfl
   obtain ⟨p0, p1, p2⟩ := bI hT2.hp rfl rfl rfl
   obtain ⟨s0, s1, s2⟩ := bI hT2.hs rfl rfl rfl
   obtain ⟨zs0, zs1, zs2⟩ := eO hT2.hs
   go_wp2
   refine bodyPost_ret (v := .tuple #[.agg #[.int .i64 0, .slice none 0 0, .slice none 0 0], .int .i64 1]) (by simp [results, Tryz.results137, go_sem, s0, s1, s2]) rfl ?_
   exact fM.err hne (((hT2.below.setCell (p := ⟨w.heap.size + 2, 0, none⟩) (Nat.le_add_right _ _) _).setCell (p := ⟨w.heap.size + 2, 1, none⟩) (Nat.le_add_right _ _) _).setCell (p := ⟨w.heap.size + 2, 2, none⟩) (Nat.le_add_right _ _) _)
  | true =>
   have hE2 : Hid (eM vid rn rs sn ss r = if aK rn (CH rs r.a r.l) = true then 6 else if rn = 4 then 2 else 0) := hE1.out.trans (if_neg (by simp [hrg]))
   go_wp2_with fail
   refine (iI r true hrg w1).mono ?_
   rintro e w2 ⟨rfl, hbw2⟩
   have hT2 := hT1.later hbw2
   clear b0 b1 b2 p0 p1 p2 s0 s1 s2 zs0 zs1 zs2
   obtain ⟨b0, b1, b2⟩ := bI hT2.hb rfl rfl rfl
   obtain ⟨p0, p1, p2⟩ := bI hT2.hp rfl rfl rfl
   obtain ⟨s0, s1, s2⟩ := bI hT2.hs rfl rfl rfl
   obtain ⟨zs0, zs1, zs2⟩ := eO hT2.hs
   have hmt := oI r.a r.l rx rn rc rs w2 (hv.later hT2.below).ranges (by omega)
   cases hany : aK rn (CH rs r.a r.l) with
   | true =>
    rw [hany] at hmt
    have hne : eM vid rn rs sn ss r = 6 ∧ (6 : Int) ≠ 0 := ⟨hE2.out.trans (if_pos hany), by decide⟩
    go_wp2_with fail
    refine (hmt).mono ?_
    rintro e w3 ⟨rfl, hbw3⟩
    have hT3 := hT2.later hbw3
    clear b0 b1 b2 p0 p1 p2 s0 s1 s2 zs0 zs1 zs2
    obtain ⟨b0, b1, b2⟩ := bI hT3.hb rfl rfl rfl
    obtain ⟨p0, p1, p2⟩ := bI hT3.hp rfl rfl rfl
    obtain ⟨s0, s1, s2⟩ := bI hT3.hs rfl rfl rfl
    obtain ⟨zs0, zs1, zs2⟩ := eO hT3.hs
    go_wp2
    refine bodyPost_ret (v := .tuple #[.agg #[.int .i64 0, .slice none 0 0, .slice none 0 0], .int .i64 6]) (by simp [results, Tryz.results137, go_sem, s0, s1, s2]) rfl ?_
    exact fM.err hne (((hT3.below.setCell (p := ⟨w.heap.size + 2, 0, none⟩) (Nat.le_add_right _ _) _).setCell (p := ⟨w.heap.size + 2, 1, none⟩) (Nat.le_add_right _ _) _).setCell (p := ⟨w.heap.size + 2, 2, none⟩) (Nat.le_add_right _ _) _)
   | false =>
    rw [hany] at hmt
    have hE3 : Hid (eM vid rn rs sn ss r = if rn = 4 then 2 else 0) := hE2.out.trans (if_neg (by simp [hany]))
    by_cases h4 : rn = 4
    ·subst h4
     have hne : eM vid 4 rs sn ss r = 2 ∧ (2 : Int) ≠ 0 := ⟨hE3.out.trans (if_pos rfl), by decide⟩
     go_wp2_with fail
     refine (hmt).mono ?_
     rintro e w3 ⟨rfl, hbw3⟩
     have hT3 := hT2.later hbw3
     clear b0 b1 b2 p0 p1 p2 s0 s1 s2 zs0 zs1 zs2
     obtain ⟨b0, b1, b2⟩ := bI hT3.hb rfl rfl rfl
     obtain ⟨p0, p1, p2⟩ := bI hT3.hp rfl rfl rfl
     obtain ⟨s0, s1, s2⟩ := bI hT3.hs rfl rfl rfl
     obtain ⟨zs0, zs1, zs2⟩ := eO hT3.hs
     go_wp2
     refine bodyPost_ret (v := .tuple #[.agg #[.int .i64 0, .slice none 0 0, .slice none 0 0], .int .i64 2]) (by simp [results, Tryz.results137, go_sem, s0, s1, s2]) rfl ?_
     exact fM.err hne (((hT3.below.setCell (p := ⟨w.heap.size + 2, 0, none⟩) (Nat.le_add_right _ _) _).setCell (p := ⟨w.heap.size + 2, 1, none⟩) (Nat.le_add_right _ _) _).setCell (p := ⟨w.heap.size + 2, 2, none⟩) (Nat.le_add_right _ _) _)
    ·have hE0 : Hid (eM vid rn rs sn ss r = 0) := hE3.out.trans (if_neg h4)
     have hv3 := fun W (hW : Below w.heap.size w W) => dE vid rx rn rc rs sx sn sc ss W (hv.later hW) (by omega) (by omega) (fun i hi => by have := f3 i hi; omega) (fun i hi j hj => by have := f4 i hi j hj; omega)
     go_wp2_with fail
     refine (hmt).mono ?_
     rintro e w3 ⟨rfl, hbw3⟩
     have hT3 := hT2.later hbw3
     clear b0 b1 b2 p0 p1 p2 s0 s1 s2 zs0 zs1 zs2
     obtain ⟨b0, b1, b2⟩ := bI hT3.hb rfl rfl rfl
     obtain ⟨p0, p1, p2⟩ := bI hT3.hp rfl rfl rfl
     obtain ⟨s0, s1, s2⟩ := bI hT3.hs rfl rfl rfl
     obtain ⟨zs0, zs1, zs2⟩ := eO hT3.hs
     go_wp2_with fail
     refine (hv3 _ hT3.below).mono ?_
     rintro e w4 ⟨vR, vS, ts, rfl, hOR, hss, hOS, hb4⟩
     have hT4 := hT3.later hb4
     obtain ⟨xr, cr, rfl, hr1, hr2, hr3⟩ := hOR.rs
     obtain ⟨xt, ct, rfl, -⟩ := hOS.subs
     have hxr : (xr = none ∧ cr = 0) ∨ ∃ b o, xr = some ⟨b, o, none⟩ := by
      rcases hOR.2 with ⟨hv', -⟩ | ⟨g2, cap2, cur2, hv', -⟩
      ·simp only [Value.slice.injEq] at hv'; exact .inl ⟨hv'.1, hv'.2.2⟩
      ·simp only [Value.slice.injEq] at hv'; exact .inr ⟨_, _, hv'.1⟩
     clear b0 b1 b2 p0 p1 p2 s0 s1 s2 zs0 zs1 zs2
     go_upto_region 12 with fail
     obtain ⟨w5, hw5⟩ : ∃ w5, w5 = w4.alloc (cZ vid (.slice xr rs.length cr) (.slice xt ts.length ct)) := ⟨_, rfl⟩
     rw [← hw5]
     have hb45 : Below w4.heap.size w4 w5 := by rw [hw5]; exact bl1 _ _
     have hn5 : w5.heap[w4.heap.size]? = some (cZ vid (.slice xr rs.length cr) (.slice xt ts.length ct)) := by rw [hw5]; exact aC _ rfl
     clear hw5
     have hT5 := hT4.later hb45
     have n1 := aU hn5 1 rfl
     have n1' : ∀ o, (w5.alloc o).cell? ⟨w4.heap.size, 1, none⟩ = some (.slice xr rs.length cr) := fun o => aE (bl1 w5 o) n1
     obtain ⟨p0, p1, p2⟩ := bI hT5.hp rfl rfl rfl
     have p0' : ∀ o, (w5.alloc o).cell? ⟨w.heap.size + 1, 0, none⟩ = some (.int .i64 r.a) := fun o => aE (bl1 w5 o) p0
     have p1' : ∀ o, (w5.alloc o).cell? ⟨w.heap.size + 1, 1, none⟩ = some (.int .i64 r.l) := fun o => aE (bl1 w5 o) p1
     have p2' : ∀ o, (w5.alloc o).cell? ⟨w.heap.size + 1, 2, none⟩ = some (.int .i64 r.p) := fun o => aE (bl1 w5 o) p2
     have hput := fun W (hW : Below w5.heap.size w5 W) hby => NR r xr rs.length cr rs w5.heap.size 1 W ((hr1.later hb45).later hW) (by rw [hrl.out]; omega) hr2 hr3 hxr hby
     go_wp2_with fail
     refine (hput _ (bl1 w5 _) (by simp)).mono ?_
     rintro e w6 ⟨v6, rfl, hb6, i, hi, hlow, hup, hO6⟩
     obtain ⟨qs, hqs⟩ : ∃ qs, Hid (qs = rs.take i ++ [r] ++ rs.drop i) := ⟨_, rfl⟩
     rw [← hqs.out] at hO6
     obtain ⟨x6, c6, rfl, -⟩ := hO6.mem
     have hb56 : Below w5.heap.size w5 w6 := (bl1 w5 _).trans (hb6.mono (by simp))
     have hT6 := hT5.later hb56
     have hn6 := aB hb56 hn5
     have hOS6 := jE.later (jE.later hOS hb45) hb56
     clear n1 n1' p0 p1 p2 p0' p1' p2'
     have hsz3 : w.heap.size + 2 < w3.heap.size := (Array.getElem?_eq_some_iff.1 hT3.hs).1
     have hz4 : w.heap.size + 2 < w4.heap.size := Nat.lt_of_lt_of_le hsz3 hb4.size
     have hz5 : w.heap.size + 2 < w5.heap.size := Nat.lt_of_lt_of_le hz4 hb45.size
     have m0 := aU hn6 0 rfl
     have m1 := aU hn6 1 rfl
     have m2 := aU hn6 2 rfl
     have zm := (aA hn6).2 1
     obtain ⟨s0, s1, s2⟩ := bI hT6.hs rfl rfl rfl
     obtain ⟨zs0, zs1, zs2⟩ := eO hT6.hs
     have ne1 : ¬ w4.heap.size = w.heap.size + 2 := by omega
     have ne2 : ¬ w.heap.size + 2 = w4.heap.size := by omega
     go_wp2
     refine bodyPost_ret (v := .tuple #[.agg #[.int .i64 vid, .slice x6 qs.length c6, .slice xt ts.length ct], .int .i64 0]) (by simp [results, Tryz.results137, go_sem, s0, s1, s2]) rfl ?_
     have hfin := (((hT6.below.setCell (p := ⟨w4.heap.size, 1, none⟩) (by show w.heap.size ≤ w4.heap.size; omega) (.slice x6 qs.length c6)).setCell (p := ⟨w.heap.size + 2, 0, none⟩) (Nat.le_add_right _ _) (.int .i64 vid)).setCell (p := ⟨w.heap.size + 2, 1, none⟩) (Nat.le_add_right _ _) (.slice x6 qs.length c6)).setCell (p := ⟨w.heap.size + 2, 2, none⟩) (Nat.le_add_right _ _) (.slice xt ts.length ct)
     have hos := (((hOS6.putBox (o := 1) (u := .slice x6 qs.length c6) hn6 (by decide) (by decide) (by decide)).put (o := 0) (u := .int .i64 vid) hsz3).put (o := 1) (u := .slice x6 qs.length c6) hsz3).put (o := 2) (u := .slice xt ts.length ct) hsz3
     have hor := ((((hO6.low (base' := w5.heap.size) (by simp)).putBox (o := 1) (u := .slice x6 qs.length c6) hn6 (by decide)).put (o := 0) (u := .int .i64 vid) hz5).put (o := 1) (u := .slice x6 qs.length c6) hz5).put (o := 2) (u := .slice xt ts.length ct) hz5
     exact ⟨_, by rw [hE0.out], hfin, fun h => absurd hE0.out h, fun _ => ⟨⟨vid, x6, qs.length, c6, qs, xt, ts.length, ct, ts⟩, rfl, ⟨hor.low (by omega), hos.low (by omega)⟩, rfl, ⟨i, hi, fun j hj => by have := hlow j hj; omega, hup, hqs.out⟩, hss⟩⟩
 ·have hne : eM vid rn rs sn ss r = aV vid rn rs sn ss ∧ aV vid rn rs sn ss ≠ 0 := ⟨if_pos hc0, hc0⟩
  go_wp2_with fail
  refine (hck).mono ?_
  rintro e w1 ⟨rfl, hbw1⟩
  have hT1 := hT0.later hbw1
  clear b0 b1 b2 p0 p1 p2 s0 s1 s2 zs0 zs1 zs2
  obtain ⟨b0, b1, b2⟩ := bI hT1.hb rfl rfl rfl
  obtain ⟨p0, p1, p2⟩ := bI hT1.hp rfl rfl rfl
  obtain ⟨s0, s1, s2⟩ := bI hT1.hs rfl rfl rfl
  obtain ⟨zs0, zs1, zs2⟩ := eO hT1.hs
  go_wp2
  refine bodyPost_ret (v := .tuple #[.agg #[.int .i64 0, .slice none 0 0, .slice none 0 0], .int .i64 (aV vid rn rs sn ss)]) (by simp [results, Tryz.results137, go_sem, s0, s1, s2]) rfl ?_
  exact fM.err hne (((hT1.below.setCell (p := ⟨w.heap.size + 2, 0, none⟩) (Nat.le_add_right _ _) _).setCell (p := ⟨w.heap.size + 2, 1, none⟩) (Nat.le_add_right _ _) _).setCell (p := ⟨w.heap.size + 2, 2, none⟩) (Nat.le_add_right _ _) _)
def posRg (r : Rg) (rs : List Rg) : Nat := ((List.range rs.length).find? fun i => decide (r.a < (aL rs i).a)).getD rs.length
def gK (r : Rg) (rs : List Rg) : List Rg := rs.take (posRg r rs) ++ [r] ++ rs.drop (posRg r rs)
theorem K2 (h : R2 r rs rs') : rs' = gK r rs := by
 obtain ⟨i, hi, hlo, hup, rfl⟩ := h
 have : posRg r rs = i := by
  unfold posRg
  by_cases h : i < rs.length
  ·have : (List.range rs.length).find? (fun i => decide (r.a < (aL rs i).a)) = some i := by
    rw [List.find?_range_eq_some]
    exact ⟨by simpa using hup h, by simpa using h, fun j hj => by simpa using hlo j hj⟩
   rw [this]
   rfl
  ·obtain rfl : i = rs.length := by omega
   have : (List.range rs.length).find? (fun i => decide (r.a < (aL rs i).a)) = none := by
    rw [List.find?_eq_none]
    intro j hj
    have := hlo j (by simpa using hj)
    simpa using this
   rw [this]
   rfl
 unfold gK
 rw [this]
theorem BB : (gK r rs).length = rs.length + 1 := by
 have h1 : rs.length = (rs.take (posRg r rs)).length + (rs.drop (posRg r rs)).length := by
  rw [← List.length_append, List.take_append_drop]
 unfold gK
 rw [List.length_append, List.length_append, List.length_singleton]
 omega
def yV (v : Vn) (rs : List Rg) : Vn := ⟨v.id, v.rx, rs.length, v.rc, rs, v.sx, v.sn, v.sc, v.ss⟩
def growVs (vs : List Vn) (i : Nat) (r : Rg) : List Vn := vs.set i (yV (vnAt vs i) (gK r (vnAt vs i).rs))
def iY (n : Nat) (vs : List Vn) (ln : Nat) (ls : List (Int × Int)) (id : Int) (r : Rg) : Int :=
 if bE n vs ln ls = 0 then (if aG n vs id < 0 then 5 else if eM (vnAt vs (aG n vs id).toNat).id (vnAt vs (aG n vs id).toNat).rn (vnAt vs (aG n vs id).toNat).rs (vnAt vs (aG n vs id).toNat).sn (vnAt vs (aG n vs id).toNat).ss r = 0 then (if sU ls n (growVs vs (aG n vs id).toNat r) = false then 9 else 0) else eM (vnAt vs (aG n vs id).toNat).id (vnAt vs (aG n vs id).toNat).rn (vnAt vs (aG n vs id).toNat).rs (vnAt vs (aG n vs id).toNat).sn (vnAt vs (aG n vs id).toNat).ss r) else bE n vs ln ls
def uN (n : Nat) (vs : List Vn) (ls : List (Int × Int)) (id : Int) (r : Rg) (us : List Vn) (ms : List (Int × Int)) : Prop := cI (growVs vs (aG n vs id).toNat r) us ∧ ms = ls
theorem vplace_cases (n : Nat) (vs : List Vn) (id : Int) : (∃ i : Nat, i < n ∧ (vnAt vs i).id = id ∧ aG n vs id = i) ∨ aG n vs id = -1 := by
 unfold aG
 cases h : (List.range n).find? (fun i => (vnAt vs i).id == id) with
 | none => exact .inr rfl
 | some i =>
  obtain ⟨h1, h2, -⟩ := List.find?_range_eq_some.1 h
  exact .inl ⟨i, by simpa using h2, by simpa using h1, rfl⟩
structure TQ (w W : World) (x : Option Addr) (n c : Nat) (lx : Option Addr) (ln lc : Nat) (r : Rg) : Prop where
 hb : W.heap[w.heap.size]? = some (nH x n c lx ln lc)
 hp : W.heap[w.heap.size + 1]? = some (.cells #[.int .i64 r.a, .int .i64 r.l, .int .i64 r.p] 51)
 hs : W.heap[w.heap.size + 2]? = some (dZ (.slice none 0 0) (.slice none 0 0))
 below : Below w.heap.size w W
theorem TQ.later (h : TQ w W x n c lx ln lc r) (hb : Below W.heap.size W W') : TQ w W' x n c lx ln lc r :=
 ⟨aB hb h.hb, aB hb h.hp, aB hb h.hs, h.below.trans (hb.mono h.below.size)⟩
theorem OU {vs : List Vn} : bF (growVs vs i r) = bF vs := by
 unfold growVs bF
 refine List.ext_getElem (by simp) fun j h1 h2 => ?_
 have hj : j < vs.length := by simpa using h2
 rw [List.getElem_map, List.getElem_map, List.getElem_set]
 split
 ·rename_i e
  subst e
  rw [← eT hj]
  rfl
 ·rfl
theorem IV (hl : v.ss.length = v.sn) (he : eM v.id v.rn v.rs v.sn v.ss r = eg) (h : fM v.id v.rn v.rs v.sn v.ss r w e w') :
  ∃ u : Vn, e = .returned (.tuple #[V9 u, .int .i64 eg]) ∧ Below w.heap.size w w' ∧ (eg = 0 → mD w' w.heap.size u ∧ nB (yV v (gK r v.rs)) u) := by
 obtain ⟨V, h1, h2, h3, h4⟩ := h
 rw [he] at h1 h3 h4
 by_cases h0 : eg = 0
 ·obtain ⟨u, rfl, hu, hid, hpr, hss⟩ := h4 h0
  refine ⟨u, h1, h2, fun _ => ⟨hu, ?_⟩⟩
  have hrs := K2 hpr
  obtain ⟨x1, c1, e1, -⟩ := hu.1.rs
  obtain ⟨x2, c2, e2, -⟩ := hu.2.subs
  simp only [Value.slice.injEq] at e1 e2
  refine ⟨hid.symm, ?_, hrs.symm, ?_, hss⟩
  ·rw [e1.2.1, hrs]
   rfl
  ·show v.sn = u.sn
   rw [e2.2.1, ← hl]
   exact hss.1
 ·refine ⟨UV, ?_, h2, fun h => absurd h h0⟩
  rw [h1, h3 h0]
  rfl
theorem cI.grow {vs : List Vn} {u : Vn} (h : cI vs us) (hi : i < vs.length) (hu : nB (yV (vnAt vs i) (gK r (vnAt vs i).rs)) u) : cI (growVs vs i r) (us.set i u) := by
 unfold growVs
 refine ⟨by rw [List.length_set, List.length_set]; exact h.1, fun j hj => ?_⟩
 rw [List.length_set] at hj
 rw [cE hi, cE (by rw [← h.1]; exact hi)]
 by_cases e : i = j
 ·rw [if_pos e, if_pos e]; exact hu
 ·rw [if_neg e, if_neg e]; exact h.2 j hj
theorem K3 (x : Option Addr) (n c : Nat) (vs : List Vn) (lx : Option Addr) (ln lc : Nat) (ls : List (Int × Int)) (id : Int) (r : Rg) (w : World) (hp : VS w x n vs) (hn : n ≤ 9223372036854775807) (hnc : n ≤ c) (hl : PS w lx ln ls) (hln : ln ≤ 9223372036854775807) :
  Calls Tryz.prog 98 #[.agg #[.slice x n c, .slice lx ln lc], .int .i64 id, .agg #[.int .i64 r.a, .int .i64 r.l, .int .i64 r.p]] w (dG (iY n vs ln ls id r) (uN n vs ls id r) w) := by
 have hvl : Hid (vs.length = n) := hp.len
 have hll : Hid (ls.length = ln) := hl.len
 obtain ⟨E, hEE⟩ : ∃ E, E = iY n vs ln ls id r := ⟨_, rfl⟩
 rw [← hEE]
 unfold iY at hEE
 replace hEE := Hid.mk' hEE
 go_enter Tryz.func98, Tryz.ntmps98
 go_upto_region 1 with fail
 obtain ⟨w0, hw0⟩ : ∃ w0, w0 = ((w.alloc (nH x n c lx ln lc)).alloc (.cells #[.int .i64 r.a, .int .i64 r.l, .int .i64 r.p] 51)).alloc (dZ (.slice none 0 0) (.slice none 0 0)) := ⟨_, rfl⟩
 rw [← hw0]
 have hT0 : TQ w w0 x n c lx ln lc r := by
  rw [hw0]
  exact ⟨aF _ (aF _ (aC _ rfl)), aF _ (aC _ (by simp)), aC _ (by simp), (cB w _ _).trans ((bl1 _ _).mono (by simp; omega))⟩
 clear hw0
 obtain ⟨k0, k1⟩ := aO hT0.hb rfl rfl
 obtain ⟨ks0, ks1⟩ := aO hT0.hs rfl rfl
 obtain ⟨kz0, kz1⟩ := cH hT0.hs
 by_cases hc0 : bE n vs ln ls = 0
 ·have hck := fL x n c vs lx ln lc ls 0 hc0 w0 (hp.later hT0.below) hn hnc (hl.later hT0.below) hln
  obtain ⟨h6, h12, hfew⟩ := rN hc0
  rw [if_pos hc0] at hEE
  obtain ⟨-, -, hvb, hlb, -⟩ := dW hc0
  have hvf := sV hvb
  have hlk0 := pS hvl.out hlb
  have hr4 : ∀ i, i < n → (vnAt vs i).rs.length ≤ 4 := fun i hi => by
   rw [(hp.vps i hi).2.2.2.ranges.len]
   exact (cA (lW hvb i hi)).1
  clear hc0 hvb hlb
  go_wp2_with fail
  refine hck.mono ?_
  rintro e w1 ⟨rfl, hb⟩
  have hT1 := hT0.later hb
  clear k0 k1 ks0 ks1 kz0 kz1
  obtain ⟨k0, k1⟩ := aO hT1.hb rfl rfl
  obtain ⟨ks0, ks1⟩ := aO hT1.hs rfl rfl
  obtain ⟨kz0, kz1⟩ := cH hT1.hs
  clear hck
  obtain ⟨t, ht⟩ : ∃ t, aG n vs id = t := ⟨_, rfl⟩
  have hpl := sP id x n c vs lx ln lc t ht w1 (hp.later hT1.below) (by omega)
  have hvc := vplace_cases n vs id
  have hRt : Hid (∀ us ms, cI (growVs vs t.toNat r) us → ms = ls → uN n vs ls id r us ms) := fun us ms h1 h2 => ⟨by rw [ht]; exact h1, h2⟩
  rw [ht] at hEE hvc
  clear ht
  rcases hvc with ⟨i, hi, -, hti⟩ | hti
  ·subst hti
   have hi0 : ¬ ((i : Int) < 0) := by omega
   rw [if_neg hi0, Int.toNat_natCast] at hEE
   rw [Int.toNat_natCast] at hRt
   go_wp2_with fail
   refine hpl.mono ?_
   rintro e w2 ⟨rfl, hb⟩
   have hT2 := hT1.later hb
   clear k0 k1 ks0 ks1 kz0 kz1
   obtain ⟨k0, k1⟩ := aO hT2.hb rfl rfl
   obtain ⟨ks0, ks1⟩ := aO hT2.hs rfl rfl
   obtain ⟨kz0, kz1⟩ := cH hT2.hs
   clear hpl
   have hi' : Hid (i < n) := hi
   have hvp := (hp.later hT2.below).vps i hi
   have hgr := fun W (hW : Below w2.heap.size w2 W) => HV (vnAt vs i).id (vnAt vs i).rx (vnAt vs i).rn (vnAt vs i).rc (vnAt vs i).rs (vnAt vs i).sx (vnAt vs i).sn (vnAt vs i).sc (vnAt vs i).ss r W (hvp.2.2.2.later hW) hvp.1 hvp.2.1 hvp.2.2.1
   have hsl : Hid ((vnAt vs i).ss.length = (vnAt vs i).sn) := hvp.2.2.2.subs.len
   obtain ⟨bx, ox, hxo, d0, d1, d2⟩ := (hp.later hT2.below).cells i hi
   subst hxo
   have hi1 : (i : Int) < n := by omega
   have hi2 : (0 : Int) ≤ i := by omega
   have a0 := Ws.here k0
   have a1 := Ws.here d0
   have a2 := Ws.here d1
   have a3 := Ws.here d2
   have a4 := Ws.here (aU hT2.hp 0 rfl)
   have a5 := Ws.here (aU hT2.hp 1 rfl)
   have a6 := Ws.here (aU hT2.hp 2 rfl)
   go_upto_region 7 with fail
   clear d0 d1 d2
   obtain ⟨eg, heg⟩ : ∃ eg, eM (vnAt vs i).id (vnAt vs i).rn (vnAt vs i).rs (vnAt vs i).sn (vnAt vs i).ss r = eg := ⟨_, rfl⟩
   rw [heg] at hEE
   go_cut [10, 11] (fun p v wd => v = .int .i64 eg ∧ ∃ bp u, p = .pointer (some ⟨bp, 0, none⟩) ∧ w2.heap.size ≤ bp ∧ Below w2.heap.size w2 wd ∧ wd.heap[bp]? = some (PZ u) ∧ (eg = 0 → mD wd w2.heap.size u ∧ nB (yV (vnAt vs i) (gK r (vnAt vs i).rs)) u))
   case first =>
    clear k0 k1 ks0 ks1 kz0 kz1
    have hbd : Below w2.heap.size w2 w2.drew := (Below.refl _ _).drew
    refine bQ (fun w' => ∃ u : Ws w2.heap.size w2, w' = u.val) (fun j => decide (j < 12)) 13 _ (by kernel_rfl) rfl rfl ?_
    refine aZ 7 [0, 1, 2, 3, 4, 5] rfl _ rfl (by kernel_rfl) (fun d _ _ _ _ h => by cases d <;> exact h) ⟨⟨_, hbd⟩, rfl⟩ ?_
    simp only [List.map_cons, List.map_nil, List.getD_cons_zero, List.getD_cons_succ]
    repeat (go_big_quiet_step (fail))
    refine wpQuiet_nil ?_
    clear a0 a1 a2 a3 a4 a5 a6
    refine iD 6 10 _ _ _ _ (by kernel_rfl) (by kernel_rfl) rfl rfl rfl rfl ?_ ?_
    ·intro K hK
     simp only [List.getD_cons_zero, List.getD_cons_succ]
     go_wp2_with fail
     refine (hgr w2.drew hbd).mono ?_
     rintro e w3 hpo
     obtain ⟨u, rfl, hb3, hu⟩ := IV hsl.out heg hpo
     have hB3 : Below w2.heap.size w2 w3 := ⟨hb3.os, hb3.tape, hb3.output, hb3.size, hb3.block⟩
     go_wp2_with fail
     refine aD (hK.out _ _ ⟨⟨_, hB3⟩, rfl⟩ ?_)
     clear hK K
     refine aZ 3 [7, 8, 9] rfl _ rfl (by kernel_rfl) (fun d _ _ _ _ h => by cases d <;> exact h) ⟨⟨_, hB3⟩, rfl⟩ ?_
     simp only [List.map_cons, List.map_nil, List.getD_cons_zero, List.getD_cons_succ]
     repeat (go_big_quiet_step (fail))
     refine wpQuiet_nil ?_
     refine aW 10 _ _ (by kernel_rfl) (by kernel_rfl) rfl rfl ?_
     intro K hK
     simp only [List.getD_cons_zero, List.getD_cons_succ]
     go_wp2_with fail
     have hB4 : Below w2.heap.size w2 (w3.alloc (cZ 0 (.slice none 0 0) (.slice none 0 0))) := hB3.trans ((bl1 w3 _).mono hB3.size)
     refine aD (hK.out _ _ ⟨⟨_, hB4⟩, rfl⟩ ?_)
     clear hK K
     obtain ⟨w4, hw4⟩ : ∃ w4, w4 = w3.alloc (cZ 0 (.slice none 0 0) (.slice none 0 0)) := ⟨_, rfl⟩
     rw [← hw4] at hB4 ⊢
     have h34 : Below w3.heap.size w3 w4 := by rw [hw4]; exact bl1 w3 _
     have hy : w4.heap[w3.heap.size]? = some (cZ 0 (.slice none 0 0) (.slice none 0 0)) := by rw [hw4]; exact aC _ rfl
     clear hw4
     have hnb : w2.heap.size ≤ w3.heap.size := hB3.size
     have hu4 := fun h => ((hu h).1.low (base' := w2.heap.size) (Nat.le_refl _)).later h34
     have hsu := fun h => (hu h).2
     obtain ⟨bp, hbp⟩ : ∃ bp, bp = w3.heap.size := ⟨_, rfl⟩
     rw [← hbp] at hy hnb ⊢
     clear hbp
     obtain ⟨q0, q1, q2⟩ := bI hy rfl rfl rfl
     obtain ⟨f0, f1, f2⟩ := eO hy
     refine aW 11 _ _ (by kernel_rfl) (by kernel_rfl) rfl rfl ?_
     intro K hK
     simp only [List.getD_cons_zero, List.getD_cons_succ]
     go_wp2_with fail
     have hB5 : Below w2.heap.size w2 (((w4.setCell ⟨bp, 0, none⟩ (.int .i64 u.id)).setCell ⟨bp, 1, none⟩ (.slice u.rx u.rn u.rc)).setCell ⟨bp, 2, none⟩ (.slice u.sx u.sn u.sc)) := ((hB4.setCell (p := ⟨bp, 0, none⟩) hnb _).setCell (p := ⟨bp, 1, none⟩) hnb _).setCell (p := ⟨bp, 2, none⟩) hnb _
     refine aD (hK.out _ _ ⟨⟨_, hB5⟩, rfl⟩ ?_)
     clear hK K q0 q1 q2 f0 f1 f2
     refine aY [12] rfl (by kernel_rfl) ?_
     simp only [List.map_cons, List.map_nil, List.getD_cons_zero, List.getD_cons_succ]
     go_wp2_with fail
     go_meet
     case rel => exact ⟨rfl, bp, u, rfl, hnb, hB5, CK hy, fun h => ⟨(((hu4 h).putBox (o := 0) (u := .int .i64 u.id) hy (by decide) (by decide) (by decide) (by decide)).putBox (o := 1) (u := .slice u.rx u.rn u.rc) (heap_setCell_same w4 bp 0 _ _ _ hy) (by decide) (by decide) (by decide) (by decide)).putBox (o := 2) (u := .slice u.sx u.sn u.sc) (heap_setCell_same _ bp 1 _ _ _ (heap_setCell_same w4 bp 0 _ _ _ hy)) (by decide) (by decide) (by decide) (by decide), hsu h⟩⟩
    ·intro K hK
     simp only [List.getD_cons_zero, List.getD_cons_succ]
     go_wp2_with fail
     have hB3 : Below w2.heap.size w2 (w2.alloc (cZ 0 (.slice none 0 0) (.slice none 0 0))).drew := (bl1 w2 _).drew
     refine aD (hK.out _ _ ⟨⟨_, hB3⟩, rfl⟩ ?_)
     clear hK K
     have hy0 : ((w2.alloc (cZ 0 (.slice none 0 0) (.slice none 0 0))).drew).heap[w2.heap.size]? = some (cZ 0 (.slice none 0 0) (.slice none 0 0)) := aC (W := w2) _ rfl
     refine aW 6 _ _ (by kernel_rfl) (by kernel_rfl) rfl rfl ?_
     intro K hK
     simp only [List.getD_cons_zero, List.getD_cons_succ]
     go_wp2_with fail
     refine (hgr _ hB3).mono ?_
     rintro e w4 hpo
     obtain ⟨u, rfl, hb3, hu⟩ := IV hsl.out heg hpo
     have hB4 : Below w2.heap.size w2 w4 := hB3.trans (hb3.mono hB3.size)
     go_wp2_with fail
     refine aD (hK.out _ _ ⟨⟨_, hB4⟩, rfl⟩ ?_)
     clear hK K
     refine aZ 2 [7, 8, 9] rfl _ rfl (by kernel_rfl) (fun d _ _ _ _ h => by cases d <;> exact h) ⟨⟨_, hB4⟩, rfl⟩ ?_
     simp only [List.map_cons, List.map_nil, List.getD_cons_zero, List.getD_cons_succ]
     repeat (go_big_quiet_step (fail))
     refine wpQuiet_nil ?_
     have hy := aB hb3 hy0
     have hnb : w2.heap.size ≤ w2.heap.size := Nat.le_refl _
     have hu4 := fun h => (hu h).1.low (base' := w2.heap.size) hB3.size
     have hsu := fun h => (hu h).2
     obtain ⟨q0, q1, q2⟩ := bI hy rfl rfl rfl
     obtain ⟨f0, f1, f2⟩ := eO hy
     refine aW 11 _ _ (by kernel_rfl) (by kernel_rfl) rfl rfl ?_
     intro K hK
     simp only [List.getD_cons_zero, List.getD_cons_succ]
     go_wp2_with fail
     have hB5 : Below w2.heap.size w2 (((w4.setCell ⟨w2.heap.size, 0, none⟩ (.int .i64 u.id)).setCell ⟨w2.heap.size, 1, none⟩ (.slice u.rx u.rn u.rc)).setCell ⟨w2.heap.size, 2, none⟩ (.slice u.sx u.sn u.sc)) := ((hB4.setCell (p := ⟨w2.heap.size, 0, none⟩) hnb _).setCell (p := ⟨w2.heap.size, 1, none⟩) hnb _).setCell (p := ⟨w2.heap.size, 2, none⟩) hnb _
     refine aD (hK.out _ _ ⟨⟨_, hB5⟩, rfl⟩ ?_)
     clear hK K q0 q1 q2 f0 f1 f2
     refine aY [12] rfl (by kernel_rfl) ?_
     simp only [List.map_cons, List.map_nil, List.getD_cons_zero, List.getD_cons_succ]
     go_wp2_with fail
     go_meet
     case rel => exact ⟨rfl, w2.heap.size, u, rfl, hnb, hB5, CK hy, fun h => ⟨(((hu4 h).putBox (o := 0) (u := .int .i64 u.id) hy (by decide) (by decide) (by decide) (by decide)).putBox (o := 1) (u := .slice u.rx u.rn u.rc) (heap_setCell_same w4 w2.heap.size 0 _ _ _ hy) (by decide) (by decide) (by decide) (by decide)).putBox (o := 2) (u := .slice u.sx u.sn u.sc) (heap_setCell_same _ w2.heap.size 1 _ _ _ (heap_setCell_same w4 w2.heap.size 0 _ _ _ hy)) (by decide) (by decide) (by decide) (by decide), hsu h⟩⟩
   case rest =>
    obtain ⟨rfl, bp, u, rfl, hnb, hBc, hbp, hu⟩ := hcut
    have hTc := hT2.later hBc
    clear k0 k1 ks0 ks1 kz0 kz1
    clear a0 a1 a2 a3 a4 a5 a6 hgr
    obtain ⟨k0, k1⟩ := aO hTc.hb rfl rfl
    obtain ⟨ks0, ks1⟩ := aO hTc.hs rfl rfl
    obtain ⟨kz0, kz1⟩ := cH hTc.hs
    by_cases heg0 : eg = 0
    ·rw [if_pos heg0] at hEE
     obtain ⟨hVu, hsu⟩ := hu heg0
     have hne : (eg != 0) = false := by simp [heg0]
     have hEH : Hid (E = if sU ls n (growVs vs i r) = false then 9 else 0) := hEE.out
     have hru : Hid (u.rn ≤ 64) := by
      show _ ≤ _
      rw [← hsu.2.1]
      have h1 := hr4 i hi'.out
      show (gK r (vnAt vs i).rs).length ≤ 64
      rw [BB]
      omega
     have hfn := gC (some ⟨bx, ox, none⟩) n c vs lx ln lc ls wc (hp.later hTc.below) (by omega) (hl.later hTc.below) (by omega) hfew
     clear hEE heg0 hu heg
     go_wp2_with fail
     refine hfn.mono ?_
     rintro e w4 ⟨vV, vK, us, rfl, hsv, hOV, hVo, hOK, hb4⟩
     have hT4 := hTc.later hb4
     clear hfn hne
     have hul : Hid (us.length = n) := by show _ = _; rw [← hsv.1]; exact hvl.out
     have hiu : i < us.length := by rw [hul.out]; exact hi'.out
     obtain ⟨g, C, hvV⟩ := hOV.held (by omega)
     obtain ⟨Y, D, hvK, hYm⟩ := hOK.mem
     subst hvV
     subst hvK
     have hw3s : Hid (w.heap.size + 2 < wc.heap.size) := (Array.getElem?_eq_some_iff.1 hTc.hs).1
     have hbp4 := aB hb4 hbp
     clear k0 k1 ks0 ks1 kz0 kz1
     go_upto_region 11 with fail
     obtain ⟨w5, hw5⟩ : ∃ w5, w5 = w4.alloc (dZ (.slice (some ⟨g, 0, none⟩) us.length C) (.slice Y ls.length D)) := ⟨_, rfl⟩
     rw [← hw5]
     have hb5 : Below w4.heap.size w4 w5 := by rw [hw5]; exact bl1 w4 _
     have hbx5 : w5.heap[w4.heap.size]? = some (dZ (.slice (some ⟨g, 0, none⟩) us.length C) (.slice Y ls.length D)) := by rw [hw5]; exact aC _ rfl
     clear hw5
     have hT5 := hT4.later hb5
     have hbp5 := aB hb5 hbp4
     have hOV5 := hOV.later hb5
     obtain ⟨hgb, cur, hcur⟩ := hOV5.block
     obtain ⟨y0, y1, y2⟩ := hOV5.cells i hiu
     have z0 := hOV5.frozen (i * 3)
     have z1 := hOV5.frozen (i * 3 + 1)
     have z2 := hOV5.frozen (i * 3 + 2)
     have m0 := aU hbx5 0 rfl
     obtain ⟨u0, u1, u2⟩ := bI hbp5 rfl rfl rfl
     have hi3 : (i : Int) < us.length := by omega
     have hOVs := hOV5.setE i hiu u
     have hVos : ∀ j, j < us.length → mD (jM w5 g i u) w2.heap.size (vnAt (us.set i u) j) := fun j hj => by
      rw [cE hiu]
      split
      ·exact (((hVu.later hb4).later hb5)).setN hOV5
      ·exact ((((hVo j hj).later hb5)).setN hOV5).low hBc.size
     have hOKs : bU (jM w5 g i u) wc.heap.size (.slice Y ls.length D) ls := (hOK.later hb5).setN hOV5
     have hne4 : w4.heap.size ≠ g := fun e => by rw [← e, hbx5] at hcur; simp at hcur
     have hbxs : (jM w5 g i u).heap[w4.heap.size]? = some (dZ (.slice (some ⟨g, 0, none⟩) us.length C) (.slice Y ls.length D)) := (gB hne4).trans hbx5
     have hg0 : w.heap.size ≠ g := by have := hw3s.out; omega
     have hg1 : w.heap.size + 1 ≠ g := by have := hw3s.out; omega
     have hg2 : w.heap.size + 2 ≠ g := by have := hw3s.out; omega
     have hTs : TQ w (jM w5 g i u) (some ⟨bx, ox, none⟩) n c lx ln lc r := ⟨(gB hg0).trans hT5.hb, (gB hg1).trans hT5.hp, (gB hg2).trans hT5.hs, mR hT5.below (by have := hw3s.out; omega)⟩
     go_upto_region 12 with fail
     obtain ⟨w6, hw6⟩ : ∃ w6, w6 = jM w5 g i u := ⟨_, rfl⟩
     rw [← hw6] at hOVs hVos hOKs hbxs hTs
     unfold jM at hw6
     rw [← hw6]
     clear hw6 y0 y1 y2 z0 z1 z2 m0 u0 u1 u2 hOV5 hOV hVo hOK hbx5 hT5 hbp5 hbp4 hi3
     have hsg : Hid (cI (growVs vs i r) (us.set i u)) := hsv.grow (by rw [hvl.out]; exact hi'.out) hsu
     obtain ⟨us', hus'⟩ : ∃ us', Hid (us' = us.set i u) := ⟨_, rfl⟩
     have hul' : Hid (us'.length = us.length) := by show _ = _; rw [hus'.out, List.length_set]
     rw [← hus'.out] at hOVs hVos hsg
     have hVk : ∀ v ∈ us', lE w6 v := fun v hv => by
      obtain ⟨j, hj, rfl⟩ := dF hv
      exact lE.of (hVos j (by rw [← hul'.out]; exact hj))
     obtain ⟨X', C', hv', hVS6, hXC', -, -⟩ := hOVs.vs hVk
     rw [hul'.out] at hv' hVS6 hXC'
     simp only [Value.slice.injEq] at hv'
     obtain ⟨hX', -, hC'⟩ := hv'
     subst hX'
     subst hC'
     obtain ⟨Y', D', hk', hPS6, -⟩ := hOKs.ps
     simp only [Value.slice.injEq] at hk'
     obtain ⟨rfl, -, rfl⟩ := hk'
     have hR := hRt.out us' ls hsg.out rfl
     have hRH : Hid (uN n vs ls id r us' ls) := hR
     obtain ⟨ta, hta⟩ : ∃ t, sU ls n (growVs vs i r) = t := ⟨_, rfl⟩
     have hgl : (growVs vs i r).length = n := by unfold growVs; rw [List.length_set]; exact hvl.out
     have hap := napart_is (some ⟨g, 0, none⟩) us.length C us' Y ls.length D ls ta (by rw [hul.out, FC hgl hsg.out]; exact hta) w6 hVS6 (by rw [hul.out]; omega) hXC' hPS6 (by rw [hll.out]; omega) (fun j hj => by
      rw [hus'.out, cE hiu]
      split
      ·rename_i e
       rw [← hsu.1]
       exact (hvf i hi'.out).1
      ·rw [← (hsv.2 j (by rw [hsv.1]; exact hj)).1]
       exact (hvf j (by rw [← hul.out]; exact hj)).1) (fun j hj => by
      rw [hus'.out, cE hiu]
      split
      ·exact hru.out
      ·rw [← (hsv.2 j (by rw [hsv.1]; exact hj)).2.1]
       exact (hvf j (by rw [← hul.out]; exact hj)).2) (fun j hj => by
      have h1 : bF us' = bF vs := by
       rw [FB hsg.out]
       exact OU
      rw [h1]
      exact hlk0 j (by rw [← hll.out]; exact hj))
     rw [hta] at hEH
     clear hta hVS6 hPS6 hR hRt
     obtain ⟨g0, g1⟩ := aO hbxs rfl rfl
     go_wp2_with fail
     refine hap.mono ?_
     rintro e w8 ⟨rfl, hb8⟩
     have hT8 := hTs.later hb8
     have hbx8 := aB hb8 hbxs
     have hO8 := hOVs.later hb8
     have hVk8 := fun v hv => (hVk v hv).later hb8
     have hOK8 := hOKs.later hb8
     have hVos8 := fun j hj => (hVos j hj).later hb8
     clear g0 g1 hap hOVs hVk hOKs hbxs hTs hb8 hVos
     obtain ⟨g0, g1⟩ := aO hbx8 rfl rfl
     obtain ⟨k0, k1⟩ := aO hT8.hb rfl rfl
     obtain ⟨ks0, ks1⟩ := aO hT8.hs rfl rfl
     obtain ⟨kz0, kz1⟩ := cH hT8.hs
     cases ta with
     | false =>
      have hE2 : Hid (E = 9 ∧ (9 : Int) ≠ 0) := ⟨hEH.out.trans (if_pos rfl), by decide⟩
      clear hEH
      go_wp2
      refine bodyPost_ret (v := .tuple #[.agg #[.slice none 0 0, .slice none 0 0], .int .i64 9]) (by simp [results, Tryz.results98, go_sem, ks0, ks1]) rfl ?_
      exact dG.err hE2.out ((hT8.below.setCell (p := ⟨w.heap.size + 2, 0, none⟩) (Nat.le_add_right _ _) _).setCell (p := ⟨w.heap.size + 2, 1, none⟩) (Nat.le_add_right _ _) _)
     | true =>
      have hE3 : Hid (E = 0) := hEH.out.trans (if_neg (by decide))
      clear hEH
      have hw2s : Hid (w.heap.size + 2 < w2.heap.size) := (Array.getElem?_eq_some_iff.1 hT2.hs).1
      have hO8' : bX w8 wc.heap.size (.slice (some ⟨g, 0, none⟩) us.length C) us' := hO8
      go_wp2
      refine bodyPost_ret (v := .tuple #[.agg #[.slice (some ⟨g, 0, none⟩) us.length C, .slice Y ls.length D], .int .i64 0]) (by simp [results, Tryz.results98, go_sem, ks0, ks1]) rfl ?_
      exact dG.ok hE3.out ((hT8.below.setCell (p := ⟨w.heap.size + 2, 0, none⟩) (Nat.le_add_right _ _) _).setCell (p := ⟨w.heap.size + 2, 1, none⟩) (Nat.le_add_right _ _) _) (us := us') (ms := ls) (NO.of ((hO8'.put hw3s.out).put hw3s.out) (by have := hw3s.out; omega) (b2 := w2.heap.size) (fun v hv => by
       obtain ⟨j, hj, rfl⟩ := dF hv
       exact ((hVos8 j (by rw [← hul'.out]; exact hj)).put hw2s.out).put hw2s.out) (by have := hw2s.out; omega) ((hOK8.put hw3s.out).put hw3s.out) (by have := hw3s.out; omega)) hRH.out
    ·rw [if_neg heg0] at hEE
     have hE2 : Hid (E = eg ∧ eg ≠ 0) := ⟨hEE.out, heg0⟩
     have hne : (eg != 0) = true := by simpa using heg0
     clear hEE hu heg heg0
     go_wp2
     refine bodyPost_ret (v := .tuple #[.agg #[.slice none 0 0, .slice none 0 0], .int .i64 eg]) (by simp [results, Tryz.results98, go_sem, ks0, ks1]) rfl ?_
     exact dG.err hE2.out ((hTc.below.setCell (p := ⟨w.heap.size + 2, 0, none⟩) (Nat.le_add_right _ _) _).setCell (p := ⟨w.heap.size + 2, 1, none⟩) (Nat.le_add_right _ _) _)
  ·subst hti
   have hE2 : Hid (E = 5 ∧ (5 : Int) ≠ 0) := ⟨hEE.out.trans (if_pos (by decide)), by decide⟩
   clear hEE hRt
   go_wp2_with fail
   refine hpl.mono ?_
   rintro e w2 ⟨rfl, hb⟩
   have hT2 := hT1.later hb
   clear k0 k1 ks0 ks1 kz0 kz1
   obtain ⟨k0, k1⟩ := aO hT2.hb rfl rfl
   obtain ⟨ks0, ks1⟩ := aO hT2.hs rfl rfl
   obtain ⟨kz0, kz1⟩ := cH hT2.hs
   clear hpl
   go_wp2
   refine bodyPost_ret (v := .tuple #[.agg #[.slice none 0 0, .slice none 0 0], .int .i64 5]) (by simp [results, Tryz.results98, go_sem, ks0, ks1]) rfl ?_
   exact dG.err hE2.out ((hT2.below.setCell (p := ⟨w.heap.size + 2, 0, none⟩) (Nat.le_add_right _ _) _).setCell (p := ⟨w.heap.size + 2, 1, none⟩) (Nat.le_add_right _ _) _)
 ·obtain ⟨t, ht⟩ : ∃ t, bE n vs ln ls = t := ⟨_, rfl⟩
  have hck := fL x n c vs lx ln lc ls t ht w0 (hp.later hT0.below) hn hnc (hl.later hT0.below) hln
  rw [ht] at hc0 hEE
  have hE1 : Hid (E = t ∧ t ≠ 0) := ⟨by rw [hEE.out, if_neg hc0], hc0⟩
  have hne : (t != 0) = true := by simpa using hc0
  clear hEE ht
  go_wp2_with fail
  refine hck.mono ?_
  rintro e w1 ⟨rfl, hb⟩
  have hT1 := hT0.later hb
  clear k0 k1 ks0 ks1 kz0 kz1
  obtain ⟨k0, k1⟩ := aO hT1.hb rfl rfl
  obtain ⟨ks0, ks1⟩ := aO hT1.hs rfl rfl
  obtain ⟨kz0, kz1⟩ := cH hT1.hs
  clear hck
  go_wp2
  refine bodyPost_ret (v := .tuple #[.agg #[.slice none 0 0, .slice none 0 0], .int .i64 t]) (by simp [results, Tryz.results98, go_sem, ks0, ks1]) rfl ?_
  exact dG.err hE1.out ((hT1.below.setCell (p := ⟨w.heap.size + 2, 0, none⟩) (Nat.le_add_right _ _) _).setCell (p := ⟨w.heap.size + 2, 1, none⟩) (Nat.le_add_right _ _) _)
def wN (f : Fc) : Fc := ⟨f.id, none, f.n, 0, f.ns⟩
def oP (s : Sb) : Sb := ⟨s.id, s.a, s.l, none, s.n, 0, s.fs.map wN⟩
def dI (v : Vn) : Vn := ⟨v.id, none, v.rn, 0, v.rs, none, v.sn, 0, v.ss.map oP⟩
theorem tC (fs : List Fc) (j : Nat) : fcAt (fs.map wN) j = wN (fcAt fs j) := by
 unfold fcAt
 rw [List.getD_eq_getElem?_getD, List.getD_eq_getElem?_getD, List.getElem?_map]
 cases fs[j]? <;> rfl
theorem oQ (ss : List Sb) (j : Nat) : sbAt (ss.map oP) j = oP (sbAt ss j) := by
 unfold sbAt
 rw [List.getD_eq_getElem?_getD, List.getD_eq_getElem?_getD, List.getElem?_map]
 cases ss[j]? <;> rfl
theorem eU (vs : List Vn) (j : Nat) : vnAt (vs.map dI) j = dI (vnAt vs j) := by
 unfold vnAt
 rw [List.getD_eq_getElem?_getD, List.getD_eq_getElem?_getD, List.getElem?_map]
 cases vs[j]? <;> rfl
theorem bR.can {fs : List Fc} (h : bR fs gs) : fs.map wN = gs.map wN := by
 refine List.ext_getElem (by rw [List.length_map, List.length_map]; exact h.1) fun i h1 h2 => ?_
 have hi : i < fs.length := by simpa using h1
 have hj : i < gs.length := by simpa using h2
 obtain ⟨a, b, c⟩ := h.2 i hi
 have e1 : fcAt fs i = fs[i] := by unfold fcAt; rw [List.getD_eq_getElem?_getD, List.getElem?_eq_getElem hi]; rfl
 have e2 : fcAt gs i = gs[i] := by unfold fcAt; rw [List.getD_eq_getElem?_getD, List.getElem?_eq_getElem hj]; rfl
 rw [List.getElem_map, List.getElem_map, ← e1, ← e2]
 unfold wN
 rw [a, b, c]
theorem bG.can (h : bG ss ts) : ss.map oP = ts.map oP := by
 refine List.ext_getElem (by rw [List.length_map, List.length_map]; exact h.1) fun i h1 h2 => ?_
 have hi : i < ss.length := by simpa using h1
 have hj : i < ts.length := by simpa using h2
 obtain ⟨a, b, c, d, e⟩ := h.2 i hi
 have e1 : sbAt ss i = ss[i] := by unfold sbAt; rw [List.getD_eq_getElem?_getD, List.getElem?_eq_getElem hi]; rfl
 have e2 : sbAt ts i = ts[i] := by unfold sbAt; rw [List.getD_eq_getElem?_getD, List.getElem?_eq_getElem hj]; rfl
 rw [List.getElem_map, List.getElem_map, ← e1, ← e2]
 unfold oP
 rw [a, b, c, d, e.can]
theorem nB.can {u : Vn} (h : nB v u) : dI v = dI u := by
 obtain ⟨a, b, c, d, e⟩ := h
 unfold dI
 rw [a, b, c, d, e.can]
theorem cI.can {vs : List Vn} (h : cI vs us) : vs.map dI = us.map dI := by
 refine List.ext_getElem (by rw [List.length_map, List.length_map]; exact h.1) fun i h1 h2 => ?_
 have hi : i < vs.length := by simpa using h1
 have hj : i < us.length := by simpa using h2
 rw [List.getElem_map, List.getElem_map, ← eT hi, ← eT hj]
 exact (h.2 i hi).can
theorem OV (a l : Int) (n : Nat) (fs : List Fc) : dT a l n (fs.map wN) = dT a l n fs := by
 have h1 : eL a l (fs.map wN) = eL a l fs := by
  funext i
  unfold eL
  rw [tC]
  rfl
 have h2 : dM (fs.map wN) = dM fs := by
  unfold dM
  rw [List.length_map]
  refine eI fun i _ => ?_
  unfold eG
  rw [tC, tC]
  rfl
 have h3 : allNs (fs.map wN) = allNs fs := by
  unfold allNs
  rw [List.flatMap_map]
  rfl
 unfold dT
 rw [h1, h2, h3]
theorem FD (vid : Int) (rn : Nat) (rs : List Rg) (sn : Nat) (ss : List Sb) : aV vid rn rs sn (ss.map oP) = aV vid rn rs sn ss := by
 have h1 : cO rn sn (ss.map oP) = cO rn sn ss := by
  unfold cO
  refine congrArg (fun f => decide (4 < rn) || decide (6 < sn) || aK sn f) (funext fun i => ?_)
  rw [oQ]
  unfold dY
  refine congrArg (fun f => decide (8 < (sbAt ss i).n) || aK (sbAt ss i).n f) (funext fun j => ?_)
  show decide (4 < (fcAt ((sbAt ss i).fs.map wN) j).n) = _
  rw [tC]
  rfl
 have h2 : lU rn rs (ss.map oP) = lU rn rs ss := by
  funext i
  unfold lU
  rw [oQ]
  have e1 : ∀ c m, wT (ss.map oP) c m = wT ss c m := fun c m => funext fun j => by
   unfold wT
   rw [oQ]
   rfl
  rw [e1]
  show (kP rn rs (sbAt ss i).id (sbAt ss i).a (sbAt ss i).l && !aK i (wT ss (sbAt ss i).a (sbAt ss i).l) && dT (sbAt ss i).a (sbAt ss i).l (sbAt ss i).n ((sbAt ss i).fs.map wN)) = _
  rw [OV]
 have h3 : gW (ss.map oP) = gW ss := by
  unfold gW
  rw [List.length_map]
  refine eI fun i _ => ?_
  unfold iH
  rw [oQ, oQ]
  rfl
 unfold aV mN
 rw [h1, h2, h3]
theorem bP (n : Nat) (vs : List Vn) (id : Int) : aG n (vs.map dI) id = aG n vs id := by
 have h : (fun i => (vnAt (vs.map dI) i).id == id) = fun i => (vnAt vs i).id == id := funext fun i => by
  rw [eU]
  rfl
 unfold aG
 rw [h]
theorem CS (ms : List (Int × Int)) (n : Nat) (vs : List Vn) : sU ms n (vs.map dI) = sU ms n vs := by
 unfold sU
 refine eI fun i _ => ?_
 unfold CJ
 refine eI fun j _ => ?_
 unfold wF
 rw [eU, eU]
 rfl
theorem kJ (n : Nat) (vs : List Vn) (ln : Nat) (ls : List (Int × Int)) : bE n (vs.map dI) ln ls = bE n vs ln ls := by
 have h1 : eC n (vs.map dI) = eC n vs := by
  have e1 : cQ (vs.map dI) = cQ vs := by
   unfold cQ
   rw [List.length_map]
   refine eI fun i _ => ?_
   unfold eH
   rw [eU, eU]
   rfl
  have e2 : (fun i => kD (vnAt (vs.map dI) i)) = fun i => kD (vnAt vs i) := funext fun i => by
   rw [eU]
   unfold kD
   show (!(aV (vnAt vs i).id (vnAt vs i).rn (vnAt vs i).rs (vnAt vs i).sn ((vnAt vs i).ss.map oP) == 0)) = _
   rw [FD]
  unfold eC
  rw [e1, e2]
 have h2 : cU n (vs.map dI) ln ls = cU n vs ln ls := by
  have e : mP n (vs.map dI) ls = mP n vs ls := funext fun i => by
   unfold mP
   rw [bP, bP]
  unfold cU
  rw [e]
 unfold bE
 rw [h1, h2, CS]
theorem K4 (n : Nat) (vs : List Vn) (ln : Nat) (ls : List (Int × Int)) (id : Int) : iR n (vs.map dI) ln ls id = iR n vs ln ls id := by
 unfold iR
 rw [kJ, bP]
theorem K5 (n : Nat) (vs : List Vn) (ln : Nat) (ls : List (Int × Int)) (a b : Int) : lY n (vs.map dI) ln ls a b = lY n vs ln ls a b := by
 unfold lY
 rw [kJ, bP, bP, CS]
theorem yW (vs : List Vn) (i : Nat) (r : Rg) : (growVs vs i r).map dI = growVs (vs.map dI) i r := by
 unfold growVs
 rw [List.map_set, eU]
 rfl
theorem HW (n : Nat) (vs : List Vn) (ln : Nat) (ls : List (Int × Int)) (id : Int) (r : Rg) : iY n (vs.map dI) ln ls id r = iY n vs ln ls id r := by
 have h : ∀ i, eM (vnAt (vs.map dI) i).id (vnAt (vs.map dI) i).rn (vnAt (vs.map dI) i).rs (vnAt (vs.map dI) i).sn (vnAt (vs.map dI) i).ss r = eM (vnAt vs i).id (vnAt vs i).rn (vnAt vs i).rs (vnAt vs i).sn (vnAt vs i).ss r := fun i => by
  rw [eU]
  unfold eM
  show (if aV (vnAt vs i).id (vnAt vs i).rn (vnAt vs i).rs (vnAt vs i).sn ((vnAt vs i).ss.map oP) ≠ 0 then aV (vnAt vs i).id (vnAt vs i).rn (vnAt vs i).rs (vnAt vs i).sn ((vnAt vs i).ss.map oP) else _) = _
  rw [FD]
  rfl
 unfold iY
 rw [kJ, bP, h, ← yW, CS]
def iS (id : Int) (vs : List Vn) : Nat := ((List.range vs.length).find? fun i => decide (id < (vnAt vs i).id)).getD vs.length
def oR (id : Int) (vs : List Vn) : List Vn := vs.take (iS id vs) ++ [newV id] ++ vs.drop (iS id vs)
theorem OW {id : Int} {vs : List Vn} (hi : i ≤ vs.length) (hlo : ∀ j, j < i → ¬ id < (vnAt vs j).id) (hup : i < vs.length → id < (vnAt vs i).id) : iS id vs = i := by
 unfold iS
 by_cases h : i < vs.length
 ·have : (List.range vs.length).find? (fun i => decide (id < (vnAt vs i).id)) = some i := by
   rw [List.find?_range_eq_some]
   exact ⟨by simpa using hup h, by simpa using h, fun j hj => by simpa using hlo j hj⟩
  rw [this]
  rfl
 ·obtain rfl : i = vs.length := by omega
  have : (List.range vs.length).find? (fun i => decide (id < (vnAt vs i).id)) = none := by
   rw [List.find?_eq_none]
   intro j hj
   have := hlo j (by simpa using hj)
   simpa using this
  rw [this]
  rfl
theorem K6 (id : Int) (vs : List Vn) : iS id (vs.map dI) = iS id vs := by
 unfold iS
 have h : (fun i => decide (id < (vnAt (vs.map dI) i).id)) = fun i => decide (id < (vnAt vs i).id) := funext fun i => by
  rw [eU]
  rfl
 rw [h, List.length_map]
theorem BC (id : Int) (vs : List Vn) : (oR id vs).map dI = oR id (vs.map dI) := by
 unfold oR
 rw [K6, List.map_append, List.map_append, List.map_take, List.map_drop]
 rfl
theorem ON.can {id : Int} {vs : List Vn} (h : ON id vs us) : us.map dI = oR id (vs.map dI) := by
 obtain ⟨us0, i, hs, hi, hlo, hup, rfl⟩ := h
 have e : us0.take i ++ [newV id] ++ us0.drop i = oR id us0 := by
  unfold oR
  rw [OW hi hlo hup]
 rw [e, BC, hs.can]
structure Bx (w W : World) (b : Nat) (X : Option Addr) (C : Nat) (Y : Option Addr) (D : Nat) (us : List Vn) (ms : List (Int × Int)) : Prop where
 box : W.heap[b]? = some (dZ (.slice X us.length C) (.slice Y ms.length D))
 vs : VS W X us.length us
 ps : PS W Y ms.length ms
 xc : us.length ≤ C
 c63 : C ≤ 9223372036854775807
 yd : ms.length ≤ D
 d63 : D ≤ 9223372036854775807
 below : Below w.heap.size w W
theorem NO.agg (h : NO w base V us ms) : ∃ X C Y D, V = .agg #[.slice X us.length C, .slice Y ms.length D] := by
 obtain ⟨X, C, Y, D, e, -⟩ := h.nn
 exact ⟨X, C, Y, D, e⟩
def C1 : List Vn := [newV 3]
def C2 : List Vn := [newV 1, newV 3]
def C3 : List Vn := growVs C2 1 ⟨256, 10, 7⟩
theorem K7 (h : j < ns.length) : bA ns j = ns[j] := by
 unfold bA
 rw [List.getD_eq_getElem?_getD, List.getElem?_eq_getElem h]
 rfl
theorem HX {vs : List Vn} (h : lY n vs ln ls a b = 0) : bE n vs ln ls = 0 ∧ a ≠ b ∧ ¬ aG n vs a < 0 ∧ ¬ aG n vs b < 0 ∧ L5 ln ls a b = false ∧ sU (dK (min a b, max a b) ls) n vs = true ∧ ln ≠ 12 := by
 unfold lY at h
 split at h
 ·rename_i h0
  split at h
  ·omega
  ·rename_i h1
   split at h
   ·omega
   ·rename_i h2
    split at h
    ·omega
    ·rename_i h3
     split at h
     ·omega
     ·rename_i h4
      split at h
      ·omega
      ·rename_i h5
       split at h
       ·omega
       ·rename_i h6
        exact ⟨h0, h1, h2, h3, by simpa using h4, by simpa using h5, h6⟩
 ·rename_i h0
  exact absurd h h0
theorem OX (h : fO p q = false) (hne : p ≠ q) : fO q p = true := by
 unfold fO at *
 simp only [Bool.or_eq_false_iff, Bool.and_eq_false_iff, decide_eq_false_iff_not, Bool.or_eq_true, Bool.and_eq_true, decide_eq_true_eq] at *
 obtain ⟨h1, h2⟩ := h
 by_cases e : q.1 < p.1
 ·exact .inl e
 ·refine .inr ⟨by omega, ?_⟩
  rcases h2 with h2 | h2
  ·omega
  ·have : p.2 ≠ q.2 := fun e2 => hne (Prod.ext (by omega) e2)
   omega
theorem oS {ps : List (Int × Int)} : jL ps (i + 1) = fO (lkAt ps i) (lkAt ps (i + 1)) := by
 unfold jL fO
 have e0 : ∀ j, dA ps j = (lkAt ps j).1 := fun _ => rfl
 have e1 : ∀ j, eA ps j = (lkAt ps j).2 := fun _ => rfl
 rw [Nat.add_sub_cancel, e0, e0, e1, e1]
 generalize lkAt ps i = p
 generalize lkAt ps (i + 1) = q
 simp only [Bool.false_or, show (i + 1 == 0) = false by simp]
 by_cases h1 : p.1 < q.1
 ·simp [h1]
 ·by_cases h2 : p.1 = q.1
  ·simp [h2]
  ·simp [h1, h2]
theorem IW (hj : j ≤ ls.length) : lkAt (ls.take j ++ [p] ++ ls.drop j) i = if i < j then lkAt ls i else if i = j then p else lkAt ls (i - 1) := by
 have hlen : (ls.take j).length = j := by rw [List.length_take]; omega
 unfold lkAt
 simp only [List.getD_eq_getElem?_getD]
 by_cases h1 : i < j
 ·rw [if_pos h1, List.append_assoc, List.getElem?_append_left (by omega), List.getElem?_take_of_lt h1]
 ·rw [if_neg h1]
  by_cases h2 : i = j
  ·rw [if_pos h2, List.append_assoc, List.getElem?_append_right (by omega), hlen, h2, Nat.sub_self]
   rfl
  ·rw [if_neg h2, List.getElem?_append_right (by simp; omega), List.getElem?_drop]
   rw [show j + (i - (List.take j ls ++ [p]).length) = i - 1 by simp; omega]
theorem yX (p : Int × Int) (ls : List (Int × Int)) : jF p ls ≤ ls.length ∧ (∀ j, j < jF p ls → fO p (lkAt ls j) = false) ∧ (jF p ls < ls.length → fO p (lkAt ls (jF p ls)) = true) := by
 cases h : (List.range ls.length).find? (fun i => fO p (lkAt ls i)) with
 | none =>
  have e : jF p ls = ls.length := by unfold jF; rw [h]; rfl
  rw [e]
  refine ⟨Nat.le_refl _, fun j hj => ?_, fun h => absurd h (Nat.lt_irrefl _)⟩
  have := List.find?_eq_none.1 h j (by simpa using hj)
  simpa using this
 | some i =>
  obtain ⟨h1, h2, h3⟩ := List.find?_range_eq_some.1 h
  have hi : i < ls.length := by simpa using h2
  have e : jF p ls = i := by unfold jF; rw [h]; rfl
  rw [e]
  exact ⟨by omega, fun j hj => by simpa using h3 j hj, fun _ => h1⟩
theorem OY (h : fF ls = true) (hp : p ∉ ls) : fF (dK p ls) = true := by
 obtain ⟨hj, hlo, hup⟩ := yX p ls
 have hr : ∀ i, i < ls.length → jL ls i = true := fun i hi => by
  unfold fF at h
  exact List.all_eq_true.1 h i (by simpa using hi)
 unfold dK
 generalize jF p ls = j at *
 refine uH fun i hi => ?_
 have hlen : (ls.take j ++ [p] ++ ls.drop j).length = ls.length + 1 := by simp; omega
 rw [hlen] at hi
 cases i with
 | zero => rfl
 | succ i =>
  rw [oS, IW hj, IW hj]
  by_cases h1 : i + 1 < j
  ·rw [if_pos (by omega), if_pos h1, ← oS]
   exact hr (i + 1) (by omega)
  ·rw [if_neg h1]
   by_cases h2 : i + 1 = j
   ·rw [if_pos (by omega), if_pos h2]
    have hi2 : i < ls.length := by omega
    refine OX (hlo i (by omega)) (fun e => hp ?_)
    rw [e]
    unfold lkAt
    rw [List.getD_eq_getElem?_getD, List.getElem?_eq_getElem hi2]
    exact List.getElem_mem hi2
   ·rw [if_neg h2, if_neg (by omega)]
    by_cases h3 : i = j
    ·rw [if_pos h3, Nat.add_sub_cancel, h3]
     exact hup (by omega)
    ·rw [if_neg h3, Nat.add_sub_cancel]
     obtain ⟨q, rfl⟩ : ∃ q, i = q + 1 := ⟨i - 1, by omega⟩
     rw [Nat.add_sub_cancel, ← oS]
     exact hr (q + 1) (by omega)
theorem TK (hl : ls.length = ln) {a b : Int} : L5 ln ls a b = decide ((min a b, max a b) ∈ ls) := U7 hl a b
theorem HZ {vs : List Vn} (hvl : vs.length = n) (hll : ls.length = ln) (h : lY n vs ln ls a b = 0) : bE n vs (ln + 1) (dK (min a b, max a b) ls) = 0 := by
 obtain ⟨h0, hab, ha, hb, hj, hap, h12⟩ := HX h
 obtain ⟨g6, g12, gv, gl, -⟩ := dW h0
 refine wU (by simp; omega) gv ?_ hap
 have hnm : (min a b, max a b) ∉ ls := by
  rw [TK hll] at hj
  simpa using hj
 have gl' := gl
 unfold cU at gl ⊢
 rw [Bool.and_eq_true] at gl ⊢
 refine ⟨OY gl.1 hnm, ?_⟩
 rw [cY (fun i hi => ?_)]
 ·rfl
 have hil : i < (dK (min a b, max a b) ls).length := by rw [IT]; omega
 have hm : lkAt (dK (min a b, max a b) ls) i ∈ dK (min a b, max a b) ls := by
  unfold lkAt
  rw [List.getD_eq_getElem?_getD, List.getElem?_eq_getElem hil]
  exact List.getElem_mem hil
 have e0 : dA (dK (min a b, max a b) ls) i = (lkAt (dK (min a b, max a b) ls) i).1 := rfl
 have e1 : eA (dK (min a b, max a b) ls) i = (lkAt (dK (min a b, max a b) ls) i).2 := rfl
 unfold mP
 rw [e0, e1]
 rcases IR.1 hm with e | e
 ·rw [e]
  rcases Int.le_total a b with hle | hle
  ·rw [Int.min_eq_left hle, Int.max_eq_right hle]
   simp only [Bool.or_eq_false_iff, decide_eq_false_iff_not]
   exact ⟨⟨by omega, ha⟩, hb⟩
  ·rw [Int.min_eq_right hle, Int.max_eq_left hle]
   simp only [Bool.or_eq_false_iff, decide_eq_false_iff_not]
   exact ⟨⟨by omega, hb⟩, ha⟩
 ·obtain ⟨k1, ⟨q1, hq1, hq2⟩, q3, hq3, hq4⟩ := tB hvl hll gl' _ e
  have hrv : cQ vs = true := by
   unfold eC at gv
   rw [Bool.and_eq_true] at gv
   exact gv.1
  simp only [Bool.or_eq_false_iff, decide_eq_false_iff_not]
  refine ⟨⟨by omega, ?_⟩, ?_⟩
  ·rw [← hq2, lX hvl hrv hq1]; omega
  ·rw [← hq4, lX hvl hrv hq3]; omega
open Go.ChangeShapes Go.WideShapes Go.ChangeAt Go.RowKit Go.Joins
section
variable {H : Type} {enc : TypeId × Value → H} {w : World}
end
theorem yY (r : Rg) (rs : List Rg) : posRg r rs ≤ rs.length ∧ (∀ j, j < posRg r rs → ¬ r.a < (aL rs j).a) ∧ (posRg r rs < rs.length → r.a < (aL rs (posRg r rs)).a) := by
 cases h : (List.range rs.length).find? (fun i => decide (r.a < (aL rs i).a)) with
 | none =>
  have e : posRg r rs = rs.length := by unfold posRg; rw [h]; rfl
  rw [e]
  refine ⟨Nat.le_refl _, fun j hj => ?_, fun h => absurd h (Nat.lt_irrefl _)⟩
  have := List.find?_eq_none.1 h j (by simpa using hj)
  simpa using this
 | some i =>
  obtain ⟨h1, h2, h3⟩ := List.find?_range_eq_some.1 h
  have hi : i < rs.length := by simpa using h2
  have e : posRg r rs = i := by unfold posRg; rw [h]; rfl
  rw [e]
  exact ⟨by omega, fun j hj => by simpa using h3 j hj, fun _ => by simpa using h1⟩
theorem kK (hj : j ≤ rs.length) : aL (rs.take j ++ [r] ++ rs.drop j) i = if i < j then aL rs i else if i = j then r else aL rs (i - 1) := by
 have hlen : (rs.take j).length = j := by rw [List.length_take]; omega
 unfold aL
 simp only [List.getD_eq_getElem?_getD]
 by_cases h1 : i < j
 ·rw [if_pos h1, List.append_assoc, List.getElem?_append_left (by omega), List.getElem?_take_of_lt h1]
 ·rw [if_neg h1]
  by_cases h2 : i = j
  ·rw [if_pos h2, List.append_assoc, List.getElem?_append_right (by omega), hlen, h2, Nat.sub_self]
   rfl
  ·rw [if_neg h2, List.getElem?_append_right (by simp; omega), List.getElem?_drop]
   rw [show j + (i - (List.take j rs ++ [r]).length) = i - 1 by simp; omega]
theorem OZ (hl : rs.length = n) (h : nG n rs = true) (hr : A2 r = true) (hm : aK n (CH rs r.a r.l) = false) : nG (n + 1) (gK r rs) = true := by
 obtain ⟨hj, hlo, hup⟩ := yY r rs
 have hat : ∀ i, i < n → A2 (aL rs i) = true ∧ ∀ k, k < i → gF (aL rs k).a (aL rs k).l (aL rs i).a (aL rs i).l = false := fun i hi => S9 h hi
 have hno : ∀ i, i < n → gF (aL rs i).a (aL rs i).l r.a r.l = false := fun i hi => by
  cases e : gF (aL rs i).a (aL rs i).l r.a r.l
  ·rfl
  ·rw [aT (f := CH rs r.a r.l) hi e] at hm
   cases hm
 have hne : ∀ i, i < n → (aL rs i).a ≠ r.a := fun i hi e => by
  have h1 := hno i hi
  have s1 := cG (aL rs i).l
  have s2 := cG r.l
  rw [qQ (R4 (hat i hi).1) (R4 hr) (by omega) (by omega)] at h1
  cases h1
 have hrise : ∀ i, i + 1 < n → (aL rs i).a < (aL rs (i + 1)).a := fun i hi => by
  unfold nG at h
  rw [Bool.and_eq_true] at h
  have h1 := h.2
  unfold kA at h1
  have h2 := List.all_eq_true.1 h1 (i + 1) (by rw [hl]; simpa using hi)
  unfold iG at h2
  simpa using h2
 unfold gK
 generalize posRg r rs = j at *
 have hlen : (rs.take j ++ [r] ++ rs.drop j).length = n + 1 := by simp; omega
 unfold nG
 rw [Bool.and_eq_true]
 constructor
 ·rw [List.all_eq_true]
  intro i hi
  have hi' : i < n + 1 := by simpa using hi
  unfold sN
  rw [Bool.and_eq_true]
  constructor
  ·rw [kK hj]
   split
   ·exact (hat i (by omega)).1
   ·split
    ·exact hr
    ·exact (hat (i - 1) (by omega)).1
  ·rw [cY (fun k hk => ?_)]
   ·rfl
   unfold CH
   rw [kK hj, kK hj]
   by_cases h1 : i < j
   ·rw [if_pos (by omega), if_pos h1]
    exact (hat i (by omega)).2 k hk
   ·rw [if_neg h1]
    by_cases h2 : i = j
    ·rw [if_pos (by omega), if_pos h2]
     exact hno k (by omega)
    ·rw [if_neg h2]
     by_cases h3 : k < j
     ·rw [if_pos h3]
      exact (hat (i - 1) (by omega)).2 k (by omega)
     ·rw [if_neg h3]
      by_cases h4 : k = j
      ·rw [if_pos h4, fQ]
       exact hno (i - 1) (by omega)
      ·rw [if_neg h4]
       exact (hat (i - 1) (by omega)).2 (k - 1) (by omega)
 ·unfold kA
  rw [List.all_eq_true]
  intro i hi
  have hi' : i < n + 1 := by rw [hlen] at hi; simpa using hi
  cases i with
  | zero => rfl
  | succ i =>
   unfold iG
   rw [Nat.add_sub_cancel, kK hj, kK hj, Bool.or_eq_true, decide_eq_true_eq]
   refine .inr ?_
   by_cases h1 : i + 1 < j
   ·rw [if_pos (by omega), if_pos h1]
    exact hrise i (by omega)
   ·rw [if_neg h1]
    by_cases h2 : i + 1 = j
    ·rw [if_pos (by omega), if_pos h2]
     have h3 := hlo i (by omega)
     have h4 := hne i (by omega)
     omega
    ·rw [if_neg h2, if_neg (by omega)]
     by_cases h3 : i = j
     ·rw [if_pos h3, Nat.add_sub_cancel, h3]
      exact hup (by omega)
     ·rw [if_neg h3, Nat.add_sub_cancel]
      obtain ⟨q, rfl⟩ : ∃ q, i = q + 1 := ⟨i - 1, by omega⟩
      rw [Nat.add_sub_cancel]
      exact hrise q (by omega)
theorem O0 {id c m : Int} (h : kP n rs id c m = true) : kP (n + 1) (gK r rs) id c m = true := by
 obtain ⟨hj, -, -⟩ := yY r rs
 unfold kP at h ⊢
 rw [Bool.and_eq_true] at h ⊢
 refine ⟨h.1, ?_⟩
 obtain ⟨i, hi, hf⟩ := kC h.2
 unfold gK
 generalize posRg r rs = j at *
 unfold S2 at hf ⊢
 by_cases h1 : i < j
 ·refine aT (k := i) (by omega) ?_
  rw [kK hj, if_pos h1]
  exact hf
 ·refine aT (k := i + 1) (by omega) ?_
  rw [kK hj, if_neg (by omega), if_neg (by omega), Nat.add_sub_cancel]
  exact hf
theorem K8 (hl : rs.length = rn) (h : eM vid rn rs sn ss r = 0) : aV vid (rn + 1) (gK r rs) sn ss = 0 := by
 unfold eM at h
 split at h
 ·rename_i h0
  exact absurd h h0
 ·rename_i h0
  have h0 : aV vid rn rs sn ss = 0 := by simpa using h0
  split at h
  ·omega
  ·rename_i h1
   split at h
   ·omega
   ·rename_i h2
    split at h
    ·omega
    ·rename_i h3
     obtain ⟨p1, p2, p3, p4⟩ := HQ h0
     obtain ⟨f1, -, -, -⟩ := cA h0
     unfold aV
     have hm : cO (rn + 1) sn ss = false := by
      unfold cO at p1 ⊢
      simp only [Bool.or_eq_false_iff, decide_eq_false_iff_not] at p1 ⊢
      exact ⟨⟨by omega, p1.1.2⟩, p1.2⟩
     have hs : mN (rn + 1) (gK r rs) sn ss = true := by
      unfold mN at p4 ⊢
      rw [Bool.and_eq_true, List.all_eq_true] at p4 ⊢
      refine ⟨fun i hi => ?_, p4.2⟩
      have h5 := p4.1 i hi
      unfold lU at h5 ⊢
      simp only [Bool.and_eq_true] at h5 ⊢
      exact ⟨⟨O0 h5.1.1, h5.1.2⟩, h5.2⟩
     rw [hm, p2, OZ hl p3 (by simpa using h1) (by simpa using h2), hs]
     rfl
theorem K9 {vs : List Vn} (hvl : vs.length = n) (hi : i < n) (hrl : (vnAt vs i).rs.length = (vnAt vs i).rn) (h : bE n vs ln ls = 0) (hg : eM (vnAt vs i).id (vnAt vs i).rn (vnAt vs i).rs (vnAt vs i).sn (vnAt vs i).ss r = 0) :
  bE n (growVs vs i r) ln ls = if sU ls n (growVs vs i r) = true then 0 else 1 := by
 obtain ⟨h6, h12, hv, hlk, -⟩ := dW h
 have hat : ∀ j, vnAt (growVs vs i r) j = if i = j then yV (vnAt vs i) (gK r (vnAt vs i).rs) else vnAt vs j := fun j => by
  unfold growVs
  rw [cE (by rw [hvl]; exact hi)]
 have hid : ∀ j, (vnAt (growVs vs i r) j).id = (vnAt vs j).id := fun j => by
  rw [hat]
  split
  ·rename_i e; rw [← e]; rfl
  ·rfl
 have hv2 : eC n (growVs vs i r) = true := by
  unfold eC at hv ⊢
  rw [Bool.and_eq_true] at hv ⊢
  constructor
  ·have e : cQ (growVs vs i r) = cQ vs := by
    unfold cQ
    have : (growVs vs i r).length = vs.length := by unfold growVs; rw [List.length_set]
    rw [this]
    refine eI fun j _ => ?_
    unfold eH
    rw [hid, hid]
   rw [e]
   exact hv.1
  ·rw [cY (fun j hj => ?_)]
   ·rfl
   rw [hat]
   split
   ·rename_i e
    unfold kD yV
    have h1 := K8 hrl hg
    have h2 : (gK r (vnAt vs i).rs).length = (vnAt vs i).rn + 1 := by rw [BB, hrl]
    rw [h2, h1]
    rfl
   ·have hz := lW (n := n) (vs := vs) (by unfold eC; rw [Bool.and_eq_true]; exact hv) j hj
    unfold kD
    rw [hz]
    rfl
 have hl2 : cU n (growVs vs i r) ln ls = true := by
  have hp : ∀ y, aG n (growVs vs i r) y = aG n vs y := fun y => by
   have e : (fun j => (vnAt (growVs vs i r) j).id == y) = fun j => (vnAt vs j).id == y := funext fun j => by rw [hid]
   unfold aG
   rw [e]
  have e : mP n (growVs vs i r) ls = mP n vs ls := funext fun j => by
   unfold mP
   rw [hp, hp]
  unfold cU at hlk ⊢
  rw [e]
  exact hlk
 unfold bE
 rw [if_neg (by simp; omega), hv2, hl2]
 simp
theorem NN.agg (h : NN w V us ms) : ∃ X C Y D, V = .agg #[.slice X us.length C, .slice Y ms.length D] := by
 obtain ⟨X, C, Y, D, e, -⟩ := h
 exact ⟨X, C, Y, D, e⟩
def delLk (p : Int × Int) (ls : List (Int × Int)) : List (Int × Int) := ls.filter fun q => !(decide (q.1 = p.1) && decide (q.2 = p.2))
theorem FE (h : fO p q = true) : fO q p = false := by
 unfold fO at *
 simp only [Bool.or_eq_false_iff, Bool.and_eq_false_iff, decide_eq_false_iff_not, Bool.or_eq_true, Bool.and_eq_true, decide_eq_true_eq] at *
 rcases h with h | ⟨h1, h2⟩
 ·exact ⟨by omega, .inl (by omega)⟩
 ·exact ⟨by omega, .inr (by omega)⟩
theorem H0 {r : Int × Int} (h : fO p q = true) (g : fO q r = true) : fO p r = true := by
 unfold fO at *
 simp only [Bool.or_eq_true, Bool.and_eq_true, decide_eq_true_eq] at *
 omega
theorem tD (h : fF ls = true) : ∀ (k j : Nat), j < k → k < ls.length → fO (lkAt ls j) (lkAt ls k) = true
 | 0, j, hj, _ => by omega
 | k + 1, j, hj, hk => by
  have h1 : fO (lkAt ls k) (lkAt ls (k + 1)) = true := by
   rw [← oS]
   unfold fF at h
   exact List.all_eq_true.1 h (k + 1) (by simpa using hk)
  by_cases e : j = k
  ·subst e; exact h1
  ·exact H0 (tD h k j (by omega) (by omega)) h1
theorem FF (h : k < ls.length) : lkAt ls k ∈ ls := by
 unfold lkAt
 rw [List.getD_eq_getElem?_getD, List.getElem?_eq_getElem h]
 exact List.getElem_mem h
theorem bU.cells (h : bU w base (.slice (some ⟨g, 0, none⟩) n cap) fs) (q : Nat) (hq : q < fs.length) :
  w.cell? ⟨g, q * 2, none⟩ = some (.int .i64 (lkAt fs q).1) ∧ w.cell? ⟨g, q * 2 + 1, none⟩ = some (.int .i64 (lkAt fs q).2) := by
 obtain ⟨x2, c2, he2, -, -, -, hm'⟩ := h.mem
 simp only [Value.slice.injEq] at he2
 obtain ⟨b2, o2, he3, c7, c8⟩ := hm' q hq
 rw [← he2.1] at he3
 simp only [Option.some.injEq, Addr.mk.injEq] at he3
 obtain ⟨rfl, rfl, -⟩ := he3
 exact ⟨by simpa using c7, by simpa using c8⟩
end Go.Proofs.YtndpilfpejfloaaGreat
