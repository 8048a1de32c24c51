/- A part of the proof. -/
import Derived.Test.YtndpilfpejfloaaGreatMS08
set_option maxRecDepth 100000
set_option maxHeartbeats 3200000
namespace Go.Proofs.YtndpilfpejfloaaGreat
variable {sn i j base n hx o ln rn k g base' cap : Nat} {ss ts : List Sb} {sub y z E c a b : Int} {s : Sb} {w w' W w0 w2 : World} {e : Vn} {V v u vV vK : Value} {x : Option Addr} {gs : List Fc} {fs vs us : List Vn} {cur cs : Array Value} {ns : List Int} {rs L : List Rg} {ops : Array Oper} {C : World → Prop} {A : Act} {rest : List Oper} {ls ms es : List (Int × Int)} {r : Rg} {t : TypeId} {fr : Nat × Nat} {ad : Addr}
open Go.RowKit Go.Shelf
structure qL (sn : Nat) (ss : List Sb) (sub : Int) (i : Nat) : Prop where
 isn : i < sn
 sid : (sbAt ss i).id = sub
 sno : ∀ k, k < i → (sbAt ss k).id ≠ sub
theorem qL.one (h : qL sn ss sub i) (g : qL sn ss sub j) : i = j := by
 rcases Nat.lt_trichotomy i j with hij | hij | hij
 ·exact absurd h.sid (g.sno i hij)
 ·exact hij
 ·exact absurd g.sid (h.sno j hij)
def uJ (s : Sb) (E y : Int) : Prop := (E = 0 ∧ mY s y) ∨ (E = 8 ∧ y = 0 ∧ ∀ z, oJ s.a s.l z = true → z ∈ allNs s.fs)
theorem mY.one (h : mY s y) (g : mY s z) : y = z := by
 rcases Int.lt_trichotomy y z with hyz | hyz | hyz
 ·have hu := h.use
  unfold oJ at hu
  simp only [Bool.and_eq_true, decide_eq_true_eq] at hu
  exact absurd (g.first y hu.1 hyz) h.free
 ·exact hyz
 ·have hu := g.use
  unfold oJ at hu
  simp only [Bool.and_eq_true, decide_eq_true_eq] at hu
  exact absurd (h.first z hu.1 hyz) g.free
theorem uJ.one {E' y' : Int} (h : uJ s E y) (g : uJ s E' y') : E = E' ∧ y = y' := by
 rcases h with ⟨rfl, h⟩ | ⟨rfl, rfl, h⟩
 ·rcases g with ⟨rfl, g⟩ | ⟨rfl, rfl, g⟩
  ·exact ⟨rfl, h.one g⟩
  ·exact absurd (g y h.use) h.free
 ·rcases g with ⟨rfl, g⟩ | ⟨rfl, rfl, g⟩
  ·exact absurd (h y' g.use) g.free
  ·exact ⟨rfl, rfl⟩
def lD (s : Sb) (id : Int) : Int := if dH id 1 65536 = false then 3 else if 0 ≤ fstAt s.n (fun i => (fcAt s.fs i).id == id) then 6 else if s.n = 8 then 2 else 0
def mZ (s : Sb) (id E y : Int) : Prop := (lD s id ≠ 0 → E = lD s id ∧ y = 0) ∧ (lD s id = 0 → uJ s E y)
theorem eP.rel {id : Int} {e : Ending} (h : eP s id w e w') : Below w.heap.size w w' ∧ ∃ y E, e = .returned (.tuple #[.int .i64 y, .int .i64 E]) ∧ mZ s id E y := by
 refine ⟨h.1, ?_⟩
 have h2 := h.2
 unfold mZ lD
 by_cases c1 : dH id 1 65536 = false
 ·rw [if_pos c1] at h2 ⊢
  exact ⟨0, 3, h2, fun _ => ⟨rfl, rfl⟩, fun h => absurd h (by decide)⟩
 ·rw [if_neg c1] at h2 ⊢
  by_cases c2 : 0 ≤ fstAt s.n (fun i => (fcAt s.fs i).id == id)
  ·rw [if_pos c2] at h2 ⊢
   exact ⟨0, 6, h2, fun _ => ⟨rfl, rfl⟩, fun h => absurd h (by decide)⟩
  ·rw [if_neg c2] at h2 ⊢
   by_cases c3 : s.n = 8
   ·rw [if_pos c3] at h2 ⊢
    exact ⟨0, 2, h2, fun _ => ⟨rfl, rfl⟩, fun h => absurd h (by decide)⟩
   ·rw [if_neg c3] at h2 ⊢
    rcases h2 with ⟨y, h2, h3⟩ | ⟨h2, h3⟩
    ·exact ⟨y, 0, h2, fun h => absurd rfl h, fun _ => .inl ⟨rfl, h3⟩⟩
    ·exact ⟨0, 8, h2, fun h => absurd rfl h, fun _ => .inr ⟨rfl, rfl, h3⟩⟩
theorem mZ.zero {id : Int} (h : mZ s id E y) (hE : E ≠ 0) : y = 0 := by
 by_cases c : lD s id = 0
 ·rcases h.2 c with ⟨h1, -⟩ | ⟨-, h1, -⟩
  ·exact absurd h1 hE
  ·exact h1
 ·exact (h.1 c).2
theorem mZ.ok {id : Int} (h : mZ s id 0 y) : lD s id = 0 ∧ mY s y := by
 by_cases c : lD s id = 0
 ·rcases h.2 c with ⟨-, h1⟩ | ⟨h1, -⟩
  ·exact ⟨c, h1⟩
  ·exact absurd h1 (by decide)
 ·exact absurd (h.1 c).1.symm c
def fG (A : Int → Int → Prop) (R : World → Value → Int → Prop) (w : World) (e : Ending) (w' : World) : Prop :=
 ∃ V y E, e = .returned (.tuple #[V, .int .i64 y, .int .i64 E]) ∧ Below w.heap.size w w' ∧ A E y ∧ (E ≠ 0 → V = .agg #[.int .i64 0, .slice none 0 0, .slice none 0 0] ∧ y = 0) ∧ (E = 0 → R w' V y)
theorem fG.err {A : Int → Int → Prop} {R : World → Value → Int → Prop} (hA : A E 0) (hE : E ≠ 0) (hb : Below w.heap.size w w') : fG A R w (.returned (.tuple #[.agg #[.int .i64 0, .slice none 0 0, .slice none 0 0], .int .i64 0, .int .i64 E])) w' :=
 ⟨_, 0, E, rfl, hb, hA, fun _ => ⟨rfl, rfl⟩, fun h => absurd h hE⟩
theorem fG.ok {A : Int → Int → Prop} {R : World → Value → Int → Prop} (hA : A 0 y) (hb : Below w.heap.size w w') (h : R w' V y) : fG A R w (.returned (.tuple #[V, .int .i64 y, .int .i64 0])) w' :=
 ⟨_, y, 0, rfl, hb, hA, fun h => absurd rfl h, fun _ => h⟩
def nA (vid : Int) (rn : Nat) (rs : List Rg) (sn : Nat) (ss : List Sb) (sub id E y : Int) : Prop :=
 if aV vid rn rs sn ss ≠ 0 then E = aV vid rn rs sn ss ∧ y = 0 else ((∀ i, i < sn → (sbAt ss i).id ≠ sub) ∧ E = 5 ∧ y = 0) ∨ ∃ i, qL sn ss sub i ∧ mZ (sbAt ss i) id E y
def A8 (e : Fc) (qs rs : List Fc) : Prop := ∃ i, i ≤ qs.length ∧ (∀ j, j < i → ¬ e.id < (fcAt qs j).id) ∧ (i < qs.length → e.id < (fcAt qs i).id) ∧ rs = qs.take i ++ [e] ++ qs.drop i
def U2 (vid : Int) (rn : Nat) (rs : List Rg) (sn : Nat) (ss : List Sb) (sub id : Int) (base : Nat) (w : World) (V : Value) (y : Int) : Prop :=
 aV vid rn rs sn ss = 0 ∧ ∃ ts i x n c fx gs, qL sn ss sub i ∧ mZ (sbAt ss i) id 0 y ∧ bG ss ts ∧ A8 ⟨id, fx, 1, 1, [y]⟩ (sbAt ts i).fs gs ∧ n = gs.length ∧ E4 w base vid V rs (ts.set i (bK (sbAt ts i) x n c gs))
theorem jE.give {c : Nat} (h : jE w base v ts ts.length) (hO : mQ w base (.slice x n c) gs gs.length) : wK w base (ts.set i (bK (sbAt ts i) x n c gs)) := fun s hs => by
 obtain ⟨k, hk, rfl⟩ := List.getElem_of_mem hs
 have hk' : k < ts.length := by simpa using hk
 rw [List.getElem_set]
 by_cases e : i = k
 ·rw [if_pos e]; exact hO
 ·rw [if_neg e]
  have e2 : sbAt ts k = ts[k] := by unfold sbAt; rw [List.getD_eq_getElem?_getD, List.getElem?_eq_getElem hk']; rfl
  rw [← e2]
  exact h.own k hk'
theorem E6 (h : W.heap[hx]? = some (.cells #[.int .i64 y] 3)) (hb : base ≤ hx) : dO W base (.slice (some ⟨hx, 0, none⟩) 1 1) [y] :=
 ⟨rfl, .inr ⟨hx, 1, #[.int .i64 y], rfl, hb, h, by simp, by unfold maxLen; omega, by simp, rfl⟩⟩
theorem U3 {c : Nat} {fs : List Fc} (h : dX w base (.slice x n c) fs) : (x = none ∧ c = 0) ∨ ∃ b o, x = some ⟨b, o, none⟩ := by
 rcases h.2 with ⟨h, -⟩ | ⟨g, cap, cur, h, -⟩
 ·simp only [Value.slice.injEq] at h
  exact .inl ⟨h.1, h.2.2⟩
 ·simp only [Value.slice.injEq] at h
  exact .inr ⟨g, 0, h.1⟩
theorem KV (vid : Int) (rx : Option Addr) (rn rc : Nat) (rs : List Rg) (sx : Option Addr) (sn sc : Nat) (ss : List Sb) (sub id : Int) (w : World) (hv : Vp w rx rn rc rs sx sn sc ss) (hrn : rn ≤ 9223372036854775807) (hsn : sn ≤ 9223372036854775807) (hrc : rc ≤ 9223372036854775807) :
  Calls Tryz.prog 102 #[.agg #[.int .i64 vid, .slice rx rn rc, .slice sx sn sc], .int .i64 sub, .int .i64 id] w (fG (nA vid rn rs sn ss sub id) (U2 vid rn rs sn ss sub id w.heap.size) w) := by
 have hsl : Hid (ss.length = sn) := hv.subs.len
 go_enter Tryz.func102, Tryz.ntmps102
 go_upto_region 1 with fail
 obtain ⟨w0, hw0⟩ : ∃ w0, w0 = (w.alloc (cZ vid (.slice rx rn rc) (.slice sx sn sc))).alloc (cZ 0 (.slice none 0 0) (.slice none 0 0)) := ⟨_, rfl⟩
 rw [← hw0]
 have hT0 : TN w w0 vid rx rn rc sx sn sc := by
  rw [hw0]
  exact ⟨aF _ (aC _ rfl), aC _ (by simp), cB w _ _⟩
 clear hw0
 obtain ⟨b0, b1, b2⟩ := bI hT0.hb rfl rfl rfl
 obtain ⟨s0, s1, s2⟩ := bI hT0.hs rfl rfl rfl
 obtain ⟨zs0, zs1, zs2⟩ := eO hT0.hs
 have hck := checkV_any vid rx rn rc rs sx sn sc ss w0 (hv.later hT0.below) hrn hsn hrc
 by_cases hc0 : aV vid rn rs sn ss = 0
 ·rw [hc0] at hck
  obtain ⟨f1, f2, f3, f4⟩ := cA hc0
  have hcs := oO hc0
  have hA0 : Hid (∀ i y, qL sn ss sub i → ∀ {E}, mZ (sbAt ss i) id E y → nA vid rn rs sn ss sub id E y) := fun i y h1 E h2 => by
   unfold nA
   rw [if_neg (by simp [hc0])]
   exact .inr ⟨i, h1, h2⟩
  have hA5 : Hid ((∀ i, i < sn → (sbAt ss i).id ≠ sub) → nA vid rn rs sn ss sub id 5 0) := fun h => by
   unfold nA
   rw [if_neg (by simp [hc0])]
   exact .inl ⟨h, rfl, rfl⟩
  have hcz : Hid (aV vid rn rs sn ss = 0) := hc0
  clear hc0
  go_wp2_with fail
  refine (hck).mono ?_
  rintro e w1 ⟨rfl, hbw1⟩
  have hT1 := hT0.later hbw1
  clear b0 b1 b2 s0 zs0 s1 zs1 s2 zs2
  obtain ⟨b0, b1, b2⟩ := bI hT1.hb rfl rfl rfl
  obtain ⟨s0, s1, s2⟩ := bI hT1.hs rfl rfl rfl
  obtain ⟨zs0, zs1, zs2⟩ := eO hT1.hs
  have hsp := fun t h => vL vid sub rx rn rc sx sn sc ss t h w1 (hv.later hT1.below).subs (by omega)
  rcases fstAt_cases sn (fun i => (sbAt ss i).id == sub) with ⟨i, hi, hf, hno, hfp⟩ | ⟨hno, hfp⟩
  ·have hsp' := hsp _ hfp
   clear hsp hfp
   have hSA : Hid (qL sn ss sub i) := ⟨hi, by simpa using hf, fun j hj => by simpa using hno j hj⟩
   clear hf hno
   have hi' : Hid (i < sn) := hi
   have hn8 := f3 i hi
   obtain ⟨b, o, rfl, c0, c1, c2, c3⟩ := hv.subs.cells i hi
   go_wp2_with fail
   refine (hsp').mono ?_
   rintro e w2 ⟨rfl, hbw2⟩
   have hT2 := hT1.later hbw2
   clear b0 b1 b2 s0 zs0 s1 zs1 s2 zs2
   obtain ⟨b0, b1, b2⟩ := bI hT2.hb rfl rfl rfl
   obtain ⟨s0, s1, s2⟩ := bI hT2.hs rfl rfl rfl
   obtain ⟨zs0, zs1, zs2⟩ := eO hT2.hs
   have d0 := cell_later hT2.below c0
   have d1 := cell_later hT2.below c1
   have d2 := cell_later hT2.below c2
   have d3 := cell_later hT2.below c3
   clear c0 c1 c2 c3
   have i0 : (0 : Int) ≤ i := by omega
   have i1 : (i : Int) < sn := by omega
   have hfl := CO (sbAt ss i) id w2 (hcs i hi).1 ((hv.later hT2.below).subs.faces i hi).2.2 (by omega) (fun j hj => by have := f4 i hi j hj; omega) (hcs i hi).2
   go_wp2_with fail
   refine hfl.mono ?_
   rintro e w3 hfa
   obtain ⟨hbw3, y, E, rfl, hrel'⟩ := hfa.rel
   have hrel : Hid (mZ (sbAt ss i) id E y) := hrel'
   clear hrel' hfa hfl
   have hT3 := hT2.later hbw3
   clear b0 b1 b2 s0 zs0 s1 zs1 s2 zs2
   obtain ⟨b0, b1, b2⟩ := bI hT3.hb rfl rfl rfl
   obtain ⟨s0, s1, s2⟩ := bI hT3.hs rfl rfl rfl
   obtain ⟨zs0, zs1, zs2⟩ := eO hT3.hs
   clear d0 d1 d2 d3
   by_cases hE : E = 0
   ·subst hE
    have hv3 := fun W (hW : Below w.heap.size w W) => dE vid rx rn rc rs (some ⟨b, o, none⟩) sn sc ss W (hv.later hW) (by omega) (by omega) (fun i hi => by have := f3 i hi; omega) (fun i hi j hj => by have := f4 i hi j hj; omega)
    go_wp2_with fail
    refine (hv3 _ hT3.below).mono ?_
    rintro e w5 ⟨vR, vS, ts, rfl, hOR, hss, hOS, hb5⟩
    clear hv3
    have hT5 := hT3.later hb5
    have htl : Hid (ts.length = sn) := by unfold Hid; rw [← hss.1]; exact hsl.out
    have hit : i < ts.length := by rw [htl.out]; exact hi
    have hsi := hss.2 i (by rw [hss.1]; exact hit)
    obtain ⟨xr, cr, rfl, -⟩ := hOR.rs
    obtain ⟨g, cap, hg5, cur, hgh, hvS⟩ : ∃ g cap, w3.heap.size ≤ g ∧ ∃ cur, w5.heap[g]? = some (.cells cur 78) ∧ vS = .slice (some ⟨g, 0, none⟩) ts.length cap := by
     obtain ⟨x2, c2, hv2, -⟩ := hOS.row.mem
     rcases hOS.row.2 with ⟨hv', -⟩ | ⟨g, cap, cur, hv', hg1, hg2, -⟩
     ·rw [hv'] at hv2; simp only [Value.slice.injEq] at hv2; omega
     ·exact ⟨g, cap, hg1, cur, hg2, hv'⟩
    subst hvS
    have hgl : g < w5.heap.size := (Array.getElem?_eq_some_iff.1 hgh).1
    clear b0 b1 b2 s0 zs0 s1 zs1 s2 zs2
    go_upto_region 11 with fail
    obtain ⟨w6, hw6⟩ : ∃ w6, w6 = w5.alloc (cZ vid (.slice xr rs.length cr) (.slice (some ⟨g, 0, none⟩) ts.length cap)) := ⟨_, rfl⟩
    rw [← hw6]
    have hb56 : Below w5.heap.size w5 w6 := by rw [hw6]; exact bl1 _ _
    have hn6 : w6.heap[w5.heap.size]? = some (cZ vid (.slice xr rs.length cr) (.slice (some ⟨g, 0, none⟩) ts.length cap)) := by rw [hw6]; exact aC _ rfl
    have hs6 : w6.heap.size = w5.heap.size + 1 := by rw [hw6]; simp
    clear hw6
    have h13 : w1.heap.size ≤ w3.heap.size := Nat.le_trans hbw2.size hbw3.size
    have hT6 := hT5.later hb56
    have hg6 := aB hb56 hgh
    have hOR6 := bN.later (hOR.low (base' := w1.heap.size) h13) hb56
    have hOS6 := jE.later (hOS.low (base' := w1.heap.size) h13) hb56
    obtain ⟨hfS, hfl, hfc, hfm⟩ := (hOS6.own i hit).fcs
    have hfx := U3 (hOS6.own i hit).row
    have hn8' : (sbAt ts i).n ≤ 8 := by rw [← hsi.2.2.2.1]; exact hn8
    have hfl' : Hid ((sbAt ts i).fs.length = (sbAt ts i).n) := hfl
    have n2 := aU hn6 2 rfl
    have d3 : w6.cell? ⟨g, i * 4 + 3, none⟩ = some (.slice (sbAt ts i).x (sbAt ts i).n (sbAt ts i).c) := by
     obtain ⟨x2, c2, he2, -, -, -, hm'⟩ := hOS6.row.mem
     simp only [Value.slice.injEq] at he2
     obtain ⟨b2, o2, he3, -, -, -, c8⟩ := hm' i hit
     rw [← he2.1] at he3
     simp only [Option.some.injEq, Addr.mk.injEq] at he3
     obtain ⟨rfl, rfl, -⟩ := he3
     simpa using c8
    have i1' : (i : Int) < ts.length := by omega
    have hput := fun W (hW : Below w6.heap.size w6 W) hx bf hby => NV ⟨id, some ⟨hx, 0, none⟩, 1, 1, [y]⟩ (sbAt ts i).x (sbAt ts i).n (sbAt ts i).c (sbAt ts i).fs bf 1 W (hfS.later hW) (by omega) hfc hfm hfx hby
    have hb16 : w1.heap.size ≤ w6.heap.size := by have := hb5.size; omega
    have hsz1 : w.heap.size + 1 < w1.heap.size := (Array.getElem?_eq_some_iff.1 hT1.hs).1
    have hq1 : w5.heap.size ≠ g := by omega
    have hq2 : w.heap.size + 1 ≠ g := by omega
    have hq4 : w.heap.size ≤ g := by omega
    have e2 : ∀ u : Ws w6.heap.size w6, u.val.cell? ⟨w5.heap.size, 2, none⟩ = some (.slice (some ⟨g, 0, none⟩) ts.length cap) := Ws.cell (by omega) n2
    have e3 : ∀ u : Ws w6.heap.size w6, u.val.cell? ⟨g, i * 4 + 3, none⟩ = some (.slice (sbAt ts i).x (sbAt ts i).n (sbAt ts i).c) := Ws.cell (by omega) d3
    have hbd : Below w6.heap.size w6 w6.drew := (Below.refl _ _).drew
    clear hfl hfc hfm hsi hcs f1 f2 f3 f4 hn8 hn8' hfx hfS  hs6
    refine bQ (fun w' => ∃ u : Ws w6.heap.size w6, w' = u.val) (fun j => decide (j < 15)) 18 _ (by kernel_rfl) rfl rfl ?_
    refine aZ 7 [0, 1, 2, 3, 4, 5, 6, 7, 8, 9, 10] rfl _ rfl (by kernel_rfl) (fun d _ _ _ _ h => by cases d <;> exact h) ⟨⟨_, hbd⟩, rfl⟩ ?_
    simp only [List.map_cons, List.map_nil, List.getD_cons_zero, List.getD_cons_succ]
    repeat (go_big_quiet_step (fail))
    refine wpQuiet_nil ?_
    refine iD 11 13 _ _ _ _ (by kernel_rfl) (by kernel_rfl) rfl rfl rfl rfl ?_ ?_
    ·intro K hK
     simp only [List.getD_cons_zero, List.getD_cons_succ]
     go_wp2_with fail
     have hba : Below w6.heap.size w6 (w6.alloc (.cells #[.int .i64 y] 3)).drew := (bl1 w6 _).drew
     refine aD (hK.out _ _ ⟨⟨_, hba⟩, rfl⟩ ?_)
     clear hK K
     refine aZ 5 [12] rfl _ rfl (by kernel_rfl) (fun d _ _ _ _ h => by cases d <;> exact h) ⟨⟨_, hba⟩, rfl⟩ ?_
     simp only [List.map_cons, List.map_nil, List.getD_cons_zero, List.getD_cons_succ]
     repeat (go_big_quiet_step (fail))
     refine wpQuiet_nil ?_
     refine aW 13 _ _ (by kernel_rfl) (by kernel_rfl) rfl rfl ?_
     intro K hK
     simp only [List.getD_cons_zero, List.getD_cons_succ]
     go_wp2_with fail
     have hbb : Below w6.heap.size w6 (((w6.alloc (.cells #[.int .i64 y] 3)).alloc (.cells #[.func (.func 151) #[] #[]] 208)).drew) := (cB w6 _ _).drew
     refine aD (hK.out _ _ ⟨⟨_, hbb⟩, rfl⟩ ?_)
     clear hK K
     refine aW 14 _ _ (by kernel_rfl) (by kernel_rfl) rfl rfl ?_
     intro K hK
     simp only [List.getD_cons_zero, List.getD_cons_succ]
     go_wp2_with fail
     refine (hput (((w6.alloc (.cells #[.int .i64 y] 3)).alloc (.cells #[.func (.func 151) #[] #[]] 208)).drew) hbb w6.heap.size (w6.heap.size + 1) (by simp)).mono ?_
     rintro e w7 ⟨v7, rfl, hb7, p, hp, hlow, hup, hO7⟩
     have hb67 : Below w6.heap.size w6 w7 := (hbb).trans (hb7.mono (hbb).size)
     have hgx7 := aB hb7 (aF _ (aC _ rfl))
     obtain ⟨gs, hgs⟩ : ∃ gs, Hid (gs = (sbAt ts i).fs.take p ++ [(⟨id, some ⟨w6.heap.size, 0, none⟩, 1, 1, [y]⟩ : Fc)] ++ (sbAt ts i).fs.drop p) := ⟨_, rfl⟩
     rw [← hgs.out] at hO7
     obtain ⟨x7, c7, rfl, -⟩ := hO7.mem
     have hT7 := hT6.later hb67
     have hn7 := aB hb67 hn6
     have hg7 := aB hb67 hg6
     have hOS7 := jE.later hOS6 hb67
     have hOR7 := bN.later hOR6 hb67
     have hbs : w1.heap.size ≤ ((((w6.alloc (.cells #[.int .i64 y] 3)).alloc (.cells #[.func (.func 151) #[] #[]] 208)).drew)).heap.size := Nat.le_trans hb16 (hbb).size
     have hIx := E6 (base := w1.heap.size) hgx7 (Nat.le_trans hb16 (by simp))
     have hOF7 : mQ w7 w1.heap.size (.slice x7 gs.length c7) gs gs.length := mQ.mk' (hO7.low hbs) (fun f hf => by
      rw [hgs.out] at hf
      simp only [List.mem_append, List.mem_singleton] at hf
      rcases hf with (hf | rfl) | hf
      ·exact (hOS7.own i hit).each f (List.mem_of_mem_take hf)
      ·exact hIx
      ·exact (hOS7.own i hit).each f (List.mem_of_mem_drop hf))
     have hfa7 := jE.give (i := i) hOS7 hOF7
     have hput7 : A8 ⟨id, some ⟨w6.heap.size, 0, none⟩, 1, 1, [y]⟩ (sbAt ts i).fs gs := ⟨p, by rw [hfl'.out]; exact hp, hlow, by rw [hfl'.out]; exact hup, hgs.out⟩
     have n2' : w7.cell? ⟨w5.heap.size, 2, none⟩ = some (.slice (some ⟨g, 0, none⟩) ts.length cap) := (aA hn7).1 2
     have df : w7.frozen? ⟨g, i * 4 + 3, none⟩ = false := hOS7.row.frozen _
     have d3' := cell_later hb67 d3
     clear hput e2 e3 n2 d3 hgs hlow hup hp
     go_wp2_with fail
     refine aD (hK.out _ _ ⟨⟨_, hb67⟩, rfl⟩ ?_)
     clear hK K
     refine aY [15, 16, 17] rfl (by kernel_rfl) ?_
     simp only [List.map_cons, List.map_nil, List.getD_cons_zero, List.getD_cons_succ]
     go_upto_region 12 with fail
     obtain ⟨w8, hw8⟩ : ∃ w8, w8 = w7.setCell ⟨g, i * 4 + 3, none⟩ (.slice x7 gs.length c7) := ⟨_, rfl⟩
     rw [← hw8]
     have hn8 : w8.heap[w5.heap.size]? = some (cZ vid (.slice xr rs.length cr) (.slice (some ⟨g, 0, none⟩) ts.length cap)) := by rw [hw8]; exact (heap_setCell_other _ _ _ _ hq1).trans hn7
     have hs8 : w8.heap[w.heap.size + 1]? = some (cZ 0 (.slice none 0 0) (.slice none 0 0)) := by rw [hw8]; exact (heap_setCell_other _ _ _ _ hq2).trans hT7.hs
     have hB8 : Below w.heap.size w w8 := by rw [hw8]; exact hT7.below.setCell (p := ⟨g, i * 4 + 3, none⟩) hq4 _
     have hOR8 : bN w8 w1.heap.size (.slice xr rs.length cr) rs := by rw [hw8]; exact hOR7.putBox hg7 (by decide)
     have hrow8 : bY w8 w1.heap.size (.slice (some ⟨g, 0, none⟩) ts.length cap) (ts.set i (bK (sbAt ts i) x7 gs.length c7 gs)) := by rw [hw8]; exact hOS7.row.set i hit _ _ _ _
     have hfa8 : wK w8 w1.heap.size (ts.set i (bK (sbAt ts i) x7 gs.length c7 gs)) := by rw [hw8]; exact hfa7.keptOf (aJ _ _ _ _) hg7 (by decide) (by decide)
     clear hw8 n2' df d3'
     obtain ⟨m0, m1, m2⟩ := bI hn8 rfl rfl rfl
     obtain ⟨s0, s1, s2⟩ := bI hs8 rfl rfl rfl
     obtain ⟨zs0, zs1, zs2⟩ := eO hs8
     go_wp2
     refine bodyPost_ret (v := .tuple #[.agg #[.int .i64 vid, .slice xr rs.length cr, .slice (some ⟨g, 0, none⟩) ts.length cap], .int .i64 y, .int .i64 0]) (by simp [results, Tryz.results102, go_sem, s0, s1, s2]) rfl ?_
     exact fG.ok (hA0.out _ _ hSA.out hrel.out) (((hB8.setCell (p := ⟨w.heap.size + 1, 0, none⟩) (Nat.le_add_right _ _) _).setCell (p := ⟨w.heap.size + 1, 1, none⟩) (Nat.le_add_right _ _) _).setCell (p := ⟨w.heap.size + 1, 2, none⟩) (Nat.le_add_right _ _) _) ⟨hcz.out, ts, i, x7, gs.length, c7, _, gs, hSA.out, hrel.out, hss, hput7, rfl, E4.mk (((hOR8.put hsz1).put hsz1).put hsz1) (by omega) (((hrow8.put hsz1).put hsz1).put hsz1) (by omega) (((hfa8.put hsz1).put hsz1).put hsz1) (by omega)⟩
    ·intro K hK
     simp only [List.getD_cons_zero, List.getD_cons_succ]
     go_wp2_with fail
     have hba : Below w6.heap.size w6 (w6.alloc (.cells #[.func (.func 151) #[] #[]] 208)).drew := (bl1 w6 _).drew
     refine aD (hK.out _ _ ⟨⟨_, hba⟩, rfl⟩ ?_)
     clear hK K
     refine aW 11 _ _ (by kernel_rfl) (by kernel_rfl) rfl rfl ?_
     intro K hK
     simp only [List.getD_cons_zero, List.getD_cons_succ]
     go_wp2_with fail
     have hbb : Below w6.heap.size w6 (((w6.alloc (.cells #[.func (.func 151) #[] #[]] 208)).alloc (.cells #[.int .i64 y] 3)).drew) := (cB w6 _ _).drew
     refine aD (hK.out _ _ ⟨⟨_, hbb⟩, rfl⟩ ?_)
     clear hK K
     refine aW 12 _ _ (by kernel_rfl) (by kernel_rfl) rfl rfl ?_
     intro K hK
     simp only [List.getD_cons_zero, List.getD_cons_succ]
     go_wp2_with fail
     refine aD (hK.out _ _ ⟨⟨_, hbb⟩, rfl⟩ ?_)
     clear hK K
     refine aW 14 _ _ (by kernel_rfl) (by kernel_rfl) rfl rfl ?_
     intro K hK
     simp only [List.getD_cons_zero, List.getD_cons_succ]
     go_wp2_with fail
     refine (hput (((w6.alloc (.cells #[.func (.func 151) #[] #[]] 208)).alloc (.cells #[.int .i64 y] 3)).drew) hbb (w6.heap.size + 1) w6.heap.size (by simp)).mono ?_
     rintro e w7 ⟨v7, rfl, hb7, p, hp, hlow, hup, hO7⟩
     have hb67 : Below w6.heap.size w6 w7 := (hbb).trans (hb7.mono (hbb).size)
     have hgx7 := aB hb7 (aC (W := w6.alloc (.cells #[.func (.func 151) #[] #[]] 208)) (k := w6.heap.size + 1) _ (by simp))
     obtain ⟨gs, hgs⟩ : ∃ gs, Hid (gs = (sbAt ts i).fs.take p ++ [(⟨id, some ⟨(w6.heap.size + 1), 0, none⟩, 1, 1, [y]⟩ : Fc)] ++ (sbAt ts i).fs.drop p) := ⟨_, rfl⟩
     rw [← hgs.out] at hO7
     obtain ⟨x7, c7, rfl, -⟩ := hO7.mem
     have hT7 := hT6.later hb67
     have hn7 := aB hb67 hn6
     have hg7 := aB hb67 hg6
     have hOS7 := jE.later hOS6 hb67
     have hOR7 := bN.later hOR6 hb67
     have hbs : w1.heap.size ≤ ((((w6.alloc (.cells #[.func (.func 151) #[] #[]] 208)).alloc (.cells #[.int .i64 y] 3)).drew)).heap.size := Nat.le_trans hb16 (hbb).size
     have hIx := E6 (base := w1.heap.size) hgx7 (Nat.le_trans hb16 (by simp))
     have hOF7 : mQ w7 w1.heap.size (.slice x7 gs.length c7) gs gs.length := mQ.mk' (hO7.low hbs) (fun f hf => by
      rw [hgs.out] at hf
      simp only [List.mem_append, List.mem_singleton] at hf
      rcases hf with (hf | rfl) | hf
      ·exact (hOS7.own i hit).each f (List.mem_of_mem_take hf)
      ·exact hIx
      ·exact (hOS7.own i hit).each f (List.mem_of_mem_drop hf))
     have hfa7 := jE.give (i := i) hOS7 hOF7
     have hput7 : A8 ⟨id, some ⟨(w6.heap.size + 1), 0, none⟩, 1, 1, [y]⟩ (sbAt ts i).fs gs := ⟨p, by rw [hfl'.out]; exact hp, hlow, by rw [hfl'.out]; exact hup, hgs.out⟩
     have n2' : w7.cell? ⟨w5.heap.size, 2, none⟩ = some (.slice (some ⟨g, 0, none⟩) ts.length cap) := (aA hn7).1 2
     have df : w7.frozen? ⟨g, i * 4 + 3, none⟩ = false := hOS7.row.frozen _
     have d3' := cell_later hb67 d3
     clear hput e2 e3 n2 d3 hgs hlow hup hp
     go_wp2_with fail
     refine aD (hK.out _ _ ⟨⟨_, hb67⟩, rfl⟩ ?_)
     clear hK K
     refine aY [15, 16, 17] rfl (by kernel_rfl) ?_
     simp only [List.map_cons, List.map_nil, List.getD_cons_zero, List.getD_cons_succ]
     go_upto_region 12 with fail
     obtain ⟨w8, hw8⟩ : ∃ w8, w8 = w7.setCell ⟨g, i * 4 + 3, none⟩ (.slice x7 gs.length c7) := ⟨_, rfl⟩
     rw [← hw8]
     have hn8 : w8.heap[w5.heap.size]? = some (cZ vid (.slice xr rs.length cr) (.slice (some ⟨g, 0, none⟩) ts.length cap)) := by rw [hw8]; exact (heap_setCell_other _ _ _ _ hq1).trans hn7
     have hs8 : w8.heap[w.heap.size + 1]? = some (cZ 0 (.slice none 0 0) (.slice none 0 0)) := by rw [hw8]; exact (heap_setCell_other _ _ _ _ hq2).trans hT7.hs
     have hB8 : Below w.heap.size w w8 := by rw [hw8]; exact hT7.below.setCell (p := ⟨g, i * 4 + 3, none⟩) hq4 _
     have hOR8 : bN w8 w1.heap.size (.slice xr rs.length cr) rs := by rw [hw8]; exact hOR7.putBox hg7 (by decide)
     have hrow8 : bY w8 w1.heap.size (.slice (some ⟨g, 0, none⟩) ts.length cap) (ts.set i (bK (sbAt ts i) x7 gs.length c7 gs)) := by rw [hw8]; exact hOS7.row.set i hit _ _ _ _
     have hfa8 : wK w8 w1.heap.size (ts.set i (bK (sbAt ts i) x7 gs.length c7 gs)) := by rw [hw8]; exact hfa7.keptOf (aJ _ _ _ _) hg7 (by decide) (by decide)
     clear hw8 n2' df d3'
     obtain ⟨m0, m1, m2⟩ := bI hn8 rfl rfl rfl
     obtain ⟨s0, s1, s2⟩ := bI hs8 rfl rfl rfl
     obtain ⟨zs0, zs1, zs2⟩ := eO hs8
     go_wp2
     refine bodyPost_ret (v := .tuple #[.agg #[.int .i64 vid, .slice xr rs.length cr, .slice (some ⟨g, 0, none⟩) ts.length cap], .int .i64 y, .int .i64 0]) (by simp [results, Tryz.results102, go_sem, s0, s1, s2]) rfl ?_
     exact fG.ok (hA0.out _ _ hSA.out hrel.out) (((hB8.setCell (p := ⟨w.heap.size + 1, 0, none⟩) (Nat.le_add_right _ _) _).setCell (p := ⟨w.heap.size + 1, 1, none⟩) (Nat.le_add_right _ _) _).setCell (p := ⟨w.heap.size + 1, 2, none⟩) (Nat.le_add_right _ _) _) ⟨hcz.out, ts, i, x7, gs.length, c7, _, gs, hSA.out, hrel.out, hss, hput7, rfl, E4.mk (((hOR8.put hsz1).put hsz1).put hsz1) (by omega) (((hrow8.put hsz1).put hsz1).put hsz1) (by omega) (((hfa8.put hsz1).put hsz1).put hsz1) (by omega)⟩
   ·have hy : Hid (y = 0) := hrel.out.zero hE
    go_wp2
    refine bodyPost_ret (v := .tuple #[.agg #[.int .i64 0, .slice none 0 0, .slice none 0 0], .int .i64 0, .int .i64 E]) (by simp [results, Tryz.results102, go_sem, s0, s1, s2]) rfl ?_
    exact fG.err (hA0.out i 0 hSA.out (hy.out ▸ hrel.out)) hE (((hT3.below.setCell (p := ⟨w.heap.size + 1, 0, none⟩) (Nat.le_add_right _ _) _).setCell (p := ⟨w.heap.size + 1, 1, none⟩) (Nat.le_add_right _ _) _).setCell (p := ⟨w.heap.size + 1, 2, none⟩) (Nat.le_add_right _ _) _)
  ·have hsp' := hsp _ hfp
   have hno' : Hid (∀ i, i < sn → (sbAt ss i).id ≠ sub) := fun i hi => by simpa using hno i hi
   clear hfp hsp hno
   go_wp2_with fail
   refine (hsp').mono ?_
   rintro e w2 ⟨rfl, hbw2⟩
   have hT2 := hT1.later hbw2
   clear b0 b1 b2 s0 zs0 s1 zs1 s2 zs2
   obtain ⟨b0, b1, b2⟩ := bI hT2.hb rfl rfl rfl
   obtain ⟨s0, s1, s2⟩ := bI hT2.hs rfl rfl rfl
   obtain ⟨zs0, zs1, zs2⟩ := eO hT2.hs
   go_wp2
   refine bodyPost_ret (v := .tuple #[.agg #[.int .i64 0, .slice none 0 0, .slice none 0 0], .int .i64 0, .int .i64 5]) (by simp [results, Tryz.results102, go_sem, s0, s1, s2]) rfl ?_
   exact fG.err (hA5.out hno'.out) (by decide) (((hT2.below.setCell (p := ⟨w.heap.size + 1, 0, none⟩) (Nat.le_add_right _ _) _).setCell (p := ⟨w.heap.size + 1, 1, none⟩) (Nat.le_add_right _ _) _).setCell (p := ⟨w.heap.size + 1, 2, none⟩) (Nat.le_add_right _ _) _)
 ·have hA1 : Hid (nA vid rn rs sn ss sub id (aV vid rn rs sn ss) 0) := by
   unfold Hid nA
   rw [if_pos hc0]
   exact ⟨rfl, rfl⟩
  go_wp2_with fail
  refine (hck).mono ?_
  rintro e w1 ⟨rfl, hbw1⟩
  have hT1 := hT0.later hbw1
  clear b0 b1 b2 s0 zs0 s1 zs1 s2 zs2
  obtain ⟨b0, b1, b2⟩ := bI hT1.hb rfl rfl rfl
  obtain ⟨s0, s1, s2⟩ := bI hT1.hs rfl rfl rfl
  obtain ⟨zs0, zs1, zs2⟩ := eO hT1.hs
  go_wp2
  refine bodyPost_ret (v := .tuple #[.agg #[.int .i64 0, .slice none 0 0, .slice none 0 0], .int .i64 0, .int .i64 (aV vid rn rs sn ss)]) (by simp [results, Tryz.results102, go_sem, s0, s1, s2]) rfl ?_
  exact fG.err hA1.out hc0 (((hT1.below.setCell (p := ⟨w.heap.size + 1, 0, none⟩) (Nat.le_add_right _ _) _).setCell (p := ⟨w.heap.size + 1, 1, none⟩) (Nat.le_add_right _ _) _).setCell (p := ⟨w.heap.size + 1, 2, none⟩) (Nat.le_add_right _ _) _)
theorem gY.one {id : Int} {i' j' : Nat} (h : gY sn ss sub id i j) (g : gY sn ss sub id i' j') : i = i' ∧ j = j' := by
 have hi : i = i' := qL.one ⟨h.isn, h.sid, h.sno⟩ ⟨g.isn, g.sid, g.sno⟩
 subst hi
 refine ⟨rfl, ?_⟩
 rcases Nat.lt_trichotomy j j' with hij | hij | hij
 ·exact absurd h.fid (g.fno j hij)
 ·exact hij
 ·exact absurd g.fid (h.fno j' hij)
def qM (s : Sb) (f : Fc) (E y : Int) : Prop := if f.n = 4 then E = 2 ∧ y = 0 else uJ s E y
def vN (vid : Int) (rn : Nat) (rs : List Rg) (sn : Nat) (ss : List Sb) (sub id E y : Int) : Prop :=
 (wL vid rn rs sn ss sub id ≠ 0 → E = wL vid rn rs sn ss sub id ∧ y = 0) ∧ (wL vid rn rs sn ss sub id = 0 → ∃ i j, gY sn ss sub id i j ∧ qM (sbAt ss i) (fcAt (sbAt ss i).fs j) E y)
def A9 (e : Int) (qs rs : List Int) : Prop := ∃ i, i ≤ qs.length ∧ (∀ j, j < i → ¬ e < bA qs j) ∧ (i < qs.length → e < bA qs i) ∧ rs = qs.take i ++ [e] ++ qs.drop i
def U4 (vid : Int) (rn : Nat) (rs : List Rg) (sn : Nat) (ss : List Sb) (sub id : Int) (w0 w : World) (V : Value) (y : Int) : Prop :=
 aV vid rn rs sn ss = 0 ∧ ∃ ts i j x c ns, gY sn ss sub id i j ∧ qM (sbAt ss i) (fcAt (sbAt ss i).fs j) 0 y ∧ bG ss ts ∧ A9 y (fcAt (sbAt ts i).fs j).ns ns ∧
  E4 w w0.heap.size vid V rs (ts.set i (bK (sbAt ts i) (sbAt ts i).x (sbAt ts i).n (sbAt ts i).c ((sbAt ts i).fs.set j (withA (fcAt (sbAt ts i).fs j) x ns.length c ns))))
theorem jE.turn {gf kf cf : Nat} (h : jE w base v ts ts.length) (hi : i < ts.length) (hg : w.grownBy w' (some gf)) (hb : w.heap[gf]? = some (.cells cur 80))
  (hx : (Value.slice (sbAt ts i).x (sbAt ts i).n (sbAt ts i).c).ownBlock = some gf) (hO : dX w' base (.slice (some ⟨gf, 0, none⟩) kf cf) gs) (hsub : ∀ f ∈ gs, f ∈ (sbAt ts i).fs ∨ dO w' base (.slice f.x f.n f.c) f.ns) :
  wK w' base (ts.set i (bK (sbAt ts i) (some ⟨gf, 0, none⟩) kf cf gs)) := fun s hs => by
 have hI : ∀ k, k < ts.length → ∀ f ∈ (sbAt ts k).fs, dO w' base (.slice f.x f.n f.c) f.ns := fun k hk f hf => by
  have h1 := (h.own k hk).each f hf
  exact h1.kept hg (fun q hq e => by subst e; exact h1.ne hb (by decide) hq)
 obtain ⟨k, hk, rfl⟩ := List.getElem_of_mem hs
 have hk' : k < ts.length := by simpa using hk
 rw [List.getElem_set]
 by_cases e : i = k
 ·rw [if_pos e]
  exact mQ.mk' hO (fun f hf => (hsub f hf).elim (fun h => hI i hi f h) (fun h => h))
 ·rw [if_neg e]
  have e2 : sbAt ts k = ts[k] := by unfold sbAt; rw [List.getD_eq_getElem?_getD, List.getElem?_eq_getElem hk']; rfl
  rw [← e2]
  exact mQ.mk' ((h.own k hk').row.kept hg (fun q hq e3 => by subst e3; exact h.apart i k hi hk' e _ hx hq)) (hI k hk')
theorem bY.faces (h : bY w base v ss) (i : Nat) (hi : i < ss.length) (gs : List Fc) : bY w base v (ss.set i (bK (sbAt ss i) (sbAt ss i).x (sbAt ss i).n (sbAt ss i).c gs)) := by
 have e : flatS (ss.set i (bK (sbAt ss i) (sbAt ss i).x (sbAt ss i).n (sbAt ss i).c gs)) = flatS ss := by
  rw [← A5 ss i _ _ _ gs hi]
  apply List.ext_getElem?
  intro k
  rw [List.getElem?_set]
  by_cases hk : i * 4 + 3 = k
  ·subst hk
   have h1 := oH ss i 3 hi (by omega)
   rw [if_pos rfl, h1]
   have : i * 4 + 3 < (flatS ss).length := by rw [fK]; omega
   rw [if_pos this]
   rfl
  ·rw [if_neg hk]
 unfold bY
 rw [e, List.length_set]
 exact h
theorem more_after {m c : Nat} {fs : List Fc} : ∀ f ∈ fs.set j (withA (fcAt fs j) x m c ns), f ∈ fs ∨ (f.x = x ∧ f.n = m ∧ f.c = c ∧ f.ns = ns) := fun f hf => by
 obtain ⟨k, hk, rfl⟩ := List.getElem_of_mem hf
 rw [List.getElem_set]
 by_cases e : j = k
 ·rw [if_pos e]; exact .inr ⟨rfl, rfl, rfl, rfl⟩
 ·rw [if_neg e]; exact .inl (List.getElem_mem _)
theorem KW (vid : Int) (rx : Option Addr) (rn rc : Nat) (rs : List Rg) (sx : Option Addr) (sn sc : Nat) (ss : List Sb) (sub id : Int) (w : World) (hv : Vp w rx rn rc rs sx sn sc ss) (hrn : rn ≤ 9223372036854775807) (hsn : sn ≤ 9223372036854775807) (hrc : rc ≤ 9223372036854775807) :
  Calls Tryz.prog 103 #[.agg #[.int .i64 vid, .slice rx rn rc, .slice sx sn sc], .int .i64 sub, .int .i64 id] w (fG (vN vid rn rs sn ss sub id) (U4 vid rn rs sn ss sub id w) w) := by
 have hsl : Hid (ss.length = sn) := hv.subs.len
 have hpl0 := fun W h => vM vid rx rn rc rs sx sn sc ss sub id W h hrn hsn hrc
 unfold oN at hpl0
 have hAe : Hid (wL vid rn rs sn ss sub id ≠ 0 → vN vid rn rs sn ss sub id (wL vid rn rs sn ss sub id) 0) := fun h => ⟨fun _ => ⟨rfl, rfl⟩, fun h' => absurd h' h⟩
 have hA0 : Hid (∀ i j E y, wL vid rn rs sn ss sub id = 0 → gY sn ss sub id i j → qM (sbAt ss i) (fcAt (sbAt ss i).fs j) E y → vN vid rn rs sn ss sub id E y) := fun i j E y h h1 h2 => ⟨fun h' => absurd h h', fun _ => ⟨i, j, h1, h2⟩⟩
 have hcz0 : Hid (wL vid rn rs sn ss sub id = wL vid rn rs sn ss sub id) := rfl
 generalize wL vid rn rs sn ss sub id = E at hpl0 hAe hA0 hcz0
 go_enter Tryz.func103, Tryz.ntmps103
 go_upto_region 1 with fail
 obtain ⟨w0, hw0⟩ : ∃ w0, w0 = (w.alloc (cZ vid (.slice rx rn rc) (.slice sx sn sc))).alloc (cZ 0 (.slice none 0 0) (.slice none 0 0)) := ⟨_, rfl⟩
 rw [← hw0]
 have hT0 : TN w w0 vid rx rn rc sx sn sc := by
  rw [hw0]
  exact ⟨aF _ (aC _ rfl), aC _ (by simp), cB w _ _⟩
 clear hw0
 obtain ⟨b0, b1, b2⟩ := bI hT0.hb rfl rfl rfl
 obtain ⟨s0, s1, s2⟩ := bI hT0.hs rfl rfl rfl
 obtain ⟨zs0, zs1, zs2⟩ := eO hT0.hs
 have hpl := hpl0 w0 (hv.later hT0.below)
 clear hpl0
 by_cases hE : E = 0
 ·subst hE
  go_wp2_with fail
  refine hpl.mono ?_
  rintro e w1 ⟨i, j, rfl, hb1, -, hok⟩
  obtain ⟨hcz', hFA⟩ := hok (by trivial)
  have hcz : Hid (aV vid rn rs sn ss = 0) := hcz'
  obtain ⟨f1, f2, f3, f4⟩ := cA hcz'
  have hcs := oO hcz'
  clear hcz' hok hpl
  have hT1 := hT0.later hb1
  have hi := hFA.isn
  have hj := hFA.jn
  obtain ⟨b, o, rfl, c0, c1, c2, c3⟩ := hv.subs.cells i hi
  have hF := (hv.subs.faces i hi).2.2
  obtain ⟨bf, of, hbf, q0, q1⟩ := hF.cells j hj
  have hbf' : Hid ((sbAt ss i).x = some ⟨bf, of, none⟩) := hbf
  obtain ⟨fn, hfn⟩ : ∃ fn, Hid ((fcAt (sbAt ss i).fs j).n = fn) := ⟨_, rfl⟩
  have d0 := cell_later hT1.below c0
  have d1 := cell_later hT1.below c1
  have d2 := cell_later hT1.below c2
  have d3 := cell_later hT1.below c3
  have d3x : w1.cell? ⟨b, o + i * 4 + 3, none⟩ = some (.slice (some ⟨bf, of, none⟩) (sbAt ss i).n (sbAt ss i).c) := by rw [← hbf]; exact d3
  have p1 : w1.cell? ⟨bf, of + j * 2 + 1, none⟩ = some (.slice (fcAt (sbAt ss i).fs j).x fn (fcAt (sbAt ss i).fs j).c) := by rw [← hfn.out]; exact cell_later hT1.below q1
  have d3h : Hid (w1.cell? ⟨b, o + i * 4 + 3, none⟩ = some (.slice (sbAt ss i).x (sbAt ss i).n (sbAt ss i).c)) := d3
  clear hbf q0 q1 c0 c1 c2 c3 d3
  have i0 : (0 : Int) ≤ i := by omega
  have i1 : (i : Int) < sn := by omega
  have j0 : (0 : Int) ≤ j := by omega
  have j1 : (j : Int) < (sbAt ss i).n := by omega
  clear b0 b1 b2 s0 zs0 s1 zs1 s2 zs2
  obtain ⟨b0, b1, b2⟩ := bI hT1.hb rfl rfl rfl
  obtain ⟨s0, s1, s2⟩ := bI hT1.hs rfl rfl rfl
  obtain ⟨zs0, zs1, zs2⟩ := eO hT1.hs
  by_cases h4 : fn = 4
  ·subst h4
   have hMA : Hid (vN vid rn rs sn ss sub id 2 0) := hA0.out i j 2 0 (by trivial) hFA (by unfold qM; rw [if_pos hfn.out]; exact ⟨rfl, rfl⟩)
   go_wp2
   refine bodyPost_ret (v := .tuple #[.agg #[.int .i64 0, .slice none 0 0, .slice none 0 0], .int .i64 0, .int .i64 2]) (by simp [results, Tryz.results103, go_sem, s0, s1, s2]) rfl ?_
   exact fG.err hMA.out (by decide) (((hT1.below.setCell (p := ⟨w.heap.size + 1, 0, none⟩) (Nat.le_add_right _ _) _).setCell (p := ⟨w.heap.size + 1, 1, none⟩) (Nat.le_add_right _ _) _).setCell (p := ⟨w.heap.size + 1, 2, none⟩) (Nat.le_add_right _ _) _)
  ·have h4' : ¬ (fn : Int) = 4 := by omega
   have hMR : Hid (∀ E y, uJ (sbAt ss i) E y → qM (sbAt ss i) (fcAt (sbAt ss i).fs j) E y) := fun E y h => by unfold qM; rw [if_neg (by rw [hfn.out]; exact h4)]; exact h
   go_upto_region 4 with fail
   have d3 := d3h.out
   clear d3x
   have hgv := A7 (sbAt ss i) w1 (hcs i hi).1 ((hv.later hT1.below).subs.faces i hi).2.2 (by have := f3 i hi; omega) (fun j hj => by have := f4 i hi j hj; omega) (hcs i hi).2
   go_wp2_with fail
   refine hgv.mono ?_
   rintro e w3 ⟨hb3, hgg⟩
   have hT3 := hT1.later hb3
   clear hgv d0 d1 d2 d3 p1
   clear b0 b1 b2 s0 zs0 s1 zs1 s2 zs2
   obtain ⟨b0, b1, b2⟩ := bI hT3.hb rfl rfl rfl
   obtain ⟨s0, s1, s2⟩ := bI hT3.hs rfl rfl rfl
   obtain ⟨zs0, zs1, zs2⟩ := eO hT3.hs
   rcases hgg with ⟨y, rfl, hL⟩ | ⟨rfl, hfull⟩
   ·have hMR0 : Hid (qM (sbAt ss i) (fcAt (sbAt ss i).fs j) 0 y) := hMR.out 0 y (.inl ⟨rfl, hL⟩)
    have hMA : Hid (vN vid rn rs sn ss sub id 0 y) := hA0.out i j 0 y (by trivial) hFA hMR0.out
    clear hA0 hL hMR hAe
    have hv3 := fun W (hW : Below w.heap.size w W) => dE vid rx rn rc rs (some ⟨b, o, none⟩) sn sc ss W (hv.later hW) (by omega) (by omega) (fun i hi => by have := f3 i hi; omega) (fun i hi j hj => by have := f4 i hi j hj; omega)
    go_wp2_with fail
    refine (hv3 _ hT3.below).mono ?_
    rintro e w5 ⟨vR, vS, ts, rfl, hOR, hss, hOS, hb5⟩
    clear hv3
    have hT5 := hT3.later hb5
    have htl : Hid (ts.length = sn) := by unfold Hid; rw [← hss.1]; exact hsl.out
    have hit : i < ts.length := by rw [htl.out]; exact hi
    have hsi := hss.2 i (by rw [hss.1]; exact hit)
    obtain ⟨hfS, hfl, hfc, hfm⟩ := (hOS.own i hit).fcs
    have hjn : j < (sbAt ts i).n := by rw [← hsi.2.2.2.1]; exact hj
    have hjf : j < (sbAt ts i).fs.length := by rw [hfl]; exact hjn
    have hsf := hsi.2.2.2.2.2 j (by rw [hsi.2.2.2.2.1]; exact hjf)
    obtain ⟨xr, cr, rfl, -⟩ := hOR.rs
    obtain ⟨g, cap, hg5, cur, hgh, hvS⟩ : ∃ g cap, w3.heap.size ≤ g ∧ ∃ cur, w5.heap[g]? = some (.cells cur 78) ∧ vS = .slice (some ⟨g, 0, none⟩) ts.length cap := by
     obtain ⟨x2, c2, hv2, -⟩ := hOS.row.mem
     rcases hOS.row.2 with ⟨hv', -⟩ | ⟨g, cap, cur, hv', hg1, hg2, -⟩
     ·rw [hv'] at hv2; simp only [Value.slice.injEq] at hv2; omega
     ·exact ⟨g, cap, hg1, cur, hg2, hv'⟩
    subst hvS
    obtain ⟨gf, cf, hgf5, curf, hgfh, hvF⟩ : ∃ gf cf, w3.heap.size ≤ gf ∧ ∃ curf, w5.heap[gf]? = some (.cells curf 80) ∧ Hid (Value.slice (sbAt ts i).x (sbAt ts i).n (sbAt ts i).c = .slice (some ⟨gf, 0, none⟩) (sbAt ts i).n cf) := by
     rcases (hOS.own i hit).row.2 with ⟨hv', -⟩ | ⟨gf, cf, curf, hv', hg1, hg2, -⟩
     ·simp only [Value.slice.injEq] at hv'; omega
     ·exact ⟨gf, cf, hg1, curf, hg2, by unfold Hid; rw [hv', hfl]⟩
    have hgl : g < w5.heap.size := (Array.getElem?_eq_some_iff.1 hgh).1
    have hgfl : gf < w5.heap.size := (Array.getElem?_eq_some_iff.1 hgfh).1
    clear b0 b1 b2 s0 zs0 s1 zs1 s2 zs2
    go_upto_region 10 with fail
    obtain ⟨w6, hw6⟩ : ∃ w6, w6 = w5.alloc (cZ vid (.slice xr rs.length cr) (.slice (some ⟨g, 0, none⟩) ts.length cap)) := ⟨_, rfl⟩
    rw [← hw6]
    have hb56 : Below w5.heap.size w5 w6 := by rw [hw6]; exact bl1 _ _
    have hn6 : w6.heap[w5.heap.size]? = some (cZ vid (.slice xr rs.length cr) (.slice (some ⟨g, 0, none⟩) ts.length cap)) := by rw [hw6]; exact aC _ rfl
    have hs6 : w6.heap.size = w5.heap.size + 1 := by rw [hw6]; simp
    clear hw6
    have h13 : w1.heap.size ≤ w3.heap.size := hb3.size
    have hT6 := hT5.later hb56
    have hg6 := aB hb56 hgh
    have hgf6 := aB hb56 hgfh
    have hOR6 := bN.later (hOR.low (base' := w1.heap.size) h13) hb56
    have hOS6 := jE.later (hOS.low (base' := w1.heap.size) h13) hb56
    have hOF6 := (hOS6.own i hit).row
    rw [hvF.out] at hOF6
    have hx6 : Hid ((Value.slice (sbAt ts i).x (sbAt ts i).n (sbAt ts i).c).ownBlock = some gf) := by unfold Hid; rw [hvF.out]; rfl
    have n2 := aU hn6 2 rfl
    have d3 : w6.cell? ⟨g, i * 4 + 3, none⟩ = some (.slice (some ⟨gf, 0, none⟩) (sbAt ts i).n cf) := by
     obtain ⟨x2, c2, he2, -, -, -, hm'⟩ := hOS6.row.mem
     simp only [Value.slice.injEq] at he2
     obtain ⟨b2, o2, he3, -, -, -, c8⟩ := hm' i hit
     rw [← he2.1] at he3
     simp only [Option.some.injEq, Addr.mk.injEq] at he3
     obtain ⟨rfl, rfl, -⟩ := he3
     rw [hvF.out] at c8
     simpa using c8
    have i1' : (i : Int) < ts.length := by omega
    have j1' : (j : Int) < (sbAt ts i).n := by omega
    have hIj := (hOS6.own i hit).each _ (yN hjf)
    obtain ⟨hIS, hIl, hIc, hIm⟩ := hIj.is
    have hIx : ((fcAt (sbAt ts i).fs j).x = none ∧ (fcAt (sbAt ts i).fs j).c = 0) ∨ ∃ b o, (fcAt (sbAt ts i).fs j).x = some ⟨b, o, none⟩ := by
     rcases hIj.2 with ⟨h, -⟩ | ⟨g, cap, cur, h, -⟩
     ·simp only [Value.slice.injEq] at h
      exact .inl ⟨h.1, h.2.2⟩
     ·simp only [Value.slice.injEq] at h
      exact .inr ⟨g, 0, h.1⟩
    have hfn4 : (fcAt (sbAt ts i).fs j).n ≤ 4 := by rw [← hsf.2.1]; exact f4 i hi j hj
    have p1 : w6.cell? ⟨gf, j * 2 + 1, none⟩ = some (.slice (fcAt (sbAt ts i).fs j).x (fcAt (sbAt ts i).fs j).n (fcAt (sbAt ts i).fs j).c) := by
     obtain ⟨x2, c2, he2, -, -, -, hm'⟩ := hOF6.mem
     simp only [Value.slice.injEq] at he2
     obtain ⟨b2, o2, he3, -, c8⟩ := hm' j hjf
     rw [← he2.1] at he3
     simp only [Option.some.injEq, Addr.mk.injEq] at he3
     obtain ⟨rfl, rfl, -⟩ := he3
     simpa using c8
    have p1' : ∀ o, (w6.alloc o).cell? ⟨gf, j * 2 + 1, none⟩ = some (.slice (fcAt (sbAt ts i).fs j).x (fcAt (sbAt ts i).fs j).n (fcAt (sbAt ts i).fs j).c) := fun o => cell_later (bl1 w6 o) p1
    have hput := fun W (hW : Below w6.heap.size w6 W) bf hby => OE y (fcAt (sbAt ts i).fs j).x (fcAt (sbAt ts i).fs j).n (fcAt (sbAt ts i).fs j).c (fcAt (sbAt ts i).fs j).ns bf 1 W (hIS.later hW) (by omega) hIc hIm hIx hby
    have hb16 : w1.heap.size ≤ w6.heap.size := by have := hb5.size; omega
    have hsz1 : w.heap.size + 1 < w1.heap.size := (Array.getElem?_eq_some_iff.1 hT1.hs).1
    have hw1 : w.heap.size ≤ w1.heap.size := by omega
    have hq1 : w5.heap.size ≠ gf := by omega
    have hq2 : w.heap.size + 1 ≠ gf := by omega
    have hq4 : w.heap.size ≤ gf := by omega
    have hgg : g ≠ gf := fun e => by rw [e] at hg6; rw [hg6] at hgf6; simp at hgf6
    have hIl' : Hid ((fcAt (sbAt ts i).fs j).ns.length = (fcAt (sbAt ts i).fs j).n) := hIl
    have hjf' : Hid (j < (sbAt ts i).fs.length) := hjf
    clear hfl hfc hfm hsi hsf hcs f1 f2 f3 f4 hIl hIc hIm hIx hIj hfS hjf hs6
    go_wp2_with fail
    refine (hput _ (bl1 w6 _) w6.heap.size (by simp)).mono ?_
    rintro e w7 ⟨v7, rfl, hb7, p, hp, hlow, hup, hO7⟩
    obtain ⟨ns, hns⟩ : ∃ ns, Hid (ns = (fcAt (sbAt ts i).fs j).ns.take p ++ [y] ++ (fcAt (sbAt ts i).fs j).ns.drop p) := ⟨_, rfl⟩
    rw [← hns.out] at hO7
    obtain ⟨x7, c7, rfl, -⟩ := hO7.mem
    have hb67 : Below w6.heap.size w6 w7 := (bl1 w6 _).trans (hb7.mono (by simp))
    have hT7 := hT6.later hb67
    have hn7 := aB hb67 hn6
    have hg7 := aB hb67 hg6
    have hgf7 := aB hb67 hgf6
    have hOS7 := jE.later hOS6 hb67
    have hOR7 := bN.later hOR6 hb67
    have hOF7 := hOF6.later hb67
    have hO7' := hO7.low (base' := w1.heap.size) (by simp; omega)
    have hput7 : A9 y (fcAt (sbAt ts i).fs j).ns ns := ⟨p, by rw [hIl'.out]; exact hp, hlow, by rw [hIl'.out]; exact hup, hns.out⟩
    have p17 : w7.cell? ⟨gf, j * 2 + 1, none⟩ = some (.slice (fcAt (sbAt ts i).fs j).x (fcAt (sbAt ts i).fs j).n (fcAt (sbAt ts i).fs j).c) := cell_later hb67 p1
    have df : w7.frozen? ⟨gf, j * 2 + 1, none⟩ = false := hOF7.frozen _
    clear hput p1 p1' n2 d3 hns hlow hup hp
    go_upto_region 12 with fail
    obtain ⟨w8, hw8⟩ : ∃ w8, w8 = w7.setCell ⟨gf, j * 2 + 1, none⟩ (.slice x7 ns.length c7) := ⟨_, rfl⟩
    rw [← hw8]
    have hn8 : w8.heap[w5.heap.size]? = some (cZ vid (.slice xr rs.length cr) (.slice (some ⟨g, 0, none⟩) ts.length cap)) := by rw [hw8]; exact (heap_setCell_other _ _ _ _ hq1).trans hn7
    have hs8 : w8.heap[w.heap.size + 1]? = some (cZ 0 (.slice none 0 0) (.slice none 0 0)) := by rw [hw8]; exact (heap_setCell_other _ _ _ _ hq2).trans hT7.hs
    have hB8 : Below w.heap.size w w8 := by rw [hw8]; exact hT7.below.setCell (p := ⟨gf, j * 2 + 1, none⟩) hq4 _
    have hOR8 : bN w8 w1.heap.size (.slice xr rs.length cr) rs := by rw [hw8]; exact hOR7.putBox hgf7 (by decide)
    have hgw : w7.grownBy w8 (some gf) := by rw [hw8]; exact aJ _ _ _ _
    have hrow8 : bY w8 w1.heap.size (.slice (some ⟨g, 0, none⟩) ts.length cap) (ts.set i (bK (sbAt ts i) (sbAt ts i).x (sbAt ts i).n (sbAt ts i).c ((sbAt ts i).fs.set j (withA (fcAt (sbAt ts i).fs j) x7 ns.length c7 ns)))) := (hOS7.row.kept hgw (fun q hq e => by subst e; exact hOS7.row.ne hgf7 (by decide) hq)).faces i hit _
    have hO8 : dO w8 w1.heap.size (.slice x7 ns.length c7) ns := hO7'.kept hgw (fun q hq e => by subst e; exact hO7'.ne hgf7 (by decide) hq)
    have hOF8 : dX w8 w1.heap.size (.slice (some ⟨gf, 0, none⟩) (sbAt ts i).n cf) ((sbAt ts i).fs.set j (withA (fcAt (sbAt ts i).fs j) x7 ns.length c7 ns)) := by rw [hw8]; exact hOF7.set j hjf'.out _ _ _ _
    have hfa8 : wK w8 w1.heap.size (ts.set i (bK (sbAt ts i) (sbAt ts i).x (sbAt ts i).n (sbAt ts i).c ((sbAt ts i).fs.set j (withA (fcAt (sbAt ts i).fs j) x7 ns.length c7 ns)))) := by
     have h := hOS7.turn hit hgw hgf7 hx6.out hOF8 (fun f hf => by
      rcases more_after f hf with h | ⟨h1, h2, h3, h4⟩
      ·exact .inl h
      ·rw [h1, h2, h3, h4]; exact .inr hO8)
     have hv := hvF.out
     simp only [Value.slice.injEq] at hv
     rw [hv.1, hv.2.2]
     exact h
    clear hw8 p17 df
    obtain ⟨m0, m1, m2⟩ := bI hn8 rfl rfl rfl
    obtain ⟨s0, s1, s2⟩ := bI hs8 rfl rfl rfl
    obtain ⟨zs0, zs1, zs2⟩ := eO hs8
    go_wp2
    refine bodyPost_ret (v := .tuple #[.agg #[.int .i64 vid, .slice xr rs.length cr, .slice (some ⟨g, 0, none⟩) ts.length cap], .int .i64 y, .int .i64 0]) (by simp [results, Tryz.results103, go_sem, s0, s1, s2]) rfl ?_
    exact fG.ok hMA.out (((hB8.setCell (p := ⟨w.heap.size + 1, 0, none⟩) (Nat.le_add_right _ _) _).setCell (p := ⟨w.heap.size + 1, 1, none⟩) (Nat.le_add_right _ _) _).setCell (p := ⟨w.heap.size + 1, 2, none⟩) (Nat.le_add_right _ _) _) ⟨hcz.out, ts, i, j, x7, c7, ns, hFA, hMR0.out, hss, hput7, ⟨_, _, rfl, (((hOR8.put hsz1).put hsz1).put hsz1).low hw1, (((hrow8.put hsz1).put hsz1).put hsz1).low hw1, (((hfa8.put hsz1).put hsz1).put hsz1).low hw1⟩⟩
   ·have hMA : Hid (vN vid rn rs sn ss sub id 8 0) := hA0.out i j 8 0 (by trivial) hFA (hMR.out 8 0 (.inr ⟨rfl, rfl, hfull⟩))
    clear hfull hMR hA0 hAe
    go_wp2
    refine bodyPost_ret (v := .tuple #[.agg #[.int .i64 0, .slice none 0 0, .slice none 0 0], .int .i64 0, .int .i64 8]) (by simp [results, Tryz.results103, go_sem, s0, s1, s2]) rfl ?_
    exact fG.err hMA.out (by decide) (((hT3.below.setCell (p := ⟨w.heap.size + 1, 0, none⟩) (Nat.le_add_right _ _) _).setCell (p := ⟨w.heap.size + 1, 1, none⟩) (Nat.le_add_right _ _) _).setCell (p := ⟨w.heap.size + 1, 2, none⟩) (Nat.le_add_right _ _) _)
 ·go_wp2_with fail
  refine hpl.mono ?_
  rintro e w1 ⟨i, j, rfl, hb1, hzz, -⟩
  obtain ⟨rfl, rfl⟩ := hzz hE
  have hT1 := hT0.later hb1
  clear b0 b1 b2 s0 zs0 s1 zs1 s2 zs2
  obtain ⟨b0, b1, b2⟩ := bI hT1.hb rfl rfl rfl
  obtain ⟨s0, s1, s2⟩ := bI hT1.hs rfl rfl rfl
  obtain ⟨zs0, zs1, zs2⟩ := eO hT1.hs
  go_wp2
  refine bodyPost_ret (v := .tuple #[.agg #[.int .i64 0, .slice none 0 0, .slice none 0 0], .int .i64 0, .int .i64 E]) (by simp [results, Tryz.results103, go_sem, s0, s1, s2]) rfl ?_
  exact fG.err (hAe.out hE) hE (((hT1.below.setCell (p := ⟨w.heap.size + 1, 0, none⟩) (Nat.le_add_right _ _) _).setCell (p := ⟨w.heap.size + 1, 1, none⟩) (Nat.le_add_right _ _) _).setCell (p := ⟨w.heap.size + 1, 2, none⟩) (Nat.le_add_right _ _) _)
theorem jE.nil (w : World) (base : Nat) : jE w base (.slice none 0 0) [] 0 :=
 ⟨⟨rfl, .inl ⟨rfl, rfl⟩⟩, fun _ hi => absurd hi (Nat.not_lt_zero _), fun _ _ hi => absurd hi (Nat.not_lt_zero _)⟩
theorem sZ {α : Type} {xs : List α} {k : Nat} {x : α} (hx : xs[k]? = some x) : xs.take (k + 1) = xs.take k ++ [x] := by
 rw [List.take_add_one, hx]; rfl
theorem OF (a l x : Int) (t : Bool) (h : qO a l x = t) (w : World) : Calls Tryz.prog 11 #[.agg #[.int .i64 a, .int .i64 l], .int .i64 x] w fun e w' => e = .returned (.bool t) ∧ Below w.heap.size w w' := by
 subst h
 exact holds_any a l x w
open Go.ChangeShapes Go.WideShapes Go.ChangeAt Go.RowKit Go.Joins
section
variable {H : Type} {enc : TypeId × Value → H} {w : World} {base : Nat} {spare : Nat → Bool} {held : Bool}
end
theorem gA (h : i < rs.length) : aL rs i = rs[i] := by simp [aL, List.getD_eq_getElem?_getD, h]
theorem E7 : Tryz.prog.underlying 93 = some (.struct (Tryz.prog.fieldsOf 93)) := by kernel_rfl
theorem KX : Tryz.prog.stoodInHeld 93 = false := by kernel_rfl
theorem QX (a l c m : Int) (w : World) : (binOp .eql 93 (.agg #[.int .i64 a, .int .i64 l]) (.agg #[.int .i64 c, .int .i64 m])).run Tryz.prog w = .ok (.bool (decide (a = c) && decide (l = m))) w := by
 rw [run_eql_struct, show (10000 : Nat) = 9999 + 1 from rfl, run_equalIn_agg w 9999 _ _ _ E7 KX]
 simp only [Program.fieldsOf, Tryz.underlying93]
 go_simp
 by_cases h1 : a = c <;> by_cases h2 : l = m <;> simp [h1, h2]
theorem HN : Tryz.prog.eqGuardType Tryz.prog.depth 93 = false := by kernel_rfl
theorem HO (op : BinOp) (x y : Operand) (p q : Array Value) (w : World) : (eqGuard op 93 x y (.agg p) (.agg q)).run Tryz.prog w = .ok () w := by
 have h := HN
 unfold eqGuard
 cases op <;> simp [go_sem, h]
theorem HP {Q : Act → Prop} {o : Oper} (x y : Operand) (t : TypeId) (a l c m : Int) (hop : o.op = .binOp .eql 93 x y t) (hg : o.guard = none)
  (hx : A.eval x = .agg #[.int .i64 a, .int .i64 l]) (hy : A.eval y = .agg #[.int .i64 c, .int .i64 m]) (h : wpQuiet Tryz.prog ops C Q rest (A.put o.dst (.bool (decide (a = c) && decide (l = m))))) : wpQuiet Tryz.prog ops C Q (o :: rest) A := by
 unfold wpQuiet
 rw [if_pos (by simp [Region.wanted, hg])]
 refine ⟨_, fun w _ => ?_, h⟩
 unfold Oper.quietAt execOp
 rw [hop]
 simp only [hx, hy, Sem.run_bind, HO, QX, Result.andThen_ok, Sem.run_pure]
 exact ⟨rfl, rfl⟩
def eqLk (ps : List (Int × Int)) (a l : Int) (i : Nat) : Bool := decide (a = dA ps i) && decide (l = eA ps i)
theorem vO (a l : Int) (x : Option Addr) (n c : Nat) (ps : List (Int × Int)) (w : World) (hp : PS w x n ps) (hn : n ≤ 64) :
  Calls Tryz.prog 108 #[.slice x n c, .agg #[.int .i64 a, .int .i64 l]] w fun e w' => (∃ r : Int, e = .returned (.int .i64 r) ∧ ((∃ i : Nat, i < n ∧ eqLk ps a l i = true ∧ (∀ j, j < i → eqLk ps a l j = false) ∧ r = i) ∨ ((∀ j, j < n → eqLk ps a l j = false) ∧ r = -1))) ∧ Below w.heap.size w w' := by
 go_enter Tryz.func108, Tryz.ntmps108
 go_wp2
 go_loopw [8] (fun i wr => ∃ k : Nat, k ≤ n ∧ i = .int .i64 k ∧ Below (w.heap.size + 1) (w.alloc (.cells #[.int .i64 a, .int .i64 l] 93)) wr ∧ (∀ j, j < k → eqLk ps a l j = false)) (fun i _ => n - (intOf i).toNat)
 case atStart => exact ⟨0, by omega, rfl, Below.refl _ _, fun j hj => by omega⟩
 case round =>
  obtain ⟨k, hk, rfl, hB, hno⟩ := hrel
  have hz := hB.size
  simp only [World.size_alloc] at hz
  by_cases hlt : k < n
  ·have hp2 := (hp.later (bl1 w (.cells #[.int .i64 a, .int .i64 l] 93)))
   obtain ⟨b, o, rfl, c0, c1⟩ := hp2.cells k hlt
   have hbl := block_lt_of_cell c0
   simp only [World.size_alloc] at hbl
   have d0 : wr.cell? ⟨b, o + k * 2, none⟩ = some (.int .i64 (dA ps k)) := (hB.cell (p := ⟨b, o + k * 2, none⟩) hbl).trans c0
   have d1 : wr.cell? ⟨b, o + k * 2 + 1, none⟩ = some (.int .i64 (eA ps k)) := (hB.cell (p := ⟨b, o + k * 2 + 1, none⟩) hbl).trans c1
   have e0 : wr.cell? ⟨w.heap.size, 0, none⟩ = some (.int .i64 a) := (hB.cell (p := ⟨w.heap.size, 0, none⟩) (by show w.heap.size < _; omega)).trans (by simp)
   have e1 : wr.cell? ⟨w.heap.size, 1, none⟩ = some (.int .i64 l) := (hB.cell (p := ⟨w.heap.size, 1, none⟩) (by show w.heap.size < _; omega)).trans (by simp)
   have g0 := Ws.here e0
   have g1 := Ws.here e1
   have g2 := Ws.here d0
   have g3 := Ws.here d1
   have hlt' := hlt
   go_upto_region 4 with fail
   clear e0 e1 d0 d1 c0 c1
   refine aI wr.heap.size (by kernel_rfl) (by kernel_rfl) ?_
   repeat (go_big_quiet_step (fail))
   refine HP _ _ _ a l (dA ps k) (eA ps k) rfl rfl rfl rfl ?_
   refine wpQuiet_nil ?_
   rintro _ ⟨u, rfl⟩
   have hu := hB.trans (u.property.mono hz)
   generalize u.val = wu at hu ⊢
   clear u g0 g1 g2 g3
   cases he : eqLk ps a l k
   all_goals have he' := he
   all_goals unfold eqLk at he'
   all_goals rw [he']
   ·go_wp2
    go_roundw
    case rel => exact ⟨k + 1, hlt', by go_num, hu, fun j hj => by
     by_cases hj2 : j < k
     ·exact hno j hj2
     ·obtain rfl : j = k := by omega
      exact he⟩
    case measure => simp [intOf]; omega
   ·go_wp2
    go_ret
    exact ⟨⟨_, rfl, .inl ⟨k, hlt', he, hno, rfl⟩⟩, (bl1 w _).trans (hu.mono (by omega))⟩
  ·go_wp2
   go_ret
   exact ⟨⟨_, rfl, .inr ⟨fun j hj => hno j (by omega), rfl⟩⟩, (bl1 w _).trans (hB.mono (by omega))⟩
theorem yO : aK n (eqLk ls a b) = true ↔ ∃ i, i < n ∧ dA ls i = a ∧ eA ls i = b := by
 constructor
 ·intro h
  obtain ⟨i, hi, hf⟩ := kC h
  unfold eqLk at hf
  simp only [Bool.and_eq_true, decide_eq_true_eq] at hf
  exact ⟨i, hi, hf.1.symm, hf.2.symm⟩
 ·rintro ⟨i, hi, h1, h2⟩
  exact aT hi (by unfold eqLk; simp [h1, h2])
theorem yP (a l : Int) (x : Option Addr) (n c : Nat) (ps : List (Int × Int)) (w : World) (hp : PS w x n ps) (hn : n ≤ 64) :
  Calls Tryz.prog 105 #[.slice x n c, .agg #[.int .i64 a, .int .i64 l]] w fun e w' => e = .returned (.bool (aK n (eqLk ps a l))) ∧ Below w.heap.size w w' := by
 have H := vO a l x n c ps (w.alloc (.cells #[.int .i64 a, .int .i64 l] 93)) (hp.later (bl1 w _)) hn
 have H' : Hid (Calls Tryz.prog 108 #[.slice x n c, .agg #[.int .i64 a, .int .i64 l]] (w.alloc (.cells #[.int .i64 a, .int .i64 l] 93)) fun e w' => (∃ r : Int, e = .returned (.int .i64 r) ∧ decide (r ≥ 0) = aK n (eqLk ps a l)) ∧ Below (w.alloc (.cells #[.int .i64 a, .int .i64 l] 93)).heap.size (w.alloc (.cells #[.int .i64 a, .int .i64 l] 93)) w') := (H.mono fun e w' h => by
  obtain ⟨⟨r, rfl, hr⟩, hb⟩ := h
  refine ⟨⟨r, rfl, ?_⟩, hb⟩
  rcases hr with ⟨i, hi, hfi, _, rfl⟩ | ⟨hno, rfl⟩
  ·rw [aT hi hfi]; simp
  ·rw [cY hno]; rfl)
 clear H
 go_enter Tryz.func105, Tryz.ntmps105
 go_wp2_with fail
 refine H'.out.mono ?_
 rintro e w1 ⟨⟨r, rfl, hr⟩, hb1⟩
 go_wp2
 go_ret
 exact ⟨rfl, (bl1 w _).trans (hb1.mono (by simp))⟩
def L5 (ln : Nat) (ls : List (Int × Int)) (a b : Int) : Bool := aK ln (eqLk ls (min a b) (max a b))
def R3 (ln : Nat) (ls : List (Int × Int)) (id : Int) (v : Vn) : Bool := (v.id == id) || L5 ln ls v.id id
theorem dW (h : bE n vs ln ls = 0) : n ≤ 6 ∧ ln ≤ 12 ∧ eC n vs = true ∧ cU n vs ln ls = true ∧ sU ls n vs = true := by
 unfold bE at h
 split at h
 ·omega
 ·rename_i hm
  simp only [Bool.or_eq_true, decide_eq_true_eq] at hm
  split at h
  ·rename_i hw
   simp only [Bool.and_eq_true] at hw
   exact ⟨by omega, by omega, hw.1.1, hw.1.2, hw.2⟩
  ·omega
theorem CP (ms : List (Int × Int)) : ∀ (hd : Int → Int) (x y : Int), hd x = hd y → (ms.foldl (fun hd l x => if hd x = hd l.1 then hd l.2 else hd x) hd) x = (ms.foldl (fun hd l x => if hd x = hd l.1 then hd l.2 else hd x) hd) y := by
 induction ms with
 | nil => intro hd x y h; exact h
 | cons m ms ih =>
  intro hd x y h
  rw [List.foldl_cons]
  refine ih _ x y ?_
  simp only [h]
theorem KY (h : (a, b) ∈ ls) : bO ls a = bO ls b := by
 obtain ⟨p, q, rfl⟩ := List.append_of_mem h
 unfold bO
 rw [List.foldl_append, List.foldl_cons]
 refine CP q _ a b ?_
 simp only [if_true]
 split <;> rfl
theorem U5 (hl : ls.length = ln) (h : L5 ln ls a b = true) : bO ls a = bO ls b := by
 obtain ⟨i, hi, h0, h1⟩ := yO.1 h
 have hm : (min a b, max a b) ∈ ls := by
  rw [← h0, ← h1, yI (by omega)]
  exact List.getElem_mem _
 have := KY hm
 by_cases e : a ≤ b
 ·rw [show min a b = a by omega, show max a b = b by omega] at this
  exact this
 ·rw [show min a b = b by omega, show max a b = a by omega] at this
  exact this.symm
theorem lW (h : eC n vs = true) : ∀ i, i < n → aV (vnAt vs i).id (vnAt vs i).rn (vnAt vs i).rs (vnAt vs i).sn (vnAt vs i).ss = 0 := fun i hi => by
 unfold eC at h
 rw [Bool.and_eq_true] at h
 have hb : kD (vnAt vs i) = false := by
  cases e : kD (vnAt vs i)
  ·rfl
  ·rw [aT (f := fun i => kD (vnAt vs i)) hi e] at h
   exact absurd h.2 (by simp)
 unfold kD at hb
 simpa using hb
theorem HQ {id : Int} (h : aV id rn rs sn ss = 0) : cO rn sn ss = false ∧ dH id 1 65536 = true ∧ nG rn rs = true ∧ mN rn rs sn ss = true := by
 unfold aV at h
 split at h
 ·omega
 ·rename_i hm
  split at h
  ·rename_i hw
   simp only [Bool.and_eq_true] at hw
   exact ⟨by simpa using hm, hw.1.1, hw.1.2, hw.2⟩
  ·omega
theorem S9 (h : nG rn rs = true) {i : Nat} (hi : i < rn) : A2 (aL rs i) = true ∧ ∀ j, j < i → gF (aL rs j).a (aL rs j).l (aL rs i).a (aL rs i).l = false := by
 unfold nG at h
 rw [Bool.and_eq_true, List.all_eq_true] at h
 have h1 := h.1 i (by simpa using hi)
 unfold sN at h1
 rw [Bool.and_eq_true] at h1
 refine ⟨h1.1, fun j hj => ?_⟩
 cases e : gF (aL rs j).a (aL rs j).l (aL rs i).a (aL rs i).l
 ·rfl
 ·rw [aT (f := CH rs (aL rs i).a (aL rs i).l) hj e] at h1
  exact absurd h1.2 (by simp)
theorem R4 (h : A2 r = true) : rt r.a r.l = true := by
 unfold A2 at h
 rw [Bool.and_eq_true] at h
 exact h.1
theorem tA {l m : Int} (h : gF a l c m = false) : ¬ (qO a l y = true ∧ qO c m y = true) := by
 rintro ⟨h1, h2⟩
 rw [MG] at h1 h2
 rw [qQ h1.1 h2.1 (by omega) (by omega)] at h
 cases h
theorem yQ (h : sU ls n vs = true) {i j : Nat} (hi : i < n) (hj : j < i) : wF (bO ls) vs i j = false := by
 unfold sU at h
 rw [List.all_eq_true] at h
 have h1 := h i (by simpa using hi)
 unfold CJ at h1
 rw [List.all_eq_true] at h1
 have h2 := h1 j (by simpa using hj)
 simpa using h2
theorem E8 {hd : Int → Int} (h : wF hd vs i j = false) (he : hd (vnAt vs i).id = hd (vnAt vs j).id) {p q : Nat} (hp : p < (vnAt vs i).rn) (hq : q < (vnAt vs j).rn) :
  gF (aL (vnAt vs i).rs p).a (aL (vnAt vs i).rs p).l (aL (vnAt vs j).rs q).a (aL (vnAt vs j).rs q).l = false := by
 unfold wF at h
 rw [he] at h
 simp only [beq_self_eq_true, Bool.true_and] at h
 cases e : gF (aL (vnAt vs i).rs p).a (aL (vnAt vs i).rs p).l (aL (vnAt vs j).rs q).a (aL (vnAt vs j).rs q).l
 ·rfl
 ·unfold gI at h
  rw [aT (f := fun i' => aK (vnAt vs j).rn fun j' => gF (aL (vnAt vs i).rs i').a (aL (vnAt vs i).rs i').l (aL (vnAt vs j).rs j').a (aL (vnAt vs j).rs j').l) hp (aT (f := fun j' => gF (aL (vnAt vs i).rs p).a (aL (vnAt vs i).rs p).l (aL (vnAt vs j).rs j').a (aL (vnAt vs j).rs j').l) hq e)] at h
  cases h
structure U6 (n : Nat) (vs : List Vn) (ln : Nat) (ls : List (Int × Int)) : Prop where
 vl : vs.length = n
 ll : ls.length = ln
 rl : ∀ i, i < n → (vnAt vs i).rs.length = (vnAt vs i).rn
 chk : bE n vs ln ls = 0
theorem U6.near_hd (h : U6 n vs ln ls) {id : Int} {v : Vn} (hv : R3 ln ls id v = true) : bO ls v.id = bO ls id := by
 unfold R3 at hv
 simp only [Bool.or_eq_true, beq_iff_eq] at hv
 rcases hv with hv | hv
 ·rw [hv]
 ·exact U5 h.ll hv
theorem yR {α : Type} {f : α → Bool} : ∀ {l : List α}, l.Pairwise (fun r s => ¬ (f r = true ∧ f s = true)) → (l.filter f).length ≤ 1
 | [], _ => by simp
 | x :: l, h => by
  rw [List.pairwise_cons] at h
  by_cases hx : f x = true
  ·have : l.filter f = [] := by
    rw [List.filter_eq_nil_iff]
    intro s hs hf
    exact h.1 s hs ⟨hx, hf⟩
   rw [List.filter_cons_of_pos hx, this]
   simp
  ·rw [List.filter_cons_of_neg hx]
   exact yR h.2
def wM (L : List Rg) (y : Int) (k : Nat) : Nat := ((L.take k).filter fun r => qO r.a r.l y).length
theorem KZ (h : k < L.length) : wM L y (k + 1) = wM L y k + (if qO (aL L k).a (aL L k).l y = true then 1 else 0) := by
 unfold wM
 rw [List.take_add_one, List.getElem?_eq_getElem h, Option.toList_some, List.filter_append, List.length_append, gA h]
 split
 ·rename_i hh
  simp [hh]
 ·rename_i hh
  simp [hh]
theorem QY (L : List Rg) (y : Int) (k : Nat) : wM L y k ≤ L.length := by
 unfold wM
 have h1 := List.length_filter_le (fun r => qO r.a r.l y) (L.take k)
 rw [List.length_take] at h1
 omega
theorem CQ (h : cQ vs = true) : ∀ (i j : Nat), i < j → j < vs.length → (vnAt vs i).id < (vnAt vs j).id
 | i, 0, hij, _ => by omega
 | i, j + 1, hij, hj => by
  have h1 : eH vs (j + 1) = true := by
   unfold cQ at h
   rw [List.all_eq_true] at h
   exact h (j + 1) (by simpa using hj)
  unfold eH at h1
  simp only [Nat.add_sub_cancel, Bool.or_eq_true, decide_eq_true_eq, beq_iff_eq] at h1
  have h2 : (vnAt vs j).id < (vnAt vs (j + 1)).id := by
   rcases h1 with h1 | h1
   ·omega
   ·exact h1
  by_cases e : i < j
  ·have := CQ h i j e (by omega)
   omega
  ·obtain rfl : i = j := by omega
   exact h2
theorem lX (hl : vs.length = n) (h : cQ vs = true) {i : Nat} (hi : i < n) : aG n vs (vnAt vs i).id = i :=
 mO hi (by simp) (fun j hj => by
  have := CQ h j i hj (by omega)
  simp
  omega)
theorem K0 (x : Option Addr) (n c : Nat) (vs : List Vn) (lx : Option Addr) (ln lc : Nat) (id : Int) (w : World) (hp : VS w x n vs) (hn : n ≤ 1048576) :
  Calls Tryz.prog 10 #[.agg #[.slice x n c, .slice lx ln lc], .int .i64 id] w fun e w' => e = .returned (.int .i64 (aG n vs id)) ∧ Below w.heap.size w w' := by
 go_enter Tryz.func10, Tryz.ntmps10
 go_upto_region 1 with fail
 obtain ⟨w2, hw2⟩ : ∃ w2, w2 = w.alloc (nH x n c lx ln lc) := ⟨_, rfl⟩
 rw [← hw2]
 have h02 : Below w.heap.size w w2 := by rw [hw2]; exact bl1 w _
 have hbox : w2.heap[w.heap.size]? = some (nH x n c lx ln lc) := by rw [hw2]; exact aC _ rfl
 clear hw2
 obtain ⟨hcl, -⟩ := aA hbox
 have q0 : w2.cell? ⟨w.heap.size, 0, none⟩ = some (.slice x n c) := hcl 0
 clear hcl hbox
 have hp2 := hp.later h02
 generalize hbk : w.heap.size = bk at *
 go_wp2
 go_loopw [5] (fun i wr => ∃ k : Nat, k ≤ n ∧ i = .int .i64 k ∧ wr = w2 ∧ (∀ j, j < k → ((vnAt vs j).id == id) = false)) (fun i _ => n - (intOf i).toNat)
 case atStart => exact ⟨0, by omega, rfl, rfl, fun j hj => by omega⟩
 case round =>
  obtain ⟨k, hk, rfl, rfl, hno⟩ := hrel
  have hno' : Hid (∀ j, j < k → ((vnAt vs j).id == id) = false) := hno
  clear hno
  by_cases hlt : k < n
  ·have hlt' : Hid (k < n) := hlt
   obtain ⟨b, o, rfl, c0, c1, c2⟩ := hp2.cells k hlt
   cases he : ((vnAt vs k).id == id)
   ·go_wp2
    go_roundw
    case rel => exact ⟨k + 1, hlt'.out, by go_num, by first | rfl | trivial, fun j hj => by
     by_cases hj2 : j < k
     ·exact hno'.out j hj2
     ·obtain rfl : j = k := by omega
      exact he⟩
    case measure => simp [intOf]; have := hlt'.out; omega
   ·have hv : Hid (aG n vs id = k) := mO hlt he hno'.out
    go_wp2
    go_ret
    exact ⟨cN hv.out.symm, by rw [hbk]; exact h02⟩
  ·obtain rfl : k = n := by omega
   have hv : Hid (aG k vs id = -1) := uG hno'.out
   go_wp2
   go_ret
   exact ⟨cN hv.out.symm, by rw [hbk]; exact h02⟩
theorem OG (x : Option Addr) (n c : Nat) (vs : List Vn) (lx : Option Addr) (ln lc : Nat) (id t : Int) (h : aG n vs id = t) (w : World) (hp : VS w x n vs) (hn : n ≤ 1048576) :
  Calls Tryz.prog 10 #[.agg #[.slice x n c, .slice lx ln lc], .int .i64 id] w fun e w' => e = .returned (.int .i64 t) ∧ Below w.heap.size w w' := by
 subst h
 exact K0 x n c vs lx ln lc id w hp hn
open Go.RowKit Go.Shelf Go.Maps
def yS (ls : List (Int × Int)) (a y : Int) : Prop := ∀ P : Int → Prop, P a → (∀ b c, P b → (b, c) ∈ ls → P c) → (∀ b c, P b → (c, b) ∈ ls → P c) → P y
theorem yS.here : yS ls a a := fun _ p _ _ => p
theorem yS.out (h : yS ls a b) (m : (b, c) ∈ ls) : yS ls a c := fun P p o k => o _ _ (h P p o k) m
theorem yS.back (h : yS ls a b) (m : (c, b) ∈ ls) : yS ls a c := fun P p o k => k _ _ (h P p o k) m
theorem yS.trans (h : yS ls a b) (k : yS ls b c) : yS ls a c :=
 k (fun y => yS ls a y) h (fun _ _ ih m => ih.out m) (fun _ _ ih m => ih.back m)
theorem yS.more (h : yS ls a b) (hs : ∀ p ∈ ls, p ∈ ms) : yS ms a b :=
 h (fun y => yS ms a y) yS.here (fun _ _ ih m => ih.out (hs _ m)) (fun _ _ ih m => ih.back (hs _ m))
theorem IQ (ls : List (Int × Int)) : ∀ p ∈ ls, bO ls p.1 = bO ls p.2 := by
 suffices h : ∀ n, ∀ ls : List (Int × Int), ls.length = n → ∀ p ∈ ls, bO ls p.1 = bO ls p.2 from h _ ls rfl
 intro n
 induction n with
 | zero =>
  intro ls hl p hp
  rw [List.length_eq_zero_iff.1 hl] at hp
  cases hp
 | succ n ih =>
  intro ls hl p hp
  have hne : ls ≠ [] := by intro e; rw [e] at hl; cases hl
  rw [← List.dropLast_concat_getLast hne] at hp ⊢
  rw [lV, lV]
  rcases List.mem_append.1 hp with hp | hp
  ·rw [ih _ (by rw [List.length_dropLast, hl]; rfl) p hp]
  ·rw [List.mem_singleton.1 hp, if_pos rfl]
   split <;> rfl
theorem TA (ls : List (Int × Int)) : ∀ a b, bO ls a = bO ls b → yS ls a b := by
 suffices h : ∀ n, ∀ ls : List (Int × Int), ls.length = n → ∀ a b, bO ls a = bO ls b → yS ls a b from h _ ls rfl
 intro n
 induction n with
 | zero =>
  intro ls hl a b h
  rw [List.length_eq_zero_iff.1 hl] at h ⊢
  have e : a = b := h
  rw [e]
  exact .here
 | succ n ih =>
  intro ls hl a b h
  have hne : ls ≠ [] := by intro e; rw [e] at hl; cases hl
  rw [← List.dropLast_concat_getLast hne] at h ⊢
  rw [lV, lV] at h
  have ih' := ih ls.dropLast (by rw [List.length_dropLast, hl]; rfl)
  generalize ls.dropLast = ms at *
  generalize ls.getLast hne = l at *
  have up : ∀ {x y}, yS ms x y → yS (ms ++ [l]) x y := fun c => c.more fun p hp => List.mem_append.2 (.inl hp)
  have hl : (l.1, l.2) ∈ ms ++ [l] := by simp
  split at h
  ·rename_i ha
   split at h
   ·rename_i hb
    exact up (ih' a b (ha.trans hb.symm))
   ·exact ((up (ih' a l.1 ha)).out hl).trans (up (ih' l.2 b h))
  ·split at h
   ·rename_i hb
    exact ((up (ih' a l.2 h)).back hl).trans (up (ih' l.1 b hb.symm))
   ·exact up (ih' a b h)
theorem TE (h : yS ls a b) : bO ls a = bO ls b :=
 h (fun y => bO ls a = bO ls y) rfl (fun b c ih m => ih.trans (IQ ls (b, c) m)) (fun b c ih m => ih.trans (IQ ls (c, b) m).symm)
def V8 (ls : List (Int × Int)) (a b : Int) : Bool := decide ((min a b, max a b) ∈ ls)
theorem U7 (hl : ls.length = ln) (a b : Int) : L5 ln ls a b = V8 ls a b := by
 unfold V8
 by_cases h : (min a b, max a b) ∈ ls
 ·rw [decide_eq_true h]
  obtain ⟨i, hi, e⟩ := List.getElem_of_mem h
  have e2 := yI hi
  rw [e] at e2
  exact yO.2 ⟨i, by omega, congrArg Prod.fst e2, congrArg Prod.snd e2⟩
 ·rw [decide_eq_false h]
  cases hj : L5 ln ls a b
  ·rfl
  ·exfalso
   obtain ⟨i, hi, h0, h1⟩ := yO.1 hj
   apply h
   have e2 := yI (ls := ls) (k := i) (by omega)
   rw [h0, h1] at e2
   rw [e2]
   exact List.getElem_mem _
theorem tB (hl : vs.length = n) (hll : ls.length = ln) (h : cU n vs ln ls = true) : ∀ q ∈ ls, q.1 < q.2 ∧ (∃ k, k < n ∧ (vnAt vs k).id = q.1) ∧ ∃ k, k < n ∧ (vnAt vs k).id = q.2 := by
 intro q hq
 obtain ⟨i, hi, e⟩ := List.getElem_of_mem hq
 have e2 := yI hi
 rw [e] at e2
 have e3 : dA ls i = q.1 := congrArg Prod.fst e2
 have e4 : eA ls i = q.2 := congrArg Prod.snd e2
 obtain ⟨m0, m1⟩ := pS hl h i (by omega)
 rw [e3] at m0
 rw [e4] at m1
 obtain ⟨k0, hk0, h0⟩ := sS m0
 obtain ⟨k1, hk1, h1⟩ := sS m1
 refine ⟨?_, ⟨k0, by omega, h0⟩, ⟨k1, by omega, h1⟩⟩
 unfold cU at h
 rw [Bool.and_eq_true, Bool.not_eq_true'] at h
 have h2 := bZ.1 h.2 i (by omega)
 unfold mP at h2
 simp only [Bool.or_eq_false_iff, decide_eq_false_iff_not] at h2
 rw [e3, e4] at h2
 omega
theorem rL (rn : Nat) (rs : List Rg) (qn : Nat) (qs : List Rg) : gI rn rs qn qs = gI qn qs rn rs := by
 have h : ∀ (rn : Nat) (rs : List Rg) (qn : Nat) (qs : List Rg), gI rn rs qn qs = true → gI qn qs rn rs = true := by
  intro rn rs qn qs h
  obtain ⟨i, hi, h1⟩ := kC h
  obtain ⟨j, hj, h2⟩ := kC h1
  refine aT (k := j) hj (aT (k := i) hi ?_)
  rw [fQ]
  exact h2
 cases h1 : gI rn rs qn qs
 ·cases h2 : gI qn qs rn rs
  ·rfl
  ·rw [h _ _ _ _ h2] at h1
   cases h1
 ·rw [h _ _ _ _ h1]
theorem wU (h : (decide (6 < n) || decide (12 < ln)) = false) (h1 : eC n vs = true) (h2 : cU n vs ln ls = true) (h3 : sU ls n vs = true) : bE n vs ln ls = 0 := by
 unfold bE
 rw [if_neg (by rw [h]; simp), h1, h2, h3]
 rfl
def lkAt (ls : List (Int × Int)) (i : Nat) : Int × Int := ls.getD i (0, 0)
def cV (e : Vn) : List Value := [.int .i64 e.id, .slice e.rx e.rn e.rc, .slice e.sx e.sn e.sc]
def flatV (es : List Vn) : List Value := es.flatMap cV
theorem HR (e : Vn) : (cV e).length = 3 := rfl
theorem jP : ∀ es : List Vn, (flatV es).length = es.length * 3 := mH HR
theorem K1 (es fs : List Vn) : flatV (es ++ fs) = flatV es ++ flatV fs := by simp [flatV]
theorem yT : ∀ (es : List Vn) (i j : Nat), i < es.length → j < 3 → (flatV es)[i * 3 + j]? = (cV (vnAt es i))[j]? := rT HR UV
theorem uL (es : List Vn) : ∀ u ∈ flatV es, u.oneCell' = true := fun u hu => by
 obtain ⟨e, -, hu⟩ := List.mem_flatMap.1 hu
 simp only [cV, List.mem_cons, List.not_mem_nil, or_false] at hu
 rcases hu with rfl | rfl | rfl <;> rfl
def bX (w : World) (base : Nat) (v : Value) (es : List Vn) : Prop := w.ownsRow base 41 3 v es.length (flatV es)
theorem bX.later {es : List Vn} (h : bX w base v es) (hb : Below w.heap.size w w') : bX w' base v es := jH h hb
theorem bX.kept {es : List Vn} (h : bX w base v es) (hg : w.grownBy w' (some g)) (hne : ∀ k, v.ownBlock = some k → k ≠ g) : bX w' base v es := iK h hg hne
theorem bX.low {es : List Vn} (h : bX w base v es) (hb : base' ≤ base) : bX w base' v es := jI h hb
theorem bX.lt {es : List Vn} (h : bX w base v es) : ∀ k, v.ownBlock = some k → base ≤ k ∧ k < w.heap.size := World.ownsRow.lt h
theorem bX.ne {b : Nat} {es : List Vn} (h : bX w base v es) (hb : w.heap[b]? = some (.cells cs t fr)) (ht : t ≠ 41) : v.ownBlock ≠ some b := nU h hb ht
theorem U8 : Ty 41 26 3 (.agg #[.int .i64 0, .slice none 0 0, .slice none 0 0]) 56 := uY (by kernel_rfl) (by kernel_rfl) rfl (uL [UV]) (by decide) (by decide)
theorem VS.flatV_cells {es : List Vn} (h : VS w (some ad) n es) : ∀ j u, (flatV es)[j]? = some u → w.cell? (ad.add j) = some u :=
 jU (by decide) HR UV h.len fun i hi => by
  obtain ⟨b, o, hx, d0, d1, d2⟩ := h.cells i hi
  exact ⟨b, o, hx, by rintro (_ | _ | _ | q) u hu <;> first | (cases hu; assumption) | simp [cV] at hu⟩
theorem VS.rw {es : List Vn} (h : VS w x n es) : Rw w x n 3 (flatV es) :=
 ⟨by rw [jP, h.len], fun h0 e => (by obtain ⟨b, o, hx, -⟩ := h.cells 0 h0; rw [e] at hx; cases hx), uL es, fun ad hx => by subst hx; exact h.flatV_cells⟩
theorem bX.mem {es : List Vn} (h : bX w base v es) : ∃ x c, v = .slice x es.length c ∧ es.length ≤ c ∧ c ≤ 9223372036854775807 ∧ (x = none → es.length = 0 ∧ c = 0) ∧ ∀ i, i < es.length → ∃ b o, x = some ⟨b, o, none⟩ ∧ w.cell? ⟨b, o + i * 3, none⟩ = some (.int .i64 (vnAt es i).id) ∧ w.cell? ⟨b, o + i * 3 + 1, none⟩ = some (.slice (vnAt es i).rx (vnAt es i).rn (vnAt es i).rc) ∧ w.cell? ⟨b, o + i * 3 + 2, none⟩ = some (.slice (vnAt es i).sx (vnAt es i).sn (vnAt es i).sc) := by
 obtain ⟨x, c, hv, h1, h2, h3, h4⟩ := mI h
 refine ⟨x, c, hv, h1, h2, h3, fun i hi => ?_⟩
 obtain ⟨b, o, hx, e⟩ := h4 i hi
 have e := fun j u hj hu => e j u hj ((yT es i j hi hj).trans hu)
 exact ⟨b, o, hx, e 0 _ (by decide) rfl, e 1 _ (by decide) rfl, e 2 _ (by decide) rfl⟩
def cK (e : (Int × Int)) : List Value := [.int .i64 e.1, .int .i64 e.2]
def flatK (es : List (Int × Int)) : List Value := es.flatMap cK
theorem HS (e : (Int × Int)) : (cK e).length = 2 := rfl
theorem uM : ∀ es : List (Int × Int), (flatK es).length = es.length * 2 := mH HS
theorem BA (es fs : List (Int × Int)) : flatK (es ++ fs) = flatK es ++ flatK fs := by simp [flatK]
theorem OH : ∀ (es : List (Int × Int)) (i j : Nat), i < es.length → j < 2 → (flatK es)[i * 2 + j]? = (cK (lkAt es i))[j]? := rT HS ((0 : Int), (0 : Int))
theorem pT (es : List (Int × Int)) : ∀ u ∈ flatK es, u.oneCell' = true := fun u hu => by
 obtain ⟨e, -, hu⟩ := List.mem_flatMap.1 hu
 simp only [cK, List.mem_cons, List.not_mem_nil, or_false] at hu
 rcases hu with rfl | rfl <;> rfl
def bU (w : World) (base : Nat) (v : Value) (es : List (Int × Int)) : Prop := w.ownsRow base 93 2 v es.length (flatK es)
theorem bU.later (h : bU w base v es) (hb : Below w.heap.size w w') : bU w' base v es := jH h hb
theorem bU.kept (h : bU w base v es) (hg : w.grownBy w' (some g)) (hne : ∀ k, v.ownBlock = some k → k ≠ g) : bU w' base v es := iK h hg hne
theorem bU.low (h : bU w base v es) (hb : base' ≤ base) : bU w base' v es := jI h hb
theorem bU.lt (h : bU w base v es) : ∀ k, v.ownBlock = some k → base ≤ k ∧ k < w.heap.size := World.ownsRow.lt h
theorem bU.ne {b : Nat} (h : bU w base v es) (hb : w.heap[b]? = some (.cells cs t fr)) (ht : t ≠ 93) : v.ownBlock ≠ some b := nU h hb ht
theorem TF : Ty 93 27 2 (.agg #[.int .i64 0, .int .i64 0]) 16 := uY (by kernel_rfl) (by kernel_rfl) rfl (pT [((0 : Int), (0 : Int))]) (by decide) (by decide)
theorem PS.flatK_cells (h : PS w (some ad) n es) : ∀ j u, (flatK es)[j]? = some u → w.cell? (ad.add j) = some u :=
 jU (by decide) HS ((0 : Int), (0 : Int)) h.len fun i hi => by
  obtain ⟨b, o, hx, d0, d1⟩ := h.cells i hi
  exact ⟨b, o, hx, by rintro (_ | _ | q) u hu <;> first | (cases hu; assumption) | simp [cK] at hu⟩
theorem PS.rwK (h : PS w x n es) : Rw w x n 2 (flatK es) :=
 ⟨by rw [uM, h.len], fun h0 e => (by obtain ⟨b, o, hx, -⟩ := h.cells 0 h0; rw [e] at hx; cases hx), pT es, fun ad hx => by subst hx; exact h.flatK_cells⟩
theorem bU.mem (h : bU w base v es) : ∃ x c, v = .slice x es.length c ∧ es.length ≤ c ∧ c ≤ 9223372036854775807 ∧ (x = none → es.length = 0 ∧ c = 0) ∧ ∀ i, i < es.length → ∃ b o, x = some ⟨b, o, none⟩ ∧ w.cell? ⟨b, o + i * 2, none⟩ = some (.int .i64 (lkAt es i).1) ∧ w.cell? ⟨b, o + i * 2 + 1, none⟩ = some (.int .i64 (lkAt es i).2) := by
 obtain ⟨x, c, hv, h1, h2, h3, h4⟩ := mI h
 refine ⟨x, c, hv, h1, h2, h3, fun i hi => ?_⟩
 obtain ⟨b, o, hx, e⟩ := h4 i hi
 have e := fun j u hj hu => e j u hj ((OH es i j hi hj).trans hu)
 exact ⟨b, o, hx, e 0 _ (by decide) rfl, e 1 _ (by decide) rfl⟩
theorem yU (x : Option Addr) (n c : Nat) (es : List Vn) (w : World) (hl : VS w x n es) (hn : n ≤ 1048576) :
  Calls Tryz.prog 79 #[.slice x n c] w fun e w' => ∃ v, e = .returned v ∧ bX w' w.heap.size v es ∧ Below w.heap.size w w' := by
 obtain rfl := hl.len
 exact nW.2.2.2.2.2.2.1 _ _ U8 x _ c _ w hl.rw hn
theorem rM (x : Option Addr) (n c : Nat) (es : List (Int × Int)) (w : World) (hl : PS w x n es) (hn : n ≤ 1048576) :
  Calls Tryz.prog 80 #[.slice x n c] w fun e w' => ∃ v, e = .returned v ∧ bU w' w.heap.size v es ∧ Below w.heap.size w w' := by
 obtain rfl := hl.len
 exact nW.2.2.2.2.2.2.2 _ _ TF x _ c _ w hl.rwK hn
def OI (e : Vn) (n : Nat) (ps : List Vn) (w : World) (r : Ending) (w' : World) : Prop :=
 ∃ v, r = .returned v ∧ Below w.heap.size w w' ∧ ∃ i, i ≤ n ∧ (∀ j, j < i → ¬ e.id < (vnAt ps j).id) ∧ (i < n → e.id < (vnAt ps i).id) ∧ bX w' w.heap.size v (ps.take i ++ [e] ++ ps.drop i)
theorem OJ (e : Vn) (x : Option Addr) (n c : Nat) (ps : List Vn) (bf k : Nat) (w : World) (hp : VS w x n ps) (hn : n ≤ 32) (hnc : n ≤ c) (hc63 : c ≤ 9223372036854775807) (hx : (x = none ∧ c = 0) ∨ ∃ b o, x = some ⟨b, o, none⟩)
  (hby : w.cell? ⟨bf, 0, none⟩ = some (.func (.func 56) #[] #[])) :
  Calls Tryz.prog 136 #[.slice x n c, .agg #[.int .i64 e.id, .slice e.rx e.rn e.rc, .slice e.sx e.sn e.sc], .slice (some ⟨bf, 0, none⟩) 1 k] w (OI e n ps w) := by
 have hB2 := cB w (.cells #[.int .i64 e.id, .slice e.rx e.rn e.rc, .slice e.sx e.sn e.sc] 41) (.cells #[.slice (some ⟨bf, 0, none⟩) 1 k] 174)
 refine (DQ.2.2.2.2.2.2.1 _ _ U8 e x n c bf 1 k (flatV ps) (fun i => decide (e.id < (vnAt ps i).id)) w hp.rw (uL [e]) hn hnc hc63 hx (fA _ _ x n c ps _ _ (hp.later hB2) (by omega) (fun i hi W hW => ?_) jA.2.2.2.2.2.2.1.2)).mono ?_
 ·obtain ⟨v, hv, hd⟩ := qW e.id (vnAt ps i).id
  exact (jA.2.2.2.2.2.2.1.1 e (vnAt ps i) v w.heap.size (w.heap.size + 1) bf 1 k W (fun i => (hW.cell (p := ⟨w.heap.size, i, none⟩) (by show w.heap.size < _; simp; omega)).trans (by simp)) (cell_later hW (by simp)) fun W9 h9 => vI e _ v hv bf k W9 (cell_later h9 (cell_later hW (cell_later hB2 hby)))).mono fun _ _ h => ⟨h.1.trans (congrArg (fun t => Ending.returned (.bool t)) hd.symm), h.2⟩
 ·rintro r w1 ⟨v, rfl, hb, i, hi, hlow, hup, ho⟩
  exact ⟨v, rfl, hb, i, hi, fun j hj => of_decide_eq_false (hlow j hj), fun h => of_decide_eq_true (hup h), kQ flatV jP K1 hp.len hi ho⟩
def fO (p r : Int × Int) : Bool := decide (p.1 < r.1) || (decide (p.1 = r.1) && decide (p.2 < r.2))
theorem OK (p r : Int × Int) : ∃ v, QV p.1 p.2 r.1 r.2 v ∧ (fO p r = decide (v < 0)) := by
 unfold fO
 rcases Int.lt_trichotomy p.1 r.1 with h | h | h
 ·exact ⟨-1, .inl ⟨h, rfl⟩, by simp [h]⟩
 ·rcases Int.lt_trichotomy p.2 r.2 with h2 | h2 | h2
  ·exact ⟨-1, .inr (.inl ⟨h, .inl ⟨h2, rfl⟩⟩), by simp [h, h2]⟩
  ·exact ⟨0, .inr (.inl ⟨h, .inr (.inl ⟨h2, rfl⟩)⟩), by simp [h, h2]⟩
  ·exact ⟨1, .inr (.inl ⟨h, .inr (.inr ⟨h2, rfl⟩)⟩), by simp [h]; omega⟩
 ·exact ⟨1, .inr (.inr ⟨h, rfl⟩), by simp; omega⟩
def OL (e : (Int × Int)) (n : Nat) (ps : List (Int × Int)) (w : World) (r : Ending) (w' : World) : Prop :=
 ∃ v, r = .returned v ∧ Below w.heap.size w w' ∧ ∃ i, i ≤ n ∧ (∀ j, j < i → fO e (lkAt ps j) = false) ∧ (i < n → fO e (lkAt ps i) = true) ∧ bU w' w.heap.size v (ps.take i ++ [e] ++ ps.drop i)
theorem OM (e : (Int × Int)) (x : Option Addr) (n c : Nat) (ps : List (Int × Int)) (bf k : Nat) (w : World) (hp : PS w x n ps) (hn : n ≤ 32) (hnc : n ≤ c) (hc63 : c ≤ 9223372036854775807) (hx : (x = none ∧ c = 0) ∨ ∃ b o, x = some ⟨b, o, none⟩)
  (hby : w.cell? ⟨bf, 0, none⟩ = some (.func (.func 61) #[] #[])) (hby2 : w.cell? ⟨bf, 1, none⟩ = some (.func (.func 62) #[] #[])) :
  Calls Tryz.prog 107 #[.slice x n c, .agg #[.int .i64 e.1, .int .i64 e.2], .slice (some ⟨bf, 0, none⟩) 2 k] w (OL e n ps w) := by
 have hB2 := cB w (.cells #[.int .i64 e.1, .int .i64 e.2] 93) (.cells #[.slice (some ⟨bf, 0, none⟩) 2 k] 177)
 refine (DQ.2.2.2.2.2.2.2 _ _ TF e x n c bf 2 k (flatK ps) (fun i => fO e (lkAt ps i)) w hp.rwK (pT [e]) hn hnc hc63 hx (mX _ _ x n c ps _ _ (hp.later hB2) (by omega) (fun i hi W hW => ?_) jA.2.2.2.2.2.2.2.2)).mono ?_
 ·obtain ⟨v, hv, hd⟩ := OK e (lkAt ps i)
  exact (jA.2.2.2.2.2.2.2.1 e (lkAt ps i) v w.heap.size (w.heap.size + 1) bf 2 k W (fun i => (hW.cell (p := ⟨w.heap.size, i, none⟩) (by show w.heap.size < _; simp; omega)).trans (by simp)) (cell_later hW (by simp)) fun W9 h9 => vJ e.1 e.2 _ _ v hv bf k W9 (cell_later h9 (cell_later hW (cell_later hB2 hby))) (cell_later h9 (cell_later hW (cell_later hB2 hby2)))).mono fun _ _ h => ⟨h.1.trans (congrArg (fun t => Ending.returned (.bool t)) hd.symm), h.2⟩
 ·rintro r w1 ⟨v, rfl, hb, i, hi, hlow, hup, ho⟩
  exact ⟨v, rfl, hb, i, hi, hlow, hup, kQ flatK uM BA hp.len hi ho⟩
theorem E9 (base g k cap i j : Nat) (es : List (Int × Int)) (w : World) (hO : bU w base (.slice (some ⟨g, 0, none⟩) (k + 1) cap) es) (hn : es.length = k + 1) (hi : i ≤ k) (hj : j = i + 1) (hn64 : k ≤ 64) (hnc : k + 1 ≤ cap) (hcm : cap ≤ 9223372036854775807) :
  Calls Tryz.prog 109 #[.slice (some ⟨g, 0, none⟩) (k + 1) cap, .int .i64 i, .int .i64 j] w fun e w' => e = .returned (.slice (some ⟨g, 0, none⟩) k cap) ∧ bU w' base (.slice (some ⟨g, 0, none⟩) k cap) (es.take i ++ es.drop j) ∧ w.grownBy w' (some g) :=
 (pF.2.2.2.2.2 _ _ TF base g k cap i j (flatK es) w (by unfold bU at hO; rw [hn] at hO; exact hO) (pT es) hi hj hn64 hnc hcm).mono fun e w1 h => ⟨h.1, pC flatK uM BA hn (by omega) hj h.2.1, h.2.2⟩
theorem bX.frozen (h : bX w base (.slice (some ⟨g, 0, none⟩) n cap) fs) (i : Nat) : w.frozen? ⟨g, i, none⟩ = false := mJ h i
theorem bX.block (h : bX w base (.slice (some ⟨g, 0, none⟩) n cap) fs) : base ≤ g ∧ ∃ cur, w.heap[g]? = some (.cells cur 41) := pB h
theorem bX.cells (h : bX w base (.slice (some ⟨g, 0, none⟩) n cap) fs) (q : Nat) (hq : q < fs.length) :
  w.cell? ⟨g, q * 3, none⟩ = some (.int .i64 (vnAt fs q).id) ∧ w.cell? ⟨g, q * 3 + 1, none⟩ = some (.slice (vnAt fs q).rx (vnAt fs q).rn (vnAt fs q).rc) ∧ w.cell? ⟨g, q * 3 + 2, none⟩ = some (.slice (vnAt fs q).sx (vnAt fs q).sn (vnAt fs q).sc) := by
 obtain ⟨x2, c2, he2, -, -, -, hm'⟩ := h.mem
 simp only [Value.slice.injEq] at he2
 obtain ⟨b2, o2, he3, c7, c8, c9⟩ := hm' q hq
 rw [← he2.1] at he3
 simp only [Option.some.injEq, Addr.mk.injEq] at he3
 obtain ⟨rfl, rfl, -⟩ := he3
 exact ⟨by simpa using c7, by simpa using c8, by simpa using c9⟩
theorem bX.held (h : bX w base v fs) (hf : 0 < fs.length) : ∃ g cap, v = .slice (some ⟨g, 0, none⟩) fs.length cap := by
 rcases h.2 with ⟨-, h0⟩ | ⟨g, cap, cur, hv, -⟩
 ·omega
 ·exact ⟨g, cap, hv⟩
theorem cE (hi : i < fs.length) (e : Vn) (j : Nat) : vnAt (fs.set i e) j = if i = j then e else vnAt fs j := by
 unfold vnAt
 rw [List.getD_eq_getElem?_getD, List.getElem?_set, List.getD_eq_getElem?_getD]
 by_cases h : i = j
 ·subst h
  rw [if_pos rfl, if_pos rfl, if_pos hi]
  rfl
 ·rw [if_neg h, if_neg h]
theorem HT (fs : List Vn) (i : Nat) (e : Vn) (hi : i < fs.length) : (((flatV fs).set (i * 3) (.int .i64 e.id)).set (i * 3 + 1) (.slice e.rx e.rn e.rc)).set (i * 3 + 2) (.slice e.sx e.sn e.sc) = flatV (fs.set i e) := by
 refine List.ext_getElem? fun j => ?_
 by_cases hj : j < fs.length * 3
 ·have e1 : j = (j / 3) * 3 + j % 3 := by omega
  have hq : j / 3 < fs.length := by omega
  rw [e1, yT _ _ _ (by rw [List.length_set]; exact hq) (by omega), cE hi, List.getElem?_set, List.length_set, List.length_set, List.getElem?_set, List.length_set, List.getElem?_set, jP]
  by_cases h1 : i = j / 3
  ·rw [if_pos h1]
   have h3 : j % 3 = 0 ∨ j % 3 = 1 ∨ j % 3 = 2 := by omega
   rcases h3 with h3 | h3 | h3
   ·rw [if_neg (by omega), if_neg (by omega), if_pos (by omega), if_pos (by omega), h3]
    rfl
   ·rw [if_neg (by omega), if_pos (by omega), if_pos (by omega), h3]
    rfl
   ·rw [if_pos (by omega), if_pos (by omega), h3]
    rfl
  ·rw [if_neg h1, if_neg (by omega), if_neg (by omega), if_neg (by omega), yT _ _ _ hq (by omega)]
 ·rw [List.getElem?_eq_none (by rw [List.length_set, List.length_set, List.length_set, jP]; omega), List.getElem?_eq_none (by rw [jP, List.length_set]; omega)]
def jM (w : World) (g i : Nat) (e : Vn) : World := ((w.setCell ⟨g, i * 3, none⟩ (.int .i64 e.id)).setCell ⟨g, i * 3 + 1, none⟩ (.slice e.rx e.rn e.rc)).setCell ⟨g, i * 3 + 2, none⟩ (.slice e.sx e.sn e.sc)
theorem bX.setE (h : bX w base (.slice (some ⟨g, 0, none⟩) n cap) fs) (i : Nat) (hi : i < fs.length) (e : Vn) :
  bX (jM w g i e) base (.slice (some ⟨g, 0, none⟩) n cap) (fs.set i e) := by
 rcases h.2 with ⟨hv, -⟩ | ⟨g', cap', cur, hv, h1, h2, h3, h4, h5, h6⟩
 ·simp at hv
 ·simp only [Value.slice.injEq, Option.some.injEq, Addr.mk.injEq] at hv
  obtain ⟨⟨rfl, -⟩, rfl, rfl⟩ := hv
  refine ⟨jP _, .inr ⟨g, cap, ((cur.setIfInBounds (i * 3) (.int .i64 e.id)).setIfInBounds (i * 3 + 1) (.slice e.rx e.rn e.rc)).setIfInBounds (i * 3 + 2) (.slice e.sx e.sn e.sc), by rw [List.length_set], h1, heap_setCell_same _ g _ _ _ _ (heap_setCell_same _ g _ _ _ _ (heap_setCell_same w g _ _ _ _ h2)), by rw [List.length_set]; exact h3, h4, by simpa using h5, ?_⟩⟩
  rw [List.length_set, Array.toList_setIfInBounds, Array.toList_setIfInBounds, Array.toList_setIfInBounds, List.take_set, List.take_set, List.take_set, h6, HT fs i e hi]
theorem gB {b : Nat} (h : b ≠ g) : (jM w g i e).heap[b]? = w.heap[b]? :=
 (heap_setCell_other _ _ _ _ h).trans ((heap_setCell_other _ _ _ _ h).trans (heap_setCell_other _ _ _ _ h))
theorem mR (h : Below n w W) (hg : n ≤ g) : Below n w (jM W g i e) :=
 ((h.setCell (p := ⟨g, i * 3, none⟩) hg _).setCell (p := ⟨g, i * 3 + 1, none⟩) hg _).setCell (p := ⟨g, i * 3 + 2, none⟩) hg _
theorem kY (a b : Int) (w : World) :
  Calls Tryz.prog 106 #[.int .i64 a, .int .i64 b] w fun e w' => e = .returned (.agg #[.int .i64 (min a b), .int .i64 (max a b)]) ∧ Below w.heap.size w w' := by
 go_enter Tryz.func106, Tryz.ntmps106
 go_wp2
 refine bodyPost_ret (v := .agg #[.int .i64 (min a b), .int .i64 (max a b)]) (by simp [results, Tryz.results106, go_sem]) rfl ⟨rfl, ?_⟩
 exact bl1 _ _
def mD (w : World) (base : Nat) (v : Vn) : Prop := bN w base (.slice v.rx v.rn v.rc) v.rs ∧ jE w base (.slice v.sx v.sn v.sc) v.ss v.ss.length
theorem mD.later {v : Vn} (h : mD w base v) (hb : Below w.heap.size w w') : mD w' base v := ⟨bN.later h.1 hb, h.2.later hb⟩
theorem mD.low {v : Vn} (h : mD w base v) (hb : base' ≤ base) : mD w base' v := ⟨h.1.low hb, h.2.low hb⟩
theorem mD.putBox {b : Nat} {v : Vn} (h : mD w base v) (hb : w.heap[b]? = some (.cells cs t)) (h0 : t ≠ 51) (h1 : t ≠ 78) (h2 : t ≠ 80) (h3 : t ≠ 3) : mD (w.setCell ⟨b, o, none⟩ u) base v :=
 ⟨h.1.putBox hb h0, h.2.putBox hb h1 h2 h3⟩
theorem mD.put {b : Nat} {v : Vn} (h : mD w base v) (hb : b < base) : mD (w.setCell ⟨b, o, none⟩ u) base v := ⟨h.1.put hb, h.2.put hb⟩
theorem mD.vp {v : Vn} (h : mD w base v) : v.rn ≤ 9223372036854775807 ∧ v.sn ≤ 9223372036854775807 ∧ v.rc ≤ 9223372036854775807 ∧ Vp w v.rx v.rn v.rc v.rs v.sx v.sn v.sc v.ss := by
 obtain ⟨x1, c1, e1, h1, h2, h3⟩ := h.1.rs
 obtain ⟨x2, c2, e2, g1, g2, g3⟩ := h.2.subs
 simp only [Value.slice.injEq] at e1 e2
 obtain ⟨rfl, hrn, rfl⟩ := e1
 obtain ⟨rfl, hsn, rfl⟩ := e2
 rw [hrn, hsn]
 exact ⟨by omega, by omega, h3, ⟨h2, g2, h1, g1⟩⟩
def nB (v u : Vn) : Prop := v.id = u.id ∧ v.rn = u.rn ∧ v.rs = u.rs ∧ v.sn = u.sn ∧ bG v.ss u.ss
def cI (vs us : List Vn) : Prop := vs.length = us.length ∧ ∀ i, i < vs.length → nB (vnAt vs i) (vnAt us i)
theorem nB.refl (v : Vn) : nB v v := ⟨rfl, rfl, rfl, rfl, bG.refl _⟩
theorem cI.refl (vs : List Vn) : cI vs vs := ⟨rfl, fun _ _ => nB.refl _⟩
theorem cI.set {u : Vn} (h : cI vs us) (hk : k < us.length) (hu : nB (vnAt vs k) u) : cI vs (us.set k u) := by
 refine ⟨by rw [List.length_set]; exact h.1, fun i hi => ?_⟩
 rw [cE hk]
 split
 ·rename_i e
  rw [← e]
  exact hu
 ·exact h.2 i hi
theorem mD.setN {v : Vn} (h : mD w base v) (hO : bX w base' (.slice (some ⟨g, 0, none⟩) n cap) fs) : mD (jM w g k e) base v := by
 obtain ⟨-, cur, hg⟩ := hO.block
 have h1 := h.putBox (o := k * 3) (u := .int .i64 e.id) hg (by decide) (by decide) (by decide) (by decide)
 have g1 := heap_setCell_same w g (k * 3) _ _ (.int .i64 e.id) hg
 have h2 := h1.putBox (o := k * 3 + 1) (u := .slice e.rx e.rn e.rc) g1 (by decide) (by decide) (by decide) (by decide)
 have g2 := heap_setCell_same _ g (k * 3 + 1) _ _ (.slice e.rx e.rn e.rc) g1
 exact h2.putBox (o := k * 3 + 2) (u := .slice e.sx e.sn e.sc) g2 (by decide) (by decide) (by decide) (by decide)
theorem bU.setN (h : bU w base v ls) (hO : bX w base' (.slice (some ⟨g, 0, none⟩) n cap) fs) : bU (jM w g k e) base v ls := by
 obtain ⟨-, cur, hg⟩ := hO.block
 have h1 : bU (w.setCell ⟨g, k * 3, none⟩ (.int .i64 e.id)) base v ls := h.kept (aJ _ _ _ _) (fun q hq e => by subst e; exact h.ne hg (by decide) hq)
 have g1 := heap_setCell_same w g (k * 3) _ _ (.int .i64 e.id) hg
 have h2 : bU ((w.setCell ⟨g, k * 3, none⟩ (.int .i64 e.id)).setCell ⟨g, k * 3 + 1, none⟩ (.slice e.rx e.rn e.rc)) base v ls := h1.kept (aJ _ _ _ _) (fun q hq e => by subst e; exact h1.ne g1 (by decide) hq)
 have g2 := heap_setCell_same _ g (k * 3 + 1) _ _ (.slice e.rx e.rn e.rc) g1
 exact h2.kept (aJ _ _ _ _) (fun q hq e => by subst e; exact h2.ne g2 (by decide) hq)
theorem bX.put {b : Nat} (h : bX w base v vs) (hb : b < base) : bX (w.setCell ⟨b, o, none⟩ u) base v vs :=
 h.kept (aJ _ _ _ _) (fun k hk => by have := h.lt k hk; omega)
theorem bU.put {b : Nat} (h : bU w base v ls) (hb : b < base) : bU (w.setCell ⟨b, o, none⟩ u) base v ls :=
 h.kept (aJ _ _ _ _) (fun k hk => by have := h.lt k hk; omega)
abbrev dZ (v l : Value) : Obj := .cells #[v, l] 29
theorem CR {b : Nat} (hy : w2.heap[b]? = some (dZ (.slice none 0 0) (.slice none 0 0))) (hb : w0.heap.size ≤ b) (hO1 : bX w2 w0.heap.size vV vs) (hO2 : bU w2 w0.heap.size vK ls) (hB : Below w0.heap.size w0 w2) :
  bX ((w2.setCell ⟨b, 0, none⟩ vV).setCell ⟨b, 1, none⟩ vK) w0.heap.size vV vs ∧ bU ((w2.setCell ⟨b, 0, none⟩ vV).setCell ⟨b, 1, none⟩ vK) w0.heap.size vK ls ∧ ((w2.setCell ⟨b, 0, none⟩ vV).setCell ⟨b, 1, none⟩ vK).heap[b]? = some (dZ vV vK) ∧ Below w0.heap.size w0 ((w2.setCell ⟨b, 0, none⟩ vV).setCell ⟨b, 1, none⟩ vK) := by
 have n1 : ∀ k, vV.ownBlock = some k → k ≠ b := fun k hk e => by subst e; exact hO1.ne hy (by decide) hk
 have n2 : ∀ k, vK.ownBlock = some k → k ≠ b := fun k hk e => by subst e; exact hO2.ne hy (by decide) hk
 refine ⟨(hO1.kept (aJ _ _ _ _) n1).kept (aJ _ _ _ _) n1, (hO2.kept (aJ _ _ _ _) n2).kept (aJ _ _ _ _) n2, ?_, (hB.setCell hb _).setCell hb _⟩
 have h1 := heap_setCell_same w2 b 0 _ _ vV hy
 have h2 := heap_setCell_same _ b 1 _ _ vK h1
 simpa using h2
def TI (vs : List Vn) (ls : List (Int × Int)) (w : World) (e : Ending) (w' : World) : Prop :=
 ∃ vV vK us, e = .returned (.agg #[vV, vK]) ∧ cI vs us ∧ bX w' w.heap.size vV us ∧ (∀ i, i < us.length → mD w' w.heap.size (vnAt us i)) ∧ bU w' w.heap.size vK ls ∧ Below w.heap.size w w'
def TJ (v : Vn) : Prop := v.rn ≤ 64 ∧ v.sn ≤ 64 ∧ (∀ i, i < v.sn → (sbAt v.ss i).n ≤ 64) ∧ ∀ i, i < v.sn → ∀ j, j < (sbAt v.ss i).n → (fcAt (sbAt v.ss i).fs j).n ≤ 64
def R5 (vs : List Vn) (ls : List (Int × Int)) (n ln nb : Nat) (xv : Option Addr) (cv : Nat) (xl : Option Addr) (cl : Nat) (w0 : World) (i : Value) (wr : World) : Prop := ∃ (q : Nat) (us : List Vn), q ≤ n ∧ i = .int .i64 q ∧ cI vs us ∧ (∀ i, q ≤ i → vnAt us i = vnAt vs i) ∧ bX wr w0.heap.size (.slice xv n cv) us ∧ (∀ i, i < q → mD wr w0.heap.size (vnAt us i)) ∧ bU wr w0.heap.size (.slice xl ln cl) ls ∧ wr.heap[nb]? = some (dZ (.slice xv n cv) (.slice xl ln cl)) ∧ Below w0.heap.size w0 wr
theorem gC (x : Option Addr) (n c : Nat) (vs : List Vn) (lx : Option Addr) (ln lc : Nat) (ls : List (Int × Int)) (w : World) (hp : VS w x n vs) (hn : n ≤ 64) (hl : PS w lx ln ls) (hln : ln ≤ 64) (hfew : ∀ i, i < n → TJ (vnAt vs i)) :
  Calls Tryz.prog 42 #[.agg #[.slice x n c, .slice lx ln lc]] w (TI vs ls w) := by
 have hvl : Hid (vs.length = n) := hp.len
 have hll : Hid (ls.length = ln) := hl.len
 go_enter Tryz.func42, Tryz.ntmps42
 go_upto_region 1 with fail
 obtain ⟨w0, hw0⟩ : ∃ w0, w0 = (w.alloc (nH x n c lx ln lc)).alloc (dZ (.slice none 0 0) (.slice none 0 0)) := ⟨_, rfl⟩
 rw [← hw0]
 have hB0 : Below w.heap.size w w0 := by rw [hw0]; exact cB w _ _
 have hb0 : w0.heap[w.heap.size]? = some (nH x n c lx ln lc) := by rw [hw0]; exact aF _ (aC _ rfl)
 have hr0 : w0.heap[w.heap.size + 1]? = some (dZ (.slice none 0 0) (.slice none 0 0)) := by rw [hw0]; exact aC _ (by simp)
 clear hw0
 have hsz : w.heap.size + 1 < w0.heap.size := (Array.getElem?_eq_some_iff.1 hr0).1
 have hp0 := hp.later hB0
 have hl0 := hl.later hB0
 have a0 := Ws.here (aU hb0 0 rfl)
 have a1 := Ws.here (aU hb0 1 rfl)
 go_cut [3] (fun p wc => ∃ nb vV vK, p = .pointer (some ⟨nb, 0, none⟩) ∧ w0.heap.size ≤ nb ∧ bX wc w0.heap.size vV vs ∧ bU wc w0.heap.size vK ls ∧ wc.heap[nb]? = some (dZ vV vK) ∧ Below w0.heap.size w0 wc)
 case first =>
  have hbd : Below w0.heap.size w0 w0.drew := (Below.refl _ _).drew
  refine bQ (fun w' => ∃ u : Ws w0.heap.size w0, w' = u.val) (fun j => decide (j < 8)) 9 _ (by kernel_rfl) rfl rfl ?_
  refine aZ 5 [0, 1, 3, 4] rfl _ rfl (by kernel_rfl) (fun d _ _ _ _ h => by cases d <;> exact h) ⟨⟨_, hbd⟩, rfl⟩ ?_
  simp only [List.map_cons, List.map_nil, List.getD_cons_zero, List.getD_cons_succ]
  repeat (go_big_quiet_step (fail))
  refine wpQuiet_nil ?_
  clear a0 a1
  refine iD 2 7 _ _ _ _ (by kernel_rfl) (by kernel_rfl) rfl rfl rfl rfl ?_ ?_
  ·intro K hK
   simp only [List.getD_cons_zero, List.getD_cons_succ]
   go_wp2_with fail
   refine (yU x n c vs w0.drew (hp0.later hbd) (by omega)).mono ?_
   rintro e w1 ⟨v1, rfl, hO1, hb1⟩
   obtain ⟨x1, c1, hv1, -⟩ := hO1.mem
   subst hv1
   have hB1 : Below w0.heap.size w0 w1 := ⟨hb1.os, hb1.tape, hb1.output, hb1.size, hb1.block⟩
   go_wp2_with fail
   refine aD (hK.out _ _ ⟨⟨_, hB1⟩, rfl⟩ ?_)
   clear hK K
   refine iD 5 7 _ _ _ _ (by kernel_rfl) (by kernel_rfl) rfl rfl rfl rfl ?_ ?_
   ·intro K hK
    simp only [List.getD_cons_zero, List.getD_cons_succ]
    go_wp2_with fail
    refine (rM lx ln lc ls w1 (hl0.later hB1) (by omega)).mono ?_
    rintro e w2 ⟨v2, rfl, hO2, hb2⟩
    obtain ⟨x2, c2, hv2, -⟩ := hO2.mem
    subst hv2
    have hB2 : Below w0.heap.size w0 w2 := hB1.trans (hb2.mono hB1.size)
    go_wp2_with fail
    refine aD (hK.out _ _ ⟨⟨_, hB2⟩, rfl⟩ ?_)
    clear hK K
    refine aZ 2 [6] rfl _ rfl (by kernel_rfl) (fun d _ _ _ _ h => by cases d <;> exact h) ⟨⟨_, hB2⟩, rfl⟩ ?_
    simp only [List.map_cons, List.map_nil, List.getD_cons_zero, List.getD_cons_succ]
    repeat (go_big_quiet_step (fail))
    refine wpQuiet_nil ?_
    refine aW 7 _ _ (by kernel_rfl) (by kernel_rfl) rfl rfl ?_
    intro K hK
    simp only [List.getD_cons_zero, List.getD_cons_succ]
    go_wp2_with fail
    have hB3 : Below w0.heap.size w0 (w2.alloc (dZ (.slice none 0 0) (.slice none 0 0))) := hB2.trans ((bl1 w2 _).mono hB2.size)
    refine aD (hK.out _ _ ⟨⟨_, hB3⟩, rfl⟩ ?_)
    clear hK K
    obtain ⟨w3, hw3⟩ : ∃ w3, w3 = w2.alloc (dZ (.slice none 0 0) (.slice none 0 0)) := ⟨_, rfl⟩
    rw [← hw3] at hB3 ⊢
    have h23 : Below w2.heap.size w2 w3 := by rw [hw3]; exact bl1 w2 _
    have hy : w3.heap[w2.heap.size]? = some (dZ (.slice none 0 0) (.slice none 0 0)) := by rw [hw3]; exact aC _ rfl
    clear hw3
    have hnb : w0.heap.size ≤ w2.heap.size := hB2.size
    have hO1' := ((hO1.low (base' := w0.heap.size) (Nat.le_refl _)).later hb2).later h23
    have hO2' := (hO2.low (base' := w0.heap.size) hB1.size).later h23
    have hBf := hB3
    refine aY [8] rfl (by kernel_rfl) ?_
    simp only [List.map_cons, List.map_nil, List.getD_cons_zero, List.getD_cons_succ]
    have q0 := (aA hy).1 0
    have q1 := (aA hy).1 1
    obtain ⟨f0, f1⟩ := cH hy
    simp only [List.getElem?_toArray, List.getElem?_cons_zero, List.getElem?_cons_succ] at q0 q1
    go_wp2_with fail
    go_meet
    case rel => exact ⟨_, _, _, rfl, hnb, CR hy hnb hO1' hO2' hBf⟩
   ·intro K hK
    simp only [List.getD_cons_zero, List.getD_cons_succ]
    go_wp2_with fail
    have hB2 : Below w0.heap.size w0 (w1.alloc (dZ (.slice none 0 0) (.slice none 0 0))) := hB1.trans ((bl1 w1 _).mono hB1.size)
    refine aD (hK.out _ _ ⟨⟨_, hB2⟩, rfl⟩ ?_)
    clear hK K
    obtain ⟨w2, hw2⟩ : ∃ w2, w2 = w1.alloc (dZ (.slice none 0 0) (.slice none 0 0)) := ⟨_, rfl⟩
    rw [← hw2] at hB2 ⊢
    have h12 : Below w1.heap.size w1 w2 := by rw [hw2]; exact bl1 w1 _
    have hy1 : w2.heap[w1.heap.size]? = some (dZ (.slice none 0 0) (.slice none 0 0)) := by rw [hw2]; exact aC _ rfl
    clear hw2
    refine aW 5 _ _ (by kernel_rfl) (by kernel_rfl) rfl rfl ?_
    intro K hK
    simp only [List.getD_cons_zero, List.getD_cons_succ]
    go_wp2_with fail
    refine (rM lx ln lc ls w2 (hl0.later hB2) (by omega)).mono ?_
    rintro e w3 ⟨v2, rfl, hO2, hb3⟩
    obtain ⟨x2, c2, hv2, -⟩ := hO2.mem
    subst hv2
    have hB3 : Below w0.heap.size w0 w3 := hB2.trans (hb3.mono hB2.size)
    go_wp2_with fail
    refine aD (hK.out _ _ ⟨⟨_, hB3⟩, rfl⟩ ?_)
    clear hK K
    refine aZ 1 [6] rfl _ rfl (by kernel_rfl) (fun d _ _ _ _ h => by cases d <;> exact h) ⟨⟨_, hB3⟩, rfl⟩ ?_
    simp only [List.map_cons, List.map_nil, List.getD_cons_zero, List.getD_cons_succ]
    repeat (go_big_quiet_step (fail))
    refine wpQuiet_nil ?_
    have hy := aB hb3 hy1
    have hnb : w0.heap.size ≤ w1.heap.size := hB1.size
    have hO1' := ((hO1.low (base' := w0.heap.size) (Nat.le_refl _)).later h12).later hb3
    have hO2' := hO2.low (base' := w0.heap.size) hB2.size
    have hBf := hB3
    refine aY [8] rfl (by kernel_rfl) ?_
    simp only [List.map_cons, List.map_nil, List.getD_cons_zero, List.getD_cons_succ]
    have q0 := (aA hy).1 0
    have q1 := (aA hy).1 1
    obtain ⟨f0, f1⟩ := cH hy
    simp only [List.getElem?_toArray, List.getElem?_cons_zero, List.getElem?_cons_succ] at q0 q1
    go_wp2_with fail
    go_meet
    case rel => exact ⟨_, _, _, rfl, hnb, CR hy hnb hO1' hO2' hBf⟩
  ·intro K hK
   simp only [List.getD_cons_zero, List.getD_cons_succ]
   go_wp2_with fail
   have hB1 : Below w0.heap.size w0 (w0.alloc (dZ (.slice none 0 0) (.slice none 0 0))).drew := (bl1 w0 _).drew
   refine aD (hK.out _ _ ⟨⟨_, hB1⟩, rfl⟩ ?_)
   clear hK K
   have hy0 : ((w0.alloc (dZ (.slice none 0 0) (.slice none 0 0))).drew).heap[w0.heap.size]? = some (dZ (.slice none 0 0) (.slice none 0 0)) := aC (W := w0) _ rfl
   refine aW 2 _ _ (by kernel_rfl) (by kernel_rfl) rfl rfl ?_
   intro K hK
   simp only [List.getD_cons_zero, List.getD_cons_succ]
   go_wp2_with fail
   refine (yU x n c vs (w0.alloc (dZ (.slice none 0 0) (.slice none 0 0))).drew (hp0.later hB1) (by omega)).mono ?_
   rintro e w2 ⟨v1, rfl, hO1, hb2⟩
   obtain ⟨x1, c1, hv1, -⟩ := hO1.mem
   subst hv1
   have hB2 : Below w0.heap.size w0 w2 := hB1.trans (hb2.mono hB1.size)
   go_wp2_with fail
   refine aD (hK.out _ _ ⟨⟨_, hB2⟩, rfl⟩ ?_)
   clear hK K
   refine aW 5 _ _ (by kernel_rfl) (by kernel_rfl) rfl rfl ?_
   intro K hK
   simp only [List.getD_cons_zero, List.getD_cons_succ]
   go_wp2_with fail
   refine (rM lx ln lc ls w2 (hl0.later hB2) (by omega)).mono ?_
   rintro e w3 ⟨v2, rfl, hO2, hb3⟩
   obtain ⟨x2, c2, hv2, -⟩ := hO2.mem
   subst hv2
   have hB3 : Below w0.heap.size w0 w3 := hB2.trans (hb3.mono hB2.size)
   go_wp2_with fail
   refine aD (hK.out _ _ ⟨⟨_, hB3⟩, rfl⟩ ?_)
   clear hK K
   refine aZ 1 [6] rfl _ rfl (by kernel_rfl) (fun d _ _ _ _ h => by cases d <;> exact h) ⟨⟨_, hB3⟩, rfl⟩ ?_
   simp only [List.map_cons, List.map_nil, List.getD_cons_zero, List.getD_cons_succ]
   repeat (go_big_quiet_step (fail))
   refine wpQuiet_nil ?_
   have hy := aB hb3 (aB hb2 hy0)
   have hnb : w0.heap.size ≤ w0.heap.size := Nat.le_refl _
   have hO1' := (hO1.low (base' := w0.heap.size) hB1.size).later hb3
   have hO2' := hO2.low (base' := w0.heap.size) hB2.size
   have hBf := hB3
   refine aY [8] rfl (by kernel_rfl) ?_
   simp only [List.map_cons, List.map_nil, List.getD_cons_zero, List.getD_cons_succ]
   have q0 := (aA hy).1 0
   have q1 := (aA hy).1 1
   obtain ⟨f0, f1⟩ := cH hy
   simp only [List.getElem?_toArray, List.getElem?_cons_zero, List.getElem?_cons_succ] at q0 q1
   go_wp2_with fail
   go_meet
   case rel => exact ⟨_, _, _, rfl, hnb, CR hy hnb hO1' hO2' hBf⟩
 case rest =>
  clear a0 a1
  obtain ⟨nb, vV, vK, rfl, hnb, hOV, hOK, hbx, hBc⟩ := hcut
  obtain ⟨xv, cv, hvv, -⟩ := hOV.mem
  obtain ⟨xl, cl, hvk, -⟩ := hOK.mem
  rw [hvl.out] at hvv
  rw [hll.out] at hvk
  subst hvv
  subst hvk
  have e1 := aU hbx 0 rfl
  go_wp2
  clear e1
  go_loopw [15] (fun i wr => R5 vs ls n ln nb xv cv xl cl w0 i wr) (fun i _ => n - (intOf i).toNat)
  case atStart => exact ⟨0, vs, by omega, rfl, cI.refl _, fun _ _ => rfl, hOV, fun i hi => by omega, hOK, hbx, hBc⟩
  case round =>
   clear hOV hOK hbx hBc
   obtain ⟨q, us, hq, rfl, hs, htl, hO, hV, hK', hbr, hBr⟩ := hrel
   have hul : Hid (us.length = n) := by show _ = _; rw [← hs.1]; exact hvl.out
   by_cases hlt : q < n
   ·have hlt' : Hid (q < n) := hlt
    have hqu : q < us.length := by rw [hul.out]; exact hlt
    obtain ⟨g, cap, hgv⟩ := hO.held (by omega)
    simp only [Value.slice.injEq] at hgv
    obtain ⟨rfl, -, rfl⟩ := hgv
    obtain ⟨d0, d1, d2⟩ := hO.cells q hqu
    obtain ⟨hbg, cur, hcur⟩ := hO.block
    have hgl : g < wr.heap.size := (Array.getElem?_eq_some_iff.1 hcur).1
    obtain ⟨f1, f2, f3, f4⟩ := hfew q hlt
    have hvp := (hp0.later hBr).vps q hlt
    have hfv := dE (vnAt vs q).id (vnAt vs q).rx (vnAt vs q).rn (vnAt vs q).rc (vnAt vs q).rs (vnAt vs q).sx (vnAt vs q).sn (vnAt vs q).sc (vnAt vs q).ss wr.drew (hvp.2.2.2.later (Below.refl _ _).drew) f1 f2 f3 f4
    rw [htl q (Nat.le_refl _)] at d0 d1 d2
    have hrsl : Hid ((vnAt vs q).rs.length = (vnAt vs q).rn ∧ (vnAt vs q).ss.length = (vnAt vs q).sn) := ⟨hvp.2.2.2.ranges.len, hvp.2.2.2.subs.len⟩
    have htl' : Hid (∀ i, q ≤ i → vnAt us i = vnAt vs i) := htl
    clear htl hvp f1 f2 f3 f4
    have a0 := Ws.here (aU hbr 0 rfl)
    have a1 := Ws.here d0
    have a2 := Ws.here d1
    have a3 := Ws.here d2
    go_upto_region 5 with fail
    clear d0 d1 d2
    have hbd : Below wr.heap.size wr wr.drew := (Below.refl _ _).drew
    refine bQ (fun w' => ∃ u : Ws wr.heap.size wr, w' = u.val) (fun j => decide (j < 9)) 11 _ (by kernel_rfl) rfl rfl ?_
    refine aZ 3 [0, 1, 2, 3, 4, 5, 6, 7] rfl _ rfl (by kernel_rfl) (fun d _ _ _ _ h => by cases d <;> exact h) ⟨⟨_, hbd⟩, rfl⟩ ?_
    simp only [List.map_cons, List.map_nil, List.getD_cons_zero, List.getD_cons_succ]
    repeat (go_big_quiet_step (fail))
    refine wpQuiet_nil ?_
    clear a0 a1 a2 a3
    refine aW 8 _ _ (by kernel_rfl) (by kernel_rfl) rfl rfl ?_
    intro K hK
    simp only [List.getD_cons_zero, List.getD_cons_succ]
    go_wp2_with fail
    refine hfv.mono ?_
    rintro e w1 ⟨vR, vS, ts, rfl, hOR, hss, hOS, hb1⟩
    have hB1 : Below wr.heap.size wr w1 := ⟨hb1.os, hb1.tape, hb1.output, hb1.size, hb1.block⟩
    obtain ⟨x1, c1, hv1, -⟩ := hOR.rs
    obtain ⟨x2, c2, hv2, -⟩ := hOS.subs
    subst hv1
    subst hv2
    obtain ⟨u, hu⟩ : ∃ u : Vn, u = ⟨(vnAt vs q).id, x1, (vnAt vs q).rs.length, c1, (vnAt vs q).rs, x2, ts.length, c2, ts⟩ := ⟨_, rfl⟩
    have hVu : mD w1 w0.heap.size u := by
     rw [hu]
     exact mD.low (v := ⟨(vnAt vs q).id, x1, (vnAt vs q).rs.length, c1, (vnAt vs q).rs, x2, ts.length, c2, ts⟩) ⟨hOR, hOS⟩ hBr.size
    have hsu : nB (vnAt vs q) u := by
     rw [hu]
     exact ⟨rfl, hrsl.out.1.symm, rfl, by rw [← hrsl.out.2]; exact hss.1, hss⟩
    go_wp2_with fail
    refine aD (hK.out _ _ ⟨⟨_, hB1⟩, rfl⟩ ?_)
    clear hK K hfv
    have hO1 := hO.later hB1
    obtain ⟨y0, y1, y2⟩ := hO1.cells q hqu
    have z0 := hO1.frozen (q * 3)
    have z1 := hO1.frozen (q * 3 + 1)
    have z2 := hO1.frozen (q * 3 + 2)
    have hnbg : nb ≠ g := fun e => by rw [e] at hbr; rw [hbr] at hcur; simp at hcur
    have hOs := hO1.setE q hqu u
    have hBs : Below w0.heap.size w0 (jM w1 g q u) := mR (hBr.trans (hB1.mono hBr.size)) hbg
    have hbs : (jM w1 g q u).heap[nb]? = some (dZ (.slice (some ⟨g, 0, none⟩) n cv) (.slice xl ln cl)) := (gB hnbg).trans (aB hB1 hbr)
    have hKs : bU (jM w1 g q u) w0.heap.size (.slice xl ln cl) ls := (hK'.later hB1).setN hO1
    have hVs : ∀ i, i < q + 1 → mD (jM w1 g q u) w0.heap.size (vnAt (us.set q u) i) := fun i hi => by
     rw [cE hqu]
     split
     ·exact hVu.setN hO1
     ·exact ((hV i (by omega)).later hB1).setN hO1
    have hss' := hs.set hqu hsu
    have hts : ∀ i, q + 1 ≤ i → vnAt (us.set q u) i = vnAt vs i := fun i hi => by rw [cE hqu, if_neg (by omega)]; exact htl'.out i (by omega)
    have hfin : Hid (R5 vs ls n ln nb (some ⟨g, 0, none⟩) cv xl cl w0 (.int .i64 ((q : Int) + 1)) (jM w1 g q u)) := ⟨q + 1, us.set q u, hlt'.out, by simp, hss', hts, hOs, hVs, hKs, hbs, hBs⟩
    unfold jM at hfin
    rw [hu] at hfin
    clear hO1 hOs hBs hbs hKs hVs hss' hts hVu hsu
    refine aY [9, 10] rfl (by kernel_rfl) ?_
    simp only [List.map_cons, List.map_nil, List.getD_cons_zero, List.getD_cons_succ]
    go_wp2
    go_roundw
    case rel => exact hfin.out
    case measure => simp [intOf]; have := hlt'.out; omega
   ·obtain rfl : n = q := by omega
    have hrr : wr.heap[w.heap.size + 1]? = some (dZ (.slice none 0 0) (.slice none 0 0)) := (hBr.block _ hsz).trans hr0
    obtain ⟨e0, e1⟩ := aO hbr rfl rfl
    obtain ⟨r0, r1⟩ := aO hrr rfl rfl
    obtain ⟨z0, z1⟩ := cH hrr
    go_wp2
    refine bodyPost_ret (v := .agg #[.slice xv n cv, .slice xl ln cl]) (by simp [results, Tryz.results42, go_sem, r0, r1]) rfl ?_
    exact ⟨_, _, us, rfl, hs, ((hO.put hsz).put hsz).low hB0.size, fun i hi => (((hV i (by rw [← hul.out]; exact hi)).put hsz).put hsz).low hB0.size, ((hK'.put hsz).put hsz).low hB0.size, ((hB0.trans (hBr.mono hB0.size)).setCell (by simp) _).setCell (by simp) _⟩
end Go.Proofs.YtndpilfpejfloaaGreat
