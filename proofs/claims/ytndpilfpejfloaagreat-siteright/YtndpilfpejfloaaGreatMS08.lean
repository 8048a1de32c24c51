/- A part of the proof. -/
import Derived.Test.YtndpilfpejfloaaGreatMS07
set_option maxRecDepth 100000
set_option maxHeartbeats 3200000
namespace Go.Proofs.YtndpilfpejfloaaGreat
variable {E E' vid c m : Int} {w w' W W' w6 w7 : World} {V u v vR vS : Value} {ss ts : List Sb} {i base b o g base' rn rc sn sc gf cf n bm : Nat} {cs cur curf : Array Value} {t : TypeId} {rs : List Rg} {rx sx : Option Addr} {x : Obj} {fs gs : List Fc} {s : Sb} {e : Ending} {T : Nat → Bool} {listed : Array Bool} {P : Program} {ops : Array Oper} {Q : Exit → Act → World → Prop} {S C : World → Prop} {oi : Oper} {l : List Oper} {a : Act}
open Go.RowKit Go.Shelf
def fZ (E : Int) (R : World → Value → Prop) (w : World) (e : Ending) (w' : World) : Prop :=
 ∃ V, e = .returned (.tuple #[V, .int .i64 E]) ∧ Below w.heap.size w w' ∧ (E ≠ 0 → V = .agg #[.int .i64 0, .slice none 0 0, .slice none 0 0]) ∧ (E = 0 → R w' V)
theorem fZ.err {R : World → Value → Prop} (hE : E = E' ∧ E' ≠ 0) (hb : Below w.heap.size w w') :
  fZ E R w (.returned (.tuple #[.agg #[.int .i64 0, .slice none 0 0, .slice none 0 0], .int .i64 E'])) w' :=
 ⟨_, by rw [hE.1], hb, fun _ => rfl, fun h => absurd (hE.1.symm.trans h) hE.2⟩
theorem fZ.ok {R : World → Value → Prop} (hE : E = 0) (hb : Below w.heap.size w w') (h : R w' V) :
  fZ E R w (.returned (.tuple #[V, .int .i64 0])) w' :=
 ⟨_, by rw [hE], hb, fun h' => absurd hE h', fun _ => h⟩
def WB (w : World) (s : Sb) : Prop := s.n ≤ s.c ∧ s.n ≤ 9223372036854775807 ∧ uX w s.x s.n s.fs
theorem OA (h : i < ss.length) : sbAt ss i ∈ ss := by
 unfold sbAt
 rw [List.getD_eq_getElem?_getD, List.getElem?_eq_getElem h]
 exact List.getElem_mem h
theorem bY.put (h : bY w base v ss) (hb : b < base) : bY (w.setCell ⟨b, o, none⟩ u) base v ss :=
 h.kept (aJ _ _ _ _) (fun k hk => by have := h.lt k hk; omega)
theorem bY.putBox (h : bY w base v ss) (hb : w.heap[b]? = some (.cells cs t)) (h1 : t ≠ 78) : bY (w.setCell ⟨b, o, none⟩ u) base v ss :=
 h.kept (aJ _ _ _ _) (fun k hk e => by subst e; exact h.ne hb h1 hk)
def wK (w : World) (base : Nat) (ss : List Sb) : Prop := ∀ s ∈ ss, mQ w base (.slice s.x s.n s.c) s.fs s.fs.length
theorem jE.ofa (h : jE w base v ss ss.length) : wK w base ss := fun s hs => by
 obtain ⟨i, hi, rfl⟩ := List.getElem_of_mem hs
 have e : sbAt ss i = ss[i] := by unfold sbAt; rw [List.getD_eq_getElem?_getD, List.getElem?_eq_getElem hi]; rfl
 have := h.own i hi
 rw [e] at this
 exact this
theorem wK.keptOf (h : wK w base ss) (hg : w.grownBy w' (some g)) (hb : w.heap[g]? = some (.cells cur t)) (h1 : t ≠ 80) (h2 : t ≠ 3) : wK w' base ss := fun s hs => (h s hs).kept_of hg hb h1 h2
theorem wK.put (h : wK w base ss) (hb : b < base) : wK (w.setCell ⟨b, o, none⟩ u) base ss := fun s hs =>
 (h s hs).kept (aJ _ _ _ _) (fun k hk => by have := (h s hs).row.lt k hk; omega) (fun j hj k hk => by have := ((h s hs).own j hj).lt k hk; omega)
theorem wK.fcb (h : wK w base ss) : ∀ s ∈ ss, WB w s := fun s hs => by
 obtain ⟨g1, g2, g3, g4⟩ := (h s hs).fcs
 exact ⟨g3, Nat.le_trans g3 g4, g1⟩
theorem wK.part (h : wK w base ss) (hs : ∀ s ∈ ts, s ∈ ss) : wK w base ts := fun s hm => h s (hs s hm)
def E4 (w : World) (base : Nat) (vid : Int) (v : Value) (rs : List Rg) (ss : List Sb) : Prop := ∃ vR vS, v = .agg #[.int .i64 vid, vR, vS] ∧ bN w base vR rs ∧ bY w base vS ss ∧ wK w base ss
theorem E4.mk {b1 b2 b3 : Nat} (hR : bN w b1 vR rs) (h1 : base ≤ b1) (hS : bY w b2 vS ss) (h2 : base ≤ b2) (hF : wK w b3 ss) (h3 : base ≤ b3) : E4 w base vid (.agg #[.int .i64 vid, vR, vS]) rs ss :=
 ⟨vR, vS, rfl, hR.low h1, hS.low h2, fun s hs => (hF s hs).low h3⟩
theorem wK.low (h : wK w base ss) (hb : base' ≤ base) : wK w base' ss := fun s hs => (h s hs).low hb
def OB (e : Sb) (qs rs : List Sb) : Prop := ∃ i, i ≤ qs.length ∧ (∀ j, j < i → ¬ e.id < (sbAt qs j).id) ∧ (i < qs.length → e.id < (sbAt qs i).id) ∧ rs = qs.take i ++ [e] ++ qs.drop i
def rK (vid : Int) (rn : Nat) (rs : List Rg) (sn : Nat) (ss : List Sb) (id c m : Int) : Int :=
 if aV vid rn rs sn ss ≠ 0 then aV vid rn rs sn ss else if kP rn rs id c m = false then 3 else if 0 ≤ fstAt sn (fun i => (sbAt ss i).id == id) ∨ aK sn (wT ss c m) = true then 6 else if sn = 6 then 2 else 0
def V0 (vid : Int) (rs : List Rg) (ss : List Sb) (id c m : Int) (base : Nat) (w : World) (V : Value) : Prop := ∃ ts ss', E4 w base vid V rs ss' ∧ bG ss ts ∧ OB ⟨id, c, m, none, 0, 0, []⟩ ts ss'
structure TU (w W : World) (vid : Int) (rx : Option Addr) (rn rc : Nat) (sx : Option Addr) (sn sc : Nat) (c m : Int) : Prop where
 hb : W.heap[w.heap.size]? = some (.cells #[.int .i64 vid, .slice rx rn rc, .slice sx sn sc] 41)
 hp : W.heap[w.heap.size + 1]? = some (.cells #[.int .i64 c, .int .i64 m] 49)
 hs : W.heap[w.heap.size + 2]? = some (.cells #[.int .i64 0, .slice none 0 0, .slice none 0 0] 41)
 below : Below w.heap.size w W
theorem TU.later (h : TU w W vid rx rn rc sx sn sc c m) (hb : Below W.heap.size W W') : TU w W' vid rx rn rc sx sn sc c m :=
 ⟨aB hb h.hb, aB hb h.hp, aB hb h.hs, h.below.trans (hb.mono h.below.size)⟩
theorem OC (vid : Int) (rx : Option Addr) (rn rc : Nat) (rs : List Rg) (sx : Option Addr) (sn sc : Nat) (ss : List Sb) (id c m : Int) (w : World) (hv : Vp w rx rn rc rs sx sn sc ss) (hrn : rn ≤ 9223372036854775807) (hsn : sn ≤ 9223372036854775807) (hrc : rc ≤ 9223372036854775807) :
  Calls Tryz.prog 100 #[.agg #[.int .i64 vid, .slice rx rn rc, .slice sx sn sc], .int .i64 id, .agg #[.int .i64 c, .int .i64 m]] w (fZ (rK vid rn rs sn ss id c m) (V0 vid rs ss id c m w.heap.size) w) := by
 have hrl : Hid (rs.length = rn) := hv.ranges.len
 have hsl : Hid (ss.length = sn) := hv.subs.len
 go_enter Tryz.func100, Tryz.ntmps100
 go_upto_region 1 with fail
 obtain ⟨w0, hw0⟩ : ∃ w0, w0 = ((w.alloc (cZ vid (.slice rx rn rc) (.slice sx sn sc))).alloc (.cells #[.int .i64 c, .int .i64 m] 49)).alloc (cZ 0 (.slice none 0 0) (.slice none 0 0)) := ⟨_, rfl⟩
 rw [← hw0]
 have hT0 : TU w w0 vid rx rn rc sx sn sc c m := by
  rw [hw0]
  exact ⟨aF _ (aF _ (aC _ rfl)), aF _ (aC _ (by simp)), aC _ (by simp), (cB w _ _).alloc (by simp; omega) _⟩
 clear hw0
 obtain ⟨b0, b1, b2⟩ := bI hT0.hb rfl rfl rfl
 obtain ⟨p0, p1⟩ := aO hT0.hp rfl rfl
 obtain ⟨s0, s1, s2⟩ := bI hT0.hs rfl rfl rfl
 obtain ⟨zs0, zs1, zs2⟩ := eO hT0.hs
 have hck := checkV_any vid rx rn rc rs sx sn sc ss w0 (hv.later hT0.below) hrn hsn hrc
 by_cases hc0 : aV vid rn rs sn ss = 0
 ·rw [hc0] at hck
  obtain ⟨f1, f2, f3, f4⟩ := cA hc0
  have hE1 : Hid (rK vid rn rs sn ss id c m = if kP rn rs id c m = false then 3 else if 0 ≤ fstAt sn (fun i => (sbAt ss i).id == id) ∨ aK sn (wT ss c m) = true then 6 else if sn = 6 then 2 else 0) := if_neg (c := aV vid rn rs sn ss ≠ 0) (by simp [hc0])
  clear hc0
  go_wp2_with fail
  refine (hck).mono ?_
  rintro e w1 ⟨rfl, hbw1⟩
  have hT1 := hT0.later hbw1
  clear b0 b1 b2 p0 p1 s0 zs0 s1 zs1 s2 zs2
  obtain ⟨b0, b1, b2⟩ := bI hT1.hb rfl rfl rfl
  obtain ⟨p0, p1⟩ := aO hT1.hp rfl rfl
  obtain ⟨s0, s1, s2⟩ := bI hT1.hs rfl rfl rfl
  obtain ⟨zs0, zs1, zs2⟩ := eO hT1.hs
  have hsr := fun t h => kX vid id c m rx sx rn rc sn sc rs t h w1 (hv.later hT1.below).ranges (by omega)
  cases hrg : kP rn rs id c m with
  | false =>
   have hne : rK vid rn rs sn ss id c m = 3 ∧ (3 : Int) ≠ 0 := ⟨hE1.out.trans (if_pos hrg), by decide⟩
   go_wp2_with fail
   refine (hsr _ hrg).mono ?_
   rintro e w2 ⟨rfl, hbw2⟩
   have hT2 := hT1.later hbw2
   clear b0 b1 b2 p0 p1 s0 zs0 s1 zs1 s2 zs2
   obtain ⟨b0, b1, b2⟩ := bI hT2.hb rfl rfl rfl
   obtain ⟨p0, p1⟩ := aO hT2.hp rfl rfl
   obtain ⟨s0, s1, s2⟩ := bI hT2.hs rfl rfl rfl
   obtain ⟨zs0, zs1, zs2⟩ := eO hT2.hs
   go_wp2
   refine bodyPost_ret (v := .tuple #[.agg #[.int .i64 0, .slice none 0 0, .slice none 0 0], .int .i64 3]) (by simp [results, Tryz.results100, go_sem, s0, s1, s2]) rfl ?_
   exact fZ.err hne (((hT2.below.setCell (p := ⟨w.heap.size + 2, 0, none⟩) (Nat.le_add_right _ _) _).setCell (p := ⟨w.heap.size + 2, 1, none⟩) (Nat.le_add_right _ _) _).setCell (p := ⟨w.heap.size + 2, 2, none⟩) (Nat.le_add_right _ _) _)
  | true =>
   have hE2 : Hid (rK vid rn rs sn ss id c m = if 0 ≤ fstAt sn (fun i => (sbAt ss i).id == id) ∨ aK sn (wT ss c m) = true then 6 else if sn = 6 then 2 else 0) := hE1.out.trans (if_neg (by simp [hrg]))
   go_wp2_with fail
   refine (hsr _ hrg).mono ?_
   rintro e w2 ⟨rfl, hbw2⟩
   have hT2 := hT1.later hbw2
   clear b0 b1 b2 p0 p1 s0 zs0 s1 zs1 s2 zs2
   obtain ⟨b0, b1, b2⟩ := bI hT2.hb rfl rfl rfl
   obtain ⟨p0, p1⟩ := aO hT2.hp rfl rfl
   obtain ⟨s0, s1, s2⟩ := bI hT2.hs rfl rfl rfl
   obtain ⟨zs0, zs1, zs2⟩ := eO hT2.hs
   have hsp := sX vid id rx rn rc sx sn sc ss w2 (hv.later hT2.below).subs (by omega)
   generalize hfp : fstAt sn (fun i => (sbAt ss i).id == id) = fp at hsp hE2
   by_cases hge : 0 ≤ fp
   ·have hne : rK vid rn rs sn ss id c m = 6 ∧ (6 : Int) ≠ 0 := ⟨hE2.out.trans (if_pos (.inl hge)), by decide⟩
    go_wp2_with fail
    refine (hsp).mono ?_
    rintro e w3 ⟨rfl, hbw3⟩
    have hT3 := hT2.later hbw3
    clear b0 b1 b2 p0 p1 s0 zs0 s1 zs1 s2 zs2
    obtain ⟨b0, b1, b2⟩ := bI hT3.hb rfl rfl rfl
    obtain ⟨p0, p1⟩ := aO hT3.hp rfl rfl
    obtain ⟨s0, s1, s2⟩ := bI hT3.hs rfl rfl rfl
    obtain ⟨zs0, zs1, zs2⟩ := eO hT3.hs
    go_wp2
    refine bodyPost_ret (v := .tuple #[.agg #[.int .i64 0, .slice none 0 0, .slice none 0 0], .int .i64 6]) (by simp [results, Tryz.results100, go_sem, s0, s1, s2]) rfl ?_
    exact fZ.err hne (((hT3.below.setCell (p := ⟨w.heap.size + 2, 0, none⟩) (Nat.le_add_right _ _) _).setCell (p := ⟨w.heap.size + 2, 1, none⟩) (Nat.le_add_right _ _) _).setCell (p := ⟨w.heap.size + 2, 2, none⟩) (Nat.le_add_right _ _) _)
   ·go_wp2_with fail
    refine (hsp).mono ?_
    rintro e w3 ⟨rfl, hbw3⟩
    have hT3 := hT2.later hbw3
    clear b0 b1 b2 p0 p1 s0 zs0 s1 zs1 s2 zs2
    obtain ⟨b0, b1, b2⟩ := bI hT3.hb rfl rfl rfl
    obtain ⟨p0, p1⟩ := aO hT3.hp rfl rfl
    obtain ⟨s0, s1, s2⟩ := bI hT3.hs rfl rfl rfl
    obtain ⟨zs0, zs1, zs2⟩ := eO hT3.hs
    have hmt := sK c m sx sn sc ss w3 (hv.later hT3.below).subs (by omega)
    cases hany : aK sn (wT ss c m) with
    | true =>
     rw [hany] at hmt
     have hne : rK vid rn rs sn ss id c m = 6 ∧ (6 : Int) ≠ 0 := ⟨hE2.out.trans (if_pos (.inr hany)), by decide⟩
     go_wp2_with fail
     refine (hmt).mono ?_
     rintro e w4 ⟨rfl, hbw4⟩
     have hT4 := hT3.later hbw4
     clear b0 b1 b2 p0 p1 s0 zs0 s1 zs1 s2 zs2
     obtain ⟨b0, b1, b2⟩ := bI hT4.hb rfl rfl rfl
     obtain ⟨p0, p1⟩ := aO hT4.hp rfl rfl
     obtain ⟨s0, s1, s2⟩ := bI hT4.hs rfl rfl rfl
     obtain ⟨zs0, zs1, zs2⟩ := eO hT4.hs
     go_wp2
     refine bodyPost_ret (v := .tuple #[.agg #[.int .i64 0, .slice none 0 0, .slice none 0 0], .int .i64 6]) (by simp [results, Tryz.results100, go_sem, s0, s1, s2]) rfl ?_
     exact fZ.err hne (((hT4.below.setCell (p := ⟨w.heap.size + 2, 0, none⟩) (Nat.le_add_right _ _) _).setCell (p := ⟨w.heap.size + 2, 1, none⟩) (Nat.le_add_right _ _) _).setCell (p := ⟨w.heap.size + 2, 2, none⟩) (Nat.le_add_right _ _) _)
    | false =>
     rw [hany] at hmt
     have hE3 : Hid (rK vid rn rs sn ss id c m = if sn = 6 then 2 else 0) := hE2.out.trans (if_neg (by rw [hany]; simp; omega))
     by_cases h6 : sn = 6
     ·subst h6
      have hne : rK vid rn rs 6 ss id c m = 2 ∧ (2 : Int) ≠ 0 := ⟨hE3.out.trans (if_pos rfl), by decide⟩
      go_wp2_with fail
      refine (hmt).mono ?_
      rintro e w4 ⟨rfl, hbw4⟩
      have hT4 := hT3.later hbw4
      clear b0 b1 b2 p0 p1 s0 zs0 s1 zs1 s2 zs2
      obtain ⟨b0, b1, b2⟩ := bI hT4.hb rfl rfl rfl
      obtain ⟨p0, p1⟩ := aO hT4.hp rfl rfl
      obtain ⟨s0, s1, s2⟩ := bI hT4.hs rfl rfl rfl
      obtain ⟨zs0, zs1, zs2⟩ := eO hT4.hs
      go_wp2
      refine bodyPost_ret (v := .tuple #[.agg #[.int .i64 0, .slice none 0 0, .slice none 0 0], .int .i64 2]) (by simp [results, Tryz.results100, go_sem, s0, s1, s2]) rfl ?_
      exact fZ.err hne (((hT4.below.setCell (p := ⟨w.heap.size + 2, 0, none⟩) (Nat.le_add_right _ _) _).setCell (p := ⟨w.heap.size + 2, 1, none⟩) (Nat.le_add_right _ _) _).setCell (p := ⟨w.heap.size + 2, 2, none⟩) (Nat.le_add_right _ _) _)
     ·have hE0 : Hid (rK vid rn rs sn ss id c m = 0) := hE3.out.trans (if_neg h6)
      have hv3 := fun W (hW : Below w.heap.size w W) => dE vid rx rn rc rs sx sn sc ss W (hv.later hW) (by omega) (by omega) (fun i hi => by have := f3 i hi; omega) (fun i hi j hj => by have := f4 i hi j hj; omega)
      go_wp2_with fail
      refine (hmt).mono ?_
      rintro e w4 ⟨rfl, hbw4⟩
      have hT4 := hT3.later hbw4
      clear b0 b1 b2 p0 p1 s0 zs0 s1 zs1 s2 zs2
      obtain ⟨b0, b1, b2⟩ := bI hT4.hb rfl rfl rfl
      obtain ⟨p0, p1⟩ := aO hT4.hp rfl rfl
      obtain ⟨s0, s1, s2⟩ := bI hT4.hs rfl rfl rfl
      obtain ⟨zs0, zs1, zs2⟩ := eO hT4.hs
      go_wp2_with fail
      refine (hv3 _ hT4.below).mono ?_
      rintro e w5 ⟨vR, vS, ts, rfl, hOR, hss, hOS, hb5⟩
      have hT5 := hT4.later hb5
      obtain ⟨xr, cr, rfl, -⟩ := hOR.rs
      obtain ⟨xt, ct, rfl, ht1, ht2, ht3⟩ := hOS.subs
      have htl : Hid (ts.length = sn) := by unfold Hid; rw [← hss.1]; exact hsl.out
      have hxt : (xt = none ∧ ct = 0) ∨ ∃ b o, xt = some ⟨b, o, none⟩ := by
       rcases hOS.row.2 with ⟨hv', -⟩ | ⟨g2, cap2, cur2, hv', -⟩
       ·simp only [Value.slice.injEq] at hv'; exact .inl ⟨hv'.1, hv'.2.2⟩
       ·simp only [Value.slice.injEq] at hv'; exact .inr ⟨_, _, hv'.1⟩
      clear b0 b1 b2 p0 p1 s0 zs0 s1 zs1 s2 zs2
      go_upto_region 12 with fail
      obtain ⟨w6, hw6⟩ : ∃ w6, w6 = w5.alloc (cZ vid (.slice xr rs.length cr) (.slice xt ts.length ct)) := ⟨_, rfl⟩
      rw [← hw6]
      have hb56 : Below w5.heap.size w5 w6 := by rw [hw6]; exact bl1 _ _
      have hn6 : w6.heap[w5.heap.size]? = some (cZ vid (.slice xr rs.length cr) (.slice xt ts.length ct)) := by rw [hw6]; exact aC _ rfl
      clear hw6
      have hT6 := hT5.later hb56
      have n2 := aU hn6 2 rfl
      have n2' : ∀ o, (w6.alloc o).cell? ⟨w5.heap.size, 2, none⟩ = some (.slice xt ts.length ct) := fun o => aE (bl1 w6 o) n2
      obtain ⟨p0, p1⟩ := aO hT6.hp rfl rfl
      have p0' : ∀ o, (w6.alloc o).cell? ⟨w.heap.size + 1, 0, none⟩ = some (.int .i64 c) := fun o => aE (bl1 w6 o) p0
      have p1' : ∀ o, (w6.alloc o).cell? ⟨w.heap.size + 1, 1, none⟩ = some (.int .i64 m) := fun o => aE (bl1 w6 o) p1
      have hput := fun W (hW : Below w6.heap.size w6 W) hby => NT ⟨id, c, m, none, 0, 0, []⟩ xt ts.length ct ts w6.heap.size 1 W ((ht1.later hb56).later hW) (by rw [htl.out]; omega) ht2 ht3 hxt hby
      go_wp2_with fail
      refine (hput _ (bl1 w6 _) (by simp)).mono ?_
      rintro e w7 ⟨v7, rfl, hb7, i, hi, hlow, hup, hO7⟩
      obtain ⟨qs, hqs⟩ : ∃ qs, Hid (qs = ts.take i ++ [(⟨id, c, m, none, 0, 0, []⟩ : Sb)] ++ ts.drop i) := ⟨_, rfl⟩
      rw [← hqs.out] at hO7
      obtain ⟨x7, c7, rfl, -⟩ := hO7.mem
      have hb67 : Below w6.heap.size w6 w7 := (bl1 w6 _).trans (hb7.mono (by simp))
      have hT7 := hT6.later hb67
      have hn7 := aB hb67 hn6
      have hOS7 := jE.later (jE.later hOS hb56) hb67
      have hOR7 := bN.later (bN.later hOR hb56) hb67
      clear n2 n2' p0 p1 p0' p1'
      have hsz4 : w.heap.size + 2 < w4.heap.size := (Array.getElem?_eq_some_iff.1 hT4.hs).1
      have hz5 : w.heap.size + 2 < w5.heap.size := Nat.lt_of_lt_of_le hsz4 hb5.size
      have hz6 : w.heap.size + 2 < w6.heap.size := Nat.lt_of_lt_of_le hz5 hb56.size
      have m0 := aU hn7 0 rfl
      have m1 := aU hn7 1 rfl
      have m2 := aU hn7 2 rfl
      have zm := (aA hn7).2 2
      obtain ⟨s0, s1, s2⟩ := bI hT7.hs rfl rfl rfl
      obtain ⟨zs0, zs1, zs2⟩ := eO hT7.hs
      have ne1 : ¬ w5.heap.size = w.heap.size + 2 := by omega
      have ne2 : ¬ w.heap.size + 2 = w5.heap.size := by omega
      go_wp2
      refine bodyPost_ret (v := .tuple #[.agg #[.int .i64 vid, .slice xr rs.length cr, .slice x7 qs.length c7], .int .i64 0]) (by simp [results, Tryz.results100, go_sem, s0, s1, s2]) rfl ?_
      have hfin := (((hT7.below.setCell (p := ⟨w5.heap.size, 2, none⟩) (by show w.heap.size ≤ w5.heap.size; omega) (.slice x7 qs.length c7)).setCell (p := ⟨w.heap.size + 2, 0, none⟩) (Nat.le_add_right _ _) (.int .i64 vid)).setCell (p := ⟨w.heap.size + 2, 1, none⟩) (Nat.le_add_right _ _) (.slice xr rs.length cr)).setCell (p := ⟨w.heap.size + 2, 2, none⟩) (Nat.le_add_right _ _) (.slice x7 qs.length c7)
      have hos := (((hOS7.putBox (o := 2) (u := .slice x7 qs.length c7) hn7 (by decide) (by decide) (by decide)).put (o := 0) (u := .int .i64 vid) hsz4).put (o := 1) (u := .slice xr rs.length cr) hsz4).put (o := 2) (u := .slice x7 qs.length c7) hsz4
      have hor := (((hOR7.putBox (o := 2) (u := .slice x7 qs.length c7) hn7 (by decide)).put (o := 0) (u := .int .i64 vid) hsz4).put (o := 1) (u := .slice xr rs.length cr) hsz4).put (o := 2) (u := .slice x7 qs.length c7) hsz4
      have hoq := ((((hO7.low (base' := w6.heap.size) (by simp)).putBox (o := 2) (u := .slice x7 qs.length c7) hn7 (by decide)).put (o := 0) (u := .int .i64 vid) hz6).put (o := 1) (u := .slice xr rs.length cr) hz6).put (o := 2) (u := .slice x7 qs.length c7) hz6
      refine fZ.ok hE0.out hfin ⟨ts, qs, E4.mk (b3 := w4.heap.size) hor (by omega) hoq (by omega) (fun s hs => ?_) (by omega), hss, ⟨i, hi, fun j hj => by have := hlow j hj; simpa using this, hup, hqs.out⟩⟩
      rw [hqs.out] at hs
      simp only [List.mem_append, List.mem_singleton] at hs
      rcases hs with (hs | rfl) | hs
      ·exact hos.ofa s (List.mem_of_mem_take hs)
      ·exact ⟨World.ownsRow_nil _ _ _ _, fun i hi => absurd hi (Nat.not_lt_zero _), fun i _ hi => absurd hi (Nat.not_lt_zero _)⟩
      ·exact hos.ofa s (List.mem_of_mem_drop hs)
 ·have hne : rK vid rn rs sn ss id c m = aV vid rn rs sn ss ∧ aV vid rn rs sn ss ≠ 0 := ⟨if_pos hc0, hc0⟩
  go_wp2_with fail
  refine (hck).mono ?_
  rintro e w1 ⟨rfl, hbw1⟩
  have hT1 := hT0.later hbw1
  clear b0 b1 b2 p0 p1 s0 zs0 s1 zs1 s2 zs2
  obtain ⟨b0, b1, b2⟩ := bI hT1.hb rfl rfl rfl
  obtain ⟨p0, p1⟩ := aO hT1.hp rfl rfl
  obtain ⟨s0, s1, s2⟩ := bI hT1.hs rfl rfl rfl
  obtain ⟨zs0, zs1, zs2⟩ := eO hT1.hs
  go_wp2
  refine bodyPost_ret (v := .tuple #[.agg #[.int .i64 0, .slice none 0 0, .slice none 0 0], .int .i64 (aV vid rn rs sn ss)]) (by simp [results, Tryz.results100, go_sem, s0, s1, s2]) rfl ?_
  exact fZ.err hne (((hT1.below.setCell (p := ⟨w.heap.size + 2, 0, none⟩) (Nat.le_add_right _ _) _).setCell (p := ⟨w.heap.size + 2, 1, none⟩) (Nat.le_add_right _ _) _).setCell (p := ⟨w.heap.size + 2, 2, none⟩) (Nat.le_add_right _ _) _)
theorem dB (hg : w.grownBy w' (some g)) (hne : b ≠ g) (hx : w.heap[b]? = some x) : w'.heap[b]? = some x := by
 obtain ⟨-, -, -, -, h⟩ := hg
 exact (h b (Array.getElem?_eq_some_iff.1 hx).1 (fun e => hne (by simpa using e))).trans hx
def lC (vid : Int) (rn : Nat) (rs : List Rg) (sn : Nat) (ss : List Sb) (id : Int) : Int :=
 if aV vid rn rs sn ss ≠ 0 then aV vid rn rs sn ss else if fstAt sn (fun i => (sbAt ss i).id == id) < 0 then 5 else if 0 < (sbAt ss (fstAt sn (fun i => (sbAt ss i).id == id)).toNat).n then 9 else 0
def S7 (vid : Int) (rs : List Rg) (ss : List Sb) (id : Int) (base : Nat) (w : World) (V : Value) : Prop := ∃ ts i, bG ss ts ∧ i < ts.length ∧ (sbAt ss i).id = id ∧ (∀ j, j < i → (sbAt ss j).id ≠ id) ∧ E4 w base vid V rs (ts.take i ++ ts.drop (i + 1))
structure TN (w W : World) (vid : Int) (rx : Option Addr) (rn rc : Nat) (sx : Option Addr) (sn sc : Nat) : Prop where
 hb : W.heap[w.heap.size]? = some (.cells #[.int .i64 vid, .slice rx rn rc, .slice sx sn sc] 41)
 hs : W.heap[w.heap.size + 1]? = some (.cells #[.int .i64 0, .slice none 0 0, .slice none 0 0] 41)
 below : Below w.heap.size w W
theorem TN.later (h : TN w W vid rx rn rc sx sn sc) (hb : Below W.heap.size W W') : TN w W' vid rx rn rc sx sn sc :=
 ⟨aB hb h.hb, aB hb h.hs, h.below.trans (hb.mono h.below.size)⟩
theorem HI (vid : Int) (rx : Option Addr) (rn rc : Nat) (rs : List Rg) (sx : Option Addr) (sn sc : Nat) (ss : List Sb) (id : Int) (w : World) (hv : Vp w rx rn rc rs sx sn sc ss) (hrn : rn ≤ 9223372036854775807) (hsn : sn ≤ 9223372036854775807) (hrc : rc ≤ 9223372036854775807) :
  Calls Tryz.prog 101 #[.agg #[.int .i64 vid, .slice rx rn rc, .slice sx sn sc], .int .i64 id] w (fZ (lC vid rn rs sn ss id) (S7 vid rs ss id w.heap.size) w) := by
 have hrl : Hid (rs.length = rn) := hv.ranges.len
 have hsl : Hid (ss.length = sn) := hv.subs.len
 go_enter Tryz.func101, Tryz.ntmps101
 go_upto_region 1 with fail
 obtain ⟨w0, hw0⟩ : ∃ w0, w0 = (w.alloc (cZ vid (.slice rx rn rc) (.slice sx sn sc))).alloc (cZ 0 (.slice none 0 0) (.slice none 0 0)) := ⟨_, rfl⟩
 rw [← hw0]
 have hT0 : TN w w0 vid rx rn rc sx sn sc := by
  rw [hw0]
  exact ⟨aF _ (aC _ rfl), aC _ (by simp), cB w _ _⟩
 clear hw0
 obtain ⟨b0, b1, b2⟩ := bI hT0.hb rfl rfl rfl
 obtain ⟨s0, s1, s2⟩ := bI hT0.hs rfl rfl rfl
 obtain ⟨zs0, zs1, zs2⟩ := eO hT0.hs
 have hck := checkV_any vid rx rn rc rs sx sn sc ss w0 (hv.later hT0.below) hrn hsn hrc
 by_cases hc0 : aV vid rn rs sn ss = 0
 ·rw [hc0] at hck
  obtain ⟨f1, f2, f3, f4⟩ := cA hc0
  have hE1 : Hid (lC vid rn rs sn ss id = if fstAt sn (fun i => (sbAt ss i).id == id) < 0 then 5 else if 0 < (sbAt ss (fstAt sn (fun i => (sbAt ss i).id == id)).toNat).n then 9 else 0) := if_neg (c := aV vid rn rs sn ss ≠ 0) (by simp [hc0])
  clear hc0
  go_wp2_with fail
  refine (hck).mono ?_
  rintro e w1 ⟨rfl, hbw1⟩
  have hT1 := hT0.later hbw1
  clear b0 b1 b2 s0 zs0 s1 zs1 s2 zs2
  obtain ⟨b0, b1, b2⟩ := bI hT1.hb rfl rfl rfl
  obtain ⟨s0, s1, s2⟩ := bI hT1.hs rfl rfl rfl
  obtain ⟨zs0, zs1, zs2⟩ := eO hT1.hs
  have hsp := fun t h => yM vid id rx rn rc sx sn sc ss t h w1 (hv.later hT1.below).subs hsn
  rcases fstAt_cases sn (fun i => (sbAt ss i).id == id) with ⟨i, hi, hf, hno, hfp⟩ | ⟨-, hfp⟩
  ·have hsp' := hsp _ hfp
   clear hsp
   have hE2 : Hid (lC vid rn rs sn ss id = if 0 < (sbAt ss i).n then 9 else 0) := by
    have := hE1.out
    rw [hfp] at this
    rw [if_neg (by omega)] at this
    unfold Hid
    simpa using this
   clear hfp hE1
   have hHf : Hid ((sbAt ss i).id = id ∧ ∀ j, j < i → (sbAt ss j).id ≠ id) := ⟨by simpa using hf, fun j hj => by simpa using hno j hj⟩
   clear hf hno
   have hi' : Hid (i < sn) := hi
   obtain ⟨b, o, rfl, -, -, -, c3⟩ := hv.subs.cells i hi
   go_wp2_with fail
   refine (hsp').mono ?_
   rintro e w2 ⟨rfl, hbw2⟩
   have hT2 := hT1.later hbw2
   clear b0 b1 b2 s0 zs0 s1 zs1 s2 zs2
   obtain ⟨b0, b1, b2⟩ := bI hT2.hb rfl rfl rfl
   obtain ⟨s0, s1, s2⟩ := bI hT2.hs rfl rfl rfl
   obtain ⟨zs0, zs1, zs2⟩ := eO hT2.hs
   have d3 := cell_later hT2.below c3
   clear c3
   have i0 : (0 : Int) ≤ i := by omega
   have i1 : (i : Int) < sn := by omega
   by_cases hgt : 0 < (sbAt ss i).n
   ·have hne : lC vid rn rs sn ss id = 9 ∧ (9 : Int) ≠ 0 := ⟨hE2.out.trans (if_pos hgt), by decide⟩
    go_wp2
    refine bodyPost_ret (v := .tuple #[.agg #[.int .i64 0, .slice none 0 0, .slice none 0 0], .int .i64 9]) (by simp [results, Tryz.results101, go_sem, s0, s1, s2]) rfl ?_
    exact fZ.err hne (((hT2.below.setCell (p := ⟨w.heap.size + 1, 0, none⟩) (Nat.le_add_right _ _) _).setCell (p := ⟨w.heap.size + 1, 1, none⟩) (Nat.le_add_right _ _) _).setCell (p := ⟨w.heap.size + 1, 2, none⟩) (Nat.le_add_right _ _) _)
   ·have hE0 : Hid (lC vid rn rs sn ss id = 0) := hE2.out.trans (if_neg hgt)
    have hv3 := fun W (hW : Below w.heap.size w W) => dE vid rx rn rc rs (some ⟨b, o, none⟩) sn sc ss W (hv.later hW) (by omega) (by omega) (fun i hi => by have := f3 i hi; omega) (fun i hi j hj => by have := f4 i hi j hj; omega)
    go_wp2_with fail
    refine (hv3 _ hT2.below).mono ?_
    rintro e w5 ⟨vR, vS, ts, rfl, hOR, hss, hOS, hb5⟩
    have hT5 := hT2.later hb5
    have htl : ts.length = sn := by rw [← hss.1]; exact hsl.out
    obtain ⟨xr, cr, rfl, -⟩ := hOR.rs
    obtain ⟨k, hk⟩ : ∃ k, ts.length = k + 1 := ⟨ts.length - 1, by have := hi'.out; omega⟩
    have hik : i ≤ k := by have := hi'.out; omega
    obtain ⟨g, cap, hg5, cur, hgh, hcap1, hcap2, hvS⟩ : ∃ g cap, w2.heap.size ≤ g ∧ ∃ cur, w5.heap[g]? = some (.cells cur 78) ∧ k + 1 ≤ cap ∧ cap ≤ 9223372036854775807 ∧ vS = .slice (some ⟨g, 0, none⟩) (k + 1) cap := by
     obtain ⟨x2, c2, hv2, h1, h2, -, -⟩ := hOS.row.mem
     rcases hOS.row.2 with ⟨hv', -⟩ | ⟨g, cap, cur, hv', hg1, hg2, -⟩
     ·rw [hv'] at hv2; simp only [Value.slice.injEq] at hv2; omega
     ·rw [hv'] at hv2
      simp only [Value.slice.injEq] at hv2
      obtain ⟨-, -, rfl⟩ := hv2
      exact ⟨g, cap, hg1, cur, hg2, by omega, h2, by rw [hv', hk]⟩
    subst hvS
    clear b0 b1 b2 s0 zs0 s1 zs1 s2 zs2
    clear d3
    have hgl : g < w5.heap.size := (Array.getElem?_eq_some_iff.1 hgh).1
    go_upto_region 11 with fail
    obtain ⟨w6, hw6⟩ : ∃ w6, w6 = w5.alloc (cZ vid (.slice xr rs.length cr) (.slice (some ⟨g, 0, none⟩) (k + 1) cap)) := ⟨_, rfl⟩
    rw [← hw6]
    have hb56 : Below w5.heap.size w5 w6 := by rw [hw6]; exact bl1 _ _
    have hn6 : w6.heap[w5.heap.size]? = some (cZ vid (.slice xr rs.length cr) (.slice (some ⟨g, 0, none⟩) (k + 1) cap)) := by rw [hw6]; exact aC _ rfl
    clear hw6
    have hT6 := hT5.later hb56
    have hg6 := aB hb56 hgh
    have hOR6 := bN.later hOR hb56
    have hOS6 := jE.later hOS hb56
    have n2 := aU hn6 2 rfl
    have hdel := EQ w2.heap.size g k cap i (i + 1) ts w6 hOS6.row hk hik rfl (by omega) hcap1 hcap2
    rw [show ((i + 1 : Nat) : Int) = (i : Int) + 1 by omega] at hdel
    go_wp2_with fail
    refine hdel.mono ?_
    rintro e w7 ⟨rfl, hO7, hg7⟩
    clear n2 hdel
    have hsz2 : w.heap.size + 1 < w2.heap.size := (Array.getElem?_eq_some_iff.1 hT2.hs).1
    have hn7 := dB hg7 (by omega) hn6
    have hs7 := dB hg7 (by omega) hT6.hs
    have hB7 := dQ hT6.below hg7 (fun q e => by cases e; omega)
    have hOR7 := hOR6.kept hg7 (fun q hq e => by subst e; exact hOR6.ne hg6 (by decide) hq)
    have hF7 := hOS6.ofa.keptOf hg7 hg6 (by decide) (by decide)
    have m0 := aU hn7 0 rfl
    have m1 := aU hn7 1 rfl
    have m2 := aU hn7 2 rfl
    have zm := (aA hn7).2 2
    obtain ⟨s0, s1, s2⟩ := bI hs7 rfl rfl rfl
    obtain ⟨zs0, zs1, zs2⟩ := eO hs7
    have ne1 : ¬ w5.heap.size = w.heap.size + 1 := by omega
    have ne2 : ¬ w.heap.size + 1 = w5.heap.size := by omega
    have hw5 : w.heap.size ≤ w5.heap.size := by omega
    go_wp2
    refine bodyPost_ret (v := .tuple #[.agg #[.int .i64 vid, .slice xr rs.length cr, .slice (some ⟨g, 0, none⟩) k cap], .int .i64 0]) (by simp [results, Tryz.results101, go_sem, s0, s1, s2]) rfl ?_
    have hfin := (((hB7.setCell (p := ⟨w5.heap.size, 2, none⟩) hw5 (.slice (some ⟨g, 0, none⟩) k cap)).setCell (p := ⟨w.heap.size + 1, 0, none⟩) (Nat.le_add_right _ _) (.int .i64 vid)).setCell (p := ⟨w.heap.size + 1, 1, none⟩) (Nat.le_add_right _ _) (.slice xr rs.length cr)).setCell (p := ⟨w.heap.size + 1, 2, none⟩) (Nat.le_add_right _ _) (.slice (some ⟨g, 0, none⟩) k cap)
    have hor := (((hOR7.putBox (o := 2) (u := .slice (some ⟨g, 0, none⟩) k cap) hn7 (by decide)).put (o := 0) (u := .int .i64 vid) hsz2).put (o := 1) (u := .slice xr rs.length cr) hsz2).put (o := 2) (u := .slice (some ⟨g, 0, none⟩) k cap) hsz2
    have hoq := (((hO7.putBox (o := 2) (u := .slice (some ⟨g, 0, none⟩) k cap) hn7 (by decide)).put (o := 0) (u := .int .i64 vid) hsz2).put (o := 1) (u := .slice xr rs.length cr) hsz2).put (o := 2) (u := .slice (some ⟨g, 0, none⟩) k cap) hsz2
    have hfa := (((hF7.keptOf (aJ _ _ 2 (.slice (some ⟨g, 0, none⟩) k cap)) hn7 (by decide) (by decide)).put (o := 0) (u := .int .i64 vid) hsz2).put (o := 1) (u := .slice xr rs.length cr) hsz2).put (o := 2) (u := .slice (some ⟨g, 0, none⟩) k cap) hsz2
    refine fZ.ok hE0.out hfin ⟨ts, i, hss, by omega, hHf.out.1, hHf.out.2, E4.mk (b3 := w2.heap.size) hor (by omega) hoq (by omega) (hfa.part (fun s hs => ?_)) (by omega)⟩
    rcases List.mem_append.1 hs with hs | hs
    ·exact List.mem_of_mem_take hs
    ·exact List.mem_of_mem_drop hs
  ·have hsp' := hsp _ hfp
   have hne : lC vid rn rs sn ss id = 5 ∧ (5 : Int) ≠ 0 := ⟨hE1.out.trans (if_pos (by rw [hfp]; decide)), by decide⟩
   clear hfp hE1 hsp
   go_wp2_with fail
   refine (hsp').mono ?_
   rintro e w2 ⟨rfl, hbw2⟩
   have hT2 := hT1.later hbw2
   clear b0 b1 b2 s0 zs0 s1 zs1 s2 zs2
   obtain ⟨b0, b1, b2⟩ := bI hT2.hb rfl rfl rfl
   obtain ⟨s0, s1, s2⟩ := bI hT2.hs rfl rfl rfl
   obtain ⟨zs0, zs1, zs2⟩ := eO hT2.hs
   go_wp2
   refine bodyPost_ret (v := .tuple #[.agg #[.int .i64 0, .slice none 0 0, .slice none 0 0], .int .i64 5]) (by simp [results, Tryz.results101, go_sem, s0, s1, s2]) rfl ?_
   exact fZ.err hne (((hT2.below.setCell (p := ⟨w.heap.size + 1, 0, none⟩) (Nat.le_add_right _ _) _).setCell (p := ⟨w.heap.size + 1, 1, none⟩) (Nat.le_add_right _ _) _).setCell (p := ⟨w.heap.size + 1, 2, none⟩) (Nat.le_add_right _ _) _)
 ·have hne : lC vid rn rs sn ss id = aV vid rn rs sn ss ∧ aV vid rn rs sn ss ≠ 0 := ⟨if_pos hc0, hc0⟩
  go_wp2_with fail
  refine (hck).mono ?_
  rintro e w1 ⟨rfl, hbw1⟩
  have hT1 := hT0.later hbw1
  clear b0 b1 b2 s0 zs0 s1 zs1 s2 zs2
  obtain ⟨b0, b1, b2⟩ := bI hT1.hb rfl rfl rfl
  obtain ⟨s0, s1, s2⟩ := bI hT1.hs rfl rfl rfl
  obtain ⟨zs0, zs1, zs2⟩ := eO hT1.hs
  have hsp := sY vid id rx rn rc sx sn sc ss w1 (hv.later hT1.below).subs hsn
  generalize fstAt sn (fun i => (sbAt ss i).id == id) = fp at hsp
  go_wp2_with fail
  refine (hsp).mono ?_
  rintro e w2 ⟨rfl, hbw2⟩
  have hT2 := hT1.later hbw2
  clear b0 b1 b2 s0 zs0 s1 zs1 s2 zs2
  obtain ⟨b0, b1, b2⟩ := bI hT2.hb rfl rfl rfl
  obtain ⟨s0, s1, s2⟩ := bI hT2.hs rfl rfl rfl
  obtain ⟨zs0, zs1, zs2⟩ := eO hT2.hs
  go_wp2
  refine bodyPost_ret (v := .tuple #[.agg #[.int .i64 0, .slice none 0 0, .slice none 0 0], .int .i64 (aV vid rn rs sn ss)]) (by simp [results, Tryz.results101, go_sem, s0, s1, s2]) rfl ?_
  exact fZ.err hne (((hT2.below.setCell (p := ⟨w.heap.size + 1, 0, none⟩) (Nat.le_add_right _ _) _).setCell (p := ⟨w.heap.size + 1, 1, none⟩) (Nat.le_add_right _ _) _).setCell (p := ⟨w.heap.size + 1, 2, none⟩) (Nat.le_add_right _ _) _)
theorem KO (c m : Int) (p : Rg) (b : Nat) (w : World) (h0 : w.cell? ⟨b, 0, none⟩ = some (.int .i64 c)) (h1 : w.cell? ⟨b, 1, none⟩ = some (.int .i64 m)) :
  Calls Tryz.prog 139 #[.agg #[.int .i64 p.a, .int .i64 p.l, .int .i64 p.p], .pointer (some ⟨b, 0, none⟩)] w fun e w' => e = .returned (.bool (decide (p.a = c) && decide (p.l = m))) ∧ Below w.heap.size w w' := by
 have k0 : ∀ q, (w.alloc q).cell? ⟨b, 0, none⟩ = some (.int .i64 c) := fun q => cell_later (bl1 w q) h0
 have k1 : ∀ q, (w.alloc q).cell? ⟨b, 1, none⟩ = some (.int .i64 m) := fun q => cell_later (bl1 w q) h1
 have he := fun W => AN p.a p.l c m W
 have hg := fun x y W => rR .eql x y #[.int .i64 p.a, .int .i64 p.l] #[.int .i64 c, .int .i64 m] W
 go_enter Tryz.func139, Tryz.ntmps139
 go_wp2
 go_ret
 exact ⟨rfl, bl1 w _⟩
theorem HJ (args : Array Value) (W : World) : (callFunc 139 args).run Tryz.prog W = .ok (.enter 139 args) W := by simp [go_sem]
theorem KP (c m : Int) (p : Sb) (b : Nat) (w : World) (h0 : w.cell? ⟨b, 0, none⟩ = some (.int .i64 c)) (h1 : w.cell? ⟨b, 1, none⟩ = some (.int .i64 m)) :
  Calls Tryz.prog 141 #[.agg #[.int .i64 p.id, .int .i64 p.a, .int .i64 p.l, .slice p.x p.n p.c], .pointer (some ⟨b, 0, none⟩)] w fun e w' => e = .returned (.bool (iZ p.a p.l c m)) ∧ Below w.heap.size w w' := by
 have k0 : ∀ q, (w.alloc q).cell? ⟨b, 0, none⟩ = some (.int .i64 c) := fun q => cell_later (bl1 w q) h0
 have k1 : ∀ q, (w.alloc q).cell? ⟨b, 1, none⟩ = some (.int .i64 m) := fun q => cell_later (bl1 w q) h1
 go_enter Tryz.func141, Tryz.ntmps141
 go_wp2_with (go_at_call 26; refine (inside_any _ _ _ _ _).mono ?_; rintro e w1 ⟨rfl, hb1⟩)
 go_ret
 exact ⟨rfl, (bl1 w _).trans (hb1.mono (by simp))⟩
theorem HK (args : Array Value) (W : World) : (callFunc 141 args).run Tryz.prog W = .ok (.enter 141 args) W := by simp [go_sem]
def rpB (rs : List Rg) (c m : Int) (i : Nat) : Bool := decide ((aL rs i).a = c) && decide ((aL rs i).l = m)
def S8 (ss : List Sb) (c m : Int) (i : Nat) : Bool := iZ (sbAt ss i).a (sbAt ss i).l c m
theorem A6 (c m : Int) (b : Nat) (x : Option Addr) (n k : Nat) (rs : List Rg) (t : Int) (h : fstAt n (rpB rs c m) = t) (w : World) (hp : RS w x n rs) (hn : n ≤ 9223372036854775807) (h0 : w.cell? ⟨b, 0, none⟩ = some (.int .i64 c)) (h1 : w.cell? ⟨b, 1, none⟩ = some (.int .i64 m)) :
  Calls Tryz.prog 138 #[.slice x n k, .func (.func 139) #[] #[.pointer (some ⟨b, 0, none⟩)]] w fun e w' => e = .returned (.int .i64 t) ∧ Below w.heap.size w w' := by
 refine (wJ 139 #[.pointer (some ⟨b, 0, none⟩)] x n k rs (rpB rs c m) w hp hn (fun i _ W hW => KO c m (aL rs i) b W (cell_later hW h0) (cell_later hW h1)) HJ).mono ?_
 rintro e w' ⟨⟨r, rfl, hr⟩, hb⟩
 exact ⟨by rw [sW hr, h], hb⟩
theorem HL (c m : Int) (b : Nat) (x : Option Addr) (n k : Nat) (ss : List Sb) (t : Bool) (h : aK n (S8 ss c m) = t) (w : World) (hp : SS w x n ss) (hn : n ≤ 1048576) (h0 : w.cell? ⟨b, 0, none⟩ = some (.int .i64 c)) (h1 : w.cell? ⟨b, 1, none⟩ = some (.int .i64 m)) :
  Calls Tryz.prog 140 #[.slice x n k, .func (.func 141) #[] #[.pointer (some ⟨b, 0, none⟩)]] w fun e w' => e = .returned (.bool t) ∧ Below w.heap.size w w' := by
 subst h
 exact fE 141 #[.pointer (some ⟨b, 0, none⟩)] x n k ss (S8 ss c m) w hp hn (fun i _ W hW => KP c m (sbAt ss i) b W (cell_later hW h0) (cell_later hW h1)) HK
theorem KQ (W : World) (a : Addr) : W.drew.cell? a = W.cell? a := rfl
def gJ (vid : Int) (rn : Nat) (rs : List Rg) (sn : Nat) (ss : List Sb) (c m : Int) : Int :=
 if aV vid rn rs sn ss ≠ 0 then aV vid rn rs sn ss else if fstAt rn (rpB rs c m) < 0 then 5 else if aK sn (S8 ss c m) = true then 9 else 0
def kH (vid : Int) (rn : Nat) (rs : List Rg) (sn : Nat) (ss : List Sb) (c m : Int) (w : World) (e : Ending) (w' : World) : Prop :=
 ∃ V r, e = .returned (.tuple #[V, .agg #[.int .i64 (Rg.a r), .int .i64 r.l, .int .i64 r.p], .int .i64 (gJ vid rn rs sn ss c m)]) ∧ Below w.heap.size w w' ∧ (gJ vid rn rs sn ss c m ≠ 0 → V = .agg #[.int .i64 0, .slice none 0 0, .slice none 0 0] ∧ r = ⟨0, 0, 0⟩) ∧
  (gJ vid rn rs sn ss c m = 0 → ∃ ts i, bG ss ts ∧ i < rn ∧ rpB rs c m i = true ∧ (∀ j, j < i → rpB rs c m j = false) ∧ r = aL rs i ∧ E4 w' w.heap.size vid V (rs.take i ++ rs.drop (i + 1)) ts)
theorem kH.err (hE : gJ vid rn rs sn ss c m = E ∧ E ≠ 0) (hb : Below w.heap.size w w') :
  kH vid rn rs sn ss c m w (.returned (.tuple #[.agg #[.int .i64 0, .slice none 0 0, .slice none 0 0], .agg #[.int .i64 0, .int .i64 0, .int .i64 0], .int .i64 E])) w' :=
 ⟨_, ⟨0, 0, 0⟩, by rw [hE.1], hb, fun _ => ⟨rfl, rfl⟩, fun h => absurd (hE.1.symm.trans h) hE.2⟩
structure TD (w W : World) (vid : Int) (rx : Option Addr) (rn rc : Nat) (sx : Option Addr) (sn sc : Nat) (c m : Int) : Prop where
 hb : W.heap[w.heap.size]? = some (.cells #[.int .i64 vid, .slice rx rn rc, .slice sx sn sc] 41)
 hp : W.heap[w.heap.size + 1]? = some (.cells #[.int .i64 c, .int .i64 m] 49)
 hs : W.heap[w.heap.size + 2]? = some (.cells #[.int .i64 0, .slice none 0 0, .slice none 0 0] 41)
 hg : W.heap[w.heap.size + 3]? = some (.cells #[.int .i64 0, .int .i64 0, .int .i64 0] 51)
 below : Below w.heap.size w W
theorem TD.later (h : TD w W vid rx rn rc sx sn sc c m) (hb : Below W.heap.size W W') : TD w W' vid rx rn rc sx sn sc c m :=
 ⟨aB hb h.hb, aB hb h.hp, aB hb h.hs, aB hb h.hg, h.below.trans (hb.mono h.below.size)⟩
theorem KR (vid : Int) (rx : Option Addr) (rn rc : Nat) (rs : List Rg) (sx : Option Addr) (sn sc : Nat) (ss : List Sb) (c m : Int) (w : World) (hv : Vp w rx rn rc rs sx sn sc ss) (hrn : rn ≤ 9223372036854775807) (hsn : sn ≤ 9223372036854775807) (hrc : rc ≤ 9223372036854775807) :
  Calls Tryz.prog 99 #[.agg #[.int .i64 vid, .slice rx rn rc, .slice sx sn sc], .agg #[.int .i64 c, .int .i64 m]] w (kH vid rn rs sn ss c m w) := by
 have hrl : Hid (rs.length = rn) := hv.ranges.len
 have hsl : Hid (ss.length = sn) := hv.subs.len
 go_enter Tryz.func99, Tryz.ntmps99
 go_upto_region 1 with fail
 obtain ⟨w0, hw0⟩ : ∃ w0, w0 = (((w.alloc (cZ vid (.slice rx rn rc) (.slice sx sn sc))).alloc (.cells #[.int .i64 c, .int .i64 m] 49)).alloc (cZ 0 (.slice none 0 0) (.slice none 0 0))).alloc (.cells #[.int .i64 0, .int .i64 0, .int .i64 0] 51) := ⟨_, rfl⟩
 rw [← hw0]
 have hT0 : TD w w0 vid rx rn rc sx sn sc c m := by
  rw [hw0]
  exact ⟨aF _ (aF _ (aF _ (aC _ rfl))), aF _ (aF _ (aC _ (by simp))), aF _ (aC _ (by simp)), aC _ (by simp), ((cB w _ _).alloc (by simp; omega) _).alloc (by simp; omega) _⟩
 clear hw0
 obtain ⟨b0, b1, b2⟩ := bI hT0.hb rfl rfl rfl
 obtain ⟨p0, p1⟩ := aO hT0.hp rfl rfl
 obtain ⟨s0, s1, s2⟩ := bI hT0.hs rfl rfl rfl
 obtain ⟨zs0, zs1, zs2⟩ := eO hT0.hs
 obtain ⟨g0, g1, g2⟩ := bI hT0.hg rfl rfl rfl
 obtain ⟨zg0, zg1, zg2⟩ := eO hT0.hg
 have hck := checkV_any vid rx rn rc rs sx sn sc ss w0 (hv.later hT0.below) hrn hsn hrc
 by_cases hc0 : aV vid rn rs sn ss = 0
 ·rw [hc0] at hck
  obtain ⟨f1, f2, f3, f4⟩ := cA hc0
  have hE1 : Hid (gJ vid rn rs sn ss c m = if fstAt rn (rpB rs c m) < 0 then 5 else if aK sn (S8 ss c m) = true then 9 else 0) := if_neg (c := aV vid rn rs sn ss ≠ 0) (by simp [hc0])
  clear hc0
  go_wp2_with fail
  refine (hck).mono ?_
  rintro e w1 ⟨rfl, hbw1⟩
  have hT1 := hT0.later hbw1
  clear b0 b1 b2 p0 p1 s0 zs0 s1 zs1 s2 zs2 g0 zg0 g1 zg1 g2 zg2
  obtain ⟨b0, b1, b2⟩ := bI hT1.hb rfl rfl rfl
  obtain ⟨p0, p1⟩ := aO hT1.hp rfl rfl
  obtain ⟨s0, s1, s2⟩ := bI hT1.hs rfl rfl rfl
  obtain ⟨zs0, zs1, zs2⟩ := eO hT1.hs
  obtain ⟨g0, g1, g2⟩ := bI hT1.hg rfl rfl rfl
  obtain ⟨zg0, zg1, zg2⟩ := eO hT1.hg
  have hsp := fun t h => A6 c m (w.heap.size + 1) rx rn rc rs t h w1 (hv.later hT1.below).ranges hrn p0 p1
  rcases fstAt_cases rn (rpB rs c m) with ⟨i, hi, hf, hno, hfp⟩ | ⟨-, hfp⟩
  ·have hsp' := hsp _ hfp
   clear hsp
   have hE2 : Hid (gJ vid rn rs sn ss c m = if aK sn (S8 ss c m) = true then 9 else 0) := by
    have := hE1.out
    rw [hfp] at this
    rw [if_neg (by omega)] at this
    exact this
   clear hfp hE1
   have hHf : Hid (rpB rs c m i = true ∧ ∀ j, j < i → rpB rs c m j = false) := ⟨hf, hno⟩
   clear hf hno
   have hi' : Hid (i < rn) := hi
   obtain ⟨b, o, rfl, r0, r1, r2⟩ := hv.ranges.cells i hi
   have hbw : Hid (b < w.heap.size) := block_lt_of_cell r0
   go_wp2_with fail
   refine (hsp').mono ?_
   rintro e w2 ⟨rfl, hbw2⟩
   have hT2 := hT1.later hbw2
   clear b0 b1 b2 p0 p1 s0 zs0 s1 zs1 s2 zs2 g0 zg0 g1 zg1 g2 zg2
   obtain ⟨b0, b1, b2⟩ := bI hT2.hb rfl rfl rfl
   obtain ⟨p0, p1⟩ := aO hT2.hp rfl rfl
   obtain ⟨s0, s1, s2⟩ := bI hT2.hs rfl rfl rfl
   obtain ⟨zs0, zs1, zs2⟩ := eO hT2.hs
   obtain ⟨g0, g1, g2⟩ := bI hT2.hg rfl rfl rfl
   obtain ⟨zg0, zg1, zg2⟩ := eO hT2.hg
   have i0 : (0 : Int) ≤ i := by omega
   have i1 : (i : Int) < rn := by omega
   have hda := fun t h => HL c m (w.heap.size + 1) sx sn sc ss t h w2 (hv.later hT2.below).subs (by omega) p0 p1
   cases hany : aK sn (S8 ss c m) with
   | true =>
    have hne : gJ vid rn rs sn ss c m = 9 ∧ (9 : Int) ≠ 0 := ⟨hE2.out.trans (if_pos hany), by decide⟩
    clear r0 r1 r2
    go_wp2_with fail
    refine (hda _ hany).mono ?_
    rintro e w3 ⟨rfl, hbw3⟩
    have hT3 := hT2.later hbw3
    clear b0 b1 b2 p0 p1 s0 zs0 s1 zs1 s2 zs2 g0 zg0 g1 zg1 g2 zg2
    obtain ⟨b0, b1, b2⟩ := bI hT3.hb rfl rfl rfl
    obtain ⟨p0, p1⟩ := aO hT3.hp rfl rfl
    obtain ⟨s0, s1, s2⟩ := bI hT3.hs rfl rfl rfl
    obtain ⟨zs0, zs1, zs2⟩ := eO hT3.hs
    obtain ⟨g0, g1, g2⟩ := bI hT3.hg rfl rfl rfl
    obtain ⟨zg0, zg1, zg2⟩ := eO hT3.hg
    go_wp2
    refine bodyPost_ret (v := .tuple #[.agg #[.int .i64 0, .slice none 0 0, .slice none 0 0], .agg #[.int .i64 0, .int .i64 0, .int .i64 0], .int .i64 9]) (by simp [results, Tryz.results99, go_sem, s0, s1, s2, g0, g1, g2]) rfl ?_
    exact kH.err hne ((((((hT3.below.setCell (p := ⟨w.heap.size + 2, 0, none⟩) (Nat.le_add_right _ _) _).setCell (p := ⟨w.heap.size + 2, 1, none⟩) (Nat.le_add_right _ _) _).setCell (p := ⟨w.heap.size + 2, 2, none⟩) (Nat.le_add_right _ _) _).setCell (p := ⟨w.heap.size + 3, 0, none⟩) (Nat.le_add_right _ _) _).setCell (p := ⟨w.heap.size + 3, 1, none⟩) (Nat.le_add_right _ _) _).setCell (p := ⟨w.heap.size + 3, 2, none⟩) (Nat.le_add_right _ _) _)
   | false =>
    have hE0 : Hid (gJ vid rn rs sn ss c m = 0) := hE2.out.trans (if_neg (by simp [hany]))
    have hv3 := fun W (hW : Below w.heap.size w W) => dE vid (some ⟨b, o, none⟩) rn rc rs sx sn sc ss W (hv.later hW) (by omega) (by omega) (fun i hi => by have := f3 i hi; omega) (fun i hi j hj => by have := f4 i hi j hj; omega)
    have r0' : Hid (w.cell? ⟨b, o + i * 3, none⟩ = some (.int .i64 (aL rs i).a)) := r0
    have r1' : Hid (w.cell? ⟨b, o + i * 3 + 1, none⟩ = some (.int .i64 (aL rs i).l)) := r1
    have r2' : Hid (w.cell? ⟨b, o + i * 3 + 2, none⟩ = some (.int .i64 (aL rs i).p)) := r2
    clear r0 r1 r2
    go_wp2_with fail
    refine (hda _ hany).mono ?_
    rintro e w3 ⟨rfl, hbw3⟩
    have hT3 := hT2.later hbw3
    clear b0 b1 b2 p0 p1 s0 zs0 s1 zs1 s2 zs2 g0 zg0 g1 zg1 g2 zg2
    obtain ⟨b0, b1, b2⟩ := bI hT3.hb rfl rfl rfl
    obtain ⟨p0, p1⟩ := aO hT3.hp rfl rfl
    obtain ⟨s0, s1, s2⟩ := bI hT3.hs rfl rfl rfl
    obtain ⟨zs0, zs1, zs2⟩ := eO hT3.hs
    obtain ⟨g0, g1, g2⟩ := bI hT3.hg rfl rfl rfl
    obtain ⟨zg0, zg1, zg2⟩ := eO hT3.hg
    go_wp2_with fail
    refine (hv3 _ hT3.below).mono ?_
    rintro e w5 ⟨vR, vS, ts, rfl, hOR, hss, hOS, hb5⟩
    have hT5 := hT3.later hb5
    obtain ⟨xt, ct, rfl, -⟩ := hOS.subs
    obtain ⟨k, hk⟩ : ∃ k, rs.length = k + 1 := ⟨rs.length - 1, by have := hi'.out; have := hrl.out; omega⟩
    have hik : i ≤ k := by have := hi'.out; have := hrl.out; omega
    have hk64 : k ≤ 64 := by have := hrl.out; omega
    obtain ⟨g, cap, hg5, cur, hgh, hcap1, hcap2, hvR⟩ : ∃ g cap, w3.heap.size ≤ g ∧ ∃ cur, w5.heap[g]? = some (.cells cur 51) ∧ k + 1 ≤ cap ∧ cap ≤ 9223372036854775807 ∧ vR = .slice (some ⟨g, 0, none⟩) (k + 1) cap := by
     obtain ⟨x2, c2, hv2, h1, h2, -, -⟩ := hOR.mem
     rcases hOR.2 with ⟨hv', -⟩ | ⟨g, cap, cur, hv', hg1, hg2, -⟩
     ·rw [hv'] at hv2; simp only [Value.slice.injEq] at hv2; omega
     ·rw [hv'] at hv2
      simp only [Value.slice.injEq] at hv2
      obtain ⟨-, -, rfl⟩ := hv2
      exact ⟨g, cap, hg1, cur, hg2, by omega, h2, by rw [hv', hk]⟩
    subst hvR
    clear b0 b1 b2 p0 p1 s0 zs0 s1 zs1 s2 zs2 g0 zg0 g1 zg1 g2 zg2
    have hgl : g < w5.heap.size := (Array.getElem?_eq_some_iff.1 hgh).1
    go_upto_region 11 with fail
    obtain ⟨w6, hw6⟩ : ∃ w6, w6 = w5.alloc (cZ vid (.slice (some ⟨g, 0, none⟩) (k + 1) cap) (.slice xt ts.length ct)) := ⟨_, rfl⟩
    rw [← hw6]
    have hb56 : Below w5.heap.size w5 w6 := by rw [hw6]; exact bl1 _ _
    have hn6 : w6.heap[w5.heap.size]? = some (cZ vid (.slice (some ⟨g, 0, none⟩) (k + 1) cap) (.slice xt ts.length ct)) := by rw [hw6]; exact aC _ rfl
    clear hw6
    have hT6 := hT5.later hb56
    have hg6 := aB hb56 hgh
    have hOR6 := bN.later hOR hb56
    have hOS6 := jE.later hOS hb56
    have n1 := aU hn6 1 rfl
    have hdel := EP w3.heap.size g k cap i (i + 1) rs w6 hOR6 hk hik rfl hk64 hcap1 hcap2
    rw [show ((i + 1 : Nat) : Int) = (i : Int) + 1 by omega] at hdel
    go_wp2_with fail
    refine hdel.mono ?_
    rintro e w7 ⟨rfl, hO7, hg7⟩
    clear n1 hdel
    have hsz3 : w.heap.size + 3 < w3.heap.size := (Array.getElem?_eq_some_iff.1 hT3.hg).1
    have hn7 := dB hg7 (by omega) hn6
    have hb7 := dB hg7 (by omega) hT6.hb
    have hs7 := dB hg7 (by omega) hT6.hs
    have hr7 := dB hg7 (by omega) hT6.hg
    have hB7 := dQ hT6.below hg7 (fun q e => by cases e; omega)
    have hOS7 : jE w7 w3.heap.size (.slice xt ts.length ct) ts ts.length := ⟨hOS6.row.kept hg7 (fun q hq e => by subst e; exact hOS6.row.ne hg6 (by decide) hq), fun j hj => (hOS6.own j hj).kept_of hg7 hg6 (by decide) (by decide), hOS6.apart⟩
    have m1 := aU hn7 1 rfl
    have zm := (aA hn7).2 1
    go_upto_region 12 with fail
    clear m1 zm
    obtain ⟨w8, hw8⟩ : ∃ w8, w8 = w7.setCell ⟨w5.heap.size, 1, none⟩ (.slice (some ⟨g, 0, none⟩) k cap) := ⟨_, rfl⟩
    rw [← hw8]
    have hn8 : w8.heap[w5.heap.size]? = some (cZ vid (.slice (some ⟨g, 0, none⟩) k cap) (.slice xt ts.length ct)) := by
     rw [hw8]
     have := heap_setCell_same w7 w5.heap.size 1 _ _ (.slice (some ⟨g, 0, none⟩) k cap) hn7
     simpa using this
    have hz35 := hb5.size
    have hq1 : w.heap.size ≠ w5.heap.size := by omega
    have hq2 : w.heap.size + 2 ≠ w5.heap.size := by omega
    have hq3 : w.heap.size + 3 ≠ w5.heap.size := by omega
    have hb8 : w8.heap[w.heap.size]? = some (cZ vid (.slice (some ⟨b, o, none⟩) rn rc) (.slice sx sn sc)) := by rw [hw8]; exact (heap_setCell_other _ _ _ _ hq1).trans hb7
    have hs8 : w8.heap[w.heap.size + 2]? = some (cZ 0 (.slice none 0 0) (.slice none 0 0)) := by rw [hw8]; exact (heap_setCell_other _ _ _ _ hq2).trans hs7
    have hr8 : w8.heap[w.heap.size + 3]? = some (.cells #[.int .i64 0, .int .i64 0, .int .i64 0] 51) := by rw [hw8]; exact (heap_setCell_other _ _ _ _ hq3).trans hr7
    have hB8 : Below w.heap.size w w8 := by rw [hw8]; exact hB7.setCell (p := ⟨w5.heap.size, 1, none⟩) (by show w.heap.size ≤ w5.heap.size; omega) _
    have hO8 : bN w8 w3.heap.size (.slice (some ⟨g, 0, none⟩) k cap) (rs.take i ++ rs.drop (i + 1)) := by rw [hw8]; exact hO7.putBox hn7 (by decide)
    have hOS8 : jE w8 w3.heap.size (.slice xt ts.length ct) ts ts.length := by rw [hw8]; exact hOS7.putBox hn7 (by decide) (by decide) (by decide)
    clear hw8
    obtain ⟨n0, n1, n2⟩ := bI hn8 rfl rfl rfl
    have b1 := aU hb8 1 rfl
    have r0 := cell_later hB8 r0'.out
    have r1 := cell_later hB8 r1'.out
    have r2 := cell_later hB8 r2'.out
    obtain ⟨s0, s1, s2⟩ := bI hs8 rfl rfl rfl
    obtain ⟨zs0, zs1, zs2⟩ := eO hs8
    obtain ⟨g0, g1, g2⟩ := bI hr8 rfl rfl rfl
    obtain ⟨zg0, zg1, zg2⟩ := eO hr8
    have hbq := hbw.out
    go_region_held3 (fun w' => w'.cell? ⟨w5.heap.size, 0, none⟩ = some (.int .i64 vid) ∧ w'.cell? ⟨w5.heap.size, 1, none⟩ = some (.slice (some ⟨g, 0, none⟩) k cap) ∧ w'.cell? ⟨w5.heap.size, 2, none⟩ = some (.slice xt ts.length ct) ∧ w'.cell? ⟨w.heap.size, 1, none⟩ = some (.slice (some ⟨b, o, none⟩) rn rc) ∧ w'.cell? ⟨b, o + i * 3, none⟩ = some (.int .i64 (aL rs i).a) ∧ w'.cell? ⟨b, o + i * 3 + 1, none⟩ = some (.int .i64 (aL rs i).l) ∧ w'.cell? ⟨b, o + i * 3 + 2, none⟩ = some (.int .i64 (aL rs i).p)) (first | (refine ⟨?_, ?_, ?_, ?_, ?_, ?_, ?_⟩ <;> ((try rw [KQ]); (repeat rw [aX (by omega)]); assumption))) (fail)
    all_goals go_wp2
    have hp2 : w.heap.size + 2 < w3.heap.size := by omega
    have hp3 : w.heap.size + 3 < w3.heap.size := by omega
    have hfin := Below.drew ((((((hB8.setCell (p := ⟨w.heap.size + 2, 0, none⟩) (Nat.le_add_right _ _) (.int .i64 vid)).setCell (p := ⟨w.heap.size + 2, 1, none⟩) (Nat.le_add_right _ _) (.slice (some ⟨g, 0, none⟩) k cap)).setCell (p := ⟨w.heap.size + 2, 2, none⟩) (Nat.le_add_right _ _) (.slice xt ts.length ct)).setCell (p := ⟨w.heap.size + 3, 0, none⟩) (Nat.le_add_right _ _) (.int .i64 (aL rs i).a)).setCell (p := ⟨w.heap.size + 3, 1, none⟩) (Nat.le_add_right _ _) (.int .i64 (aL rs i).l)).setCell (p := ⟨w.heap.size + 3, 2, none⟩) (Nat.le_add_right _ _) (.int .i64 (aL rs i).p))
    have hor := bN.drew ((((((hO8.put (o := 0) (u := (.int .i64 vid)) hp2).put (o := 1) (u := (.slice (some ⟨g, 0, none⟩) k cap)) hp2).put (o := 2) (u := (.slice xt ts.length ct)) hp2).put (o := 0) (u := (.int .i64 (aL rs i).a)) hp3).put (o := 1) (u := (.int .i64 (aL rs i).l)) hp3).put (o := 2) (u := (.int .i64 (aL rs i).p)) hp3)
    have hos := jE.later ((((((hOS8.put (o := 0) (u := (.int .i64 vid)) hp2).put (o := 1) (u := (.slice (some ⟨g, 0, none⟩) k cap)) hp2).put (o := 2) (u := (.slice xt ts.length ct)) hp2).put (o := 0) (u := (.int .i64 (aL rs i).a)) hp3).put (o := 1) (u := (.int .i64 (aL rs i).l)) hp3).put (o := 2) (u := (.int .i64 (aL rs i).p)) hp3) (Below.refl _ _).drew
    refine bodyPost_ret (v := .tuple #[.agg #[.int .i64 vid, .slice (some ⟨g, 0, none⟩) k cap, .slice xt ts.length ct], .agg #[.int .i64 (aL rs i).a, .int .i64 (aL rs i).l, .int .i64 (aL rs i).p], .int .i64 0]) (by simp [results, Tryz.results99, go_sem, s0, s1, s2, g0, g1, g2]) rfl ?_
    exact ⟨_, aL rs i, by rw [hE0.out], hfin, fun h => absurd hE0.out h, fun _ => ⟨ts, i, hss, hi'.out, hHf.out.1, hHf.out.2, rfl, E4.mk hor (by omega) hos.row (by omega) hos.ofa (by omega)⟩⟩
  ·have hsp' := hsp _ hfp
   have hne : gJ vid rn rs sn ss c m = 5 ∧ (5 : Int) ≠ 0 := ⟨hE1.out.trans (if_pos (by rw [hfp]; decide)), by decide⟩
   clear hfp hE1 hsp
   go_wp2_with fail
   refine (hsp').mono ?_
   rintro e w2 ⟨rfl, hbw2⟩
   have hT2 := hT1.later hbw2
   clear b0 b1 b2 p0 p1 s0 zs0 s1 zs1 s2 zs2 g0 zg0 g1 zg1 g2 zg2
   obtain ⟨b0, b1, b2⟩ := bI hT2.hb rfl rfl rfl
   obtain ⟨p0, p1⟩ := aO hT2.hp rfl rfl
   obtain ⟨s0, s1, s2⟩ := bI hT2.hs rfl rfl rfl
   obtain ⟨zs0, zs1, zs2⟩ := eO hT2.hs
   obtain ⟨g0, g1, g2⟩ := bI hT2.hg rfl rfl rfl
   obtain ⟨zg0, zg1, zg2⟩ := eO hT2.hg
   go_wp2
   refine bodyPost_ret (v := .tuple #[.agg #[.int .i64 0, .slice none 0 0, .slice none 0 0], .agg #[.int .i64 0, .int .i64 0, .int .i64 0], .int .i64 5]) (by simp [results, Tryz.results99, go_sem, s0, s1, s2, g0, g1, g2]) rfl ?_
   exact kH.err hne ((((((hT2.below.setCell (p := ⟨w.heap.size + 2, 0, none⟩) (Nat.le_add_right _ _) _).setCell (p := ⟨w.heap.size + 2, 1, none⟩) (Nat.le_add_right _ _) _).setCell (p := ⟨w.heap.size + 2, 2, none⟩) (Nat.le_add_right _ _) _).setCell (p := ⟨w.heap.size + 3, 0, none⟩) (Nat.le_add_right _ _) _).setCell (p := ⟨w.heap.size + 3, 1, none⟩) (Nat.le_add_right _ _) _).setCell (p := ⟨w.heap.size + 3, 2, none⟩) (Nat.le_add_right _ _) _)
 ·have hne : gJ vid rn rs sn ss c m = aV vid rn rs sn ss ∧ aV vid rn rs sn ss ≠ 0 := ⟨if_pos hc0, hc0⟩
  go_wp2_with fail
  refine (hck).mono ?_
  rintro e w1 ⟨rfl, hbw1⟩
  have hT1 := hT0.later hbw1
  clear b0 b1 b2 p0 p1 s0 zs0 s1 zs1 s2 zs2 g0 zg0 g1 zg1 g2 zg2
  obtain ⟨b0, b1, b2⟩ := bI hT1.hb rfl rfl rfl
  obtain ⟨p0, p1⟩ := aO hT1.hp rfl rfl
  obtain ⟨s0, s1, s2⟩ := bI hT1.hs rfl rfl rfl
  obtain ⟨zs0, zs1, zs2⟩ := eO hT1.hs
  obtain ⟨g0, g1, g2⟩ := bI hT1.hg rfl rfl rfl
  obtain ⟨zg0, zg1, zg2⟩ := eO hT1.hg
  have hsp := A6 c m (w.heap.size + 1) rx rn rc rs _ rfl w1 (hv.later hT1.below).ranges hrn p0 p1
  generalize fstAt rn (rpB rs c m) = fp at hsp
  go_wp2_with fail
  refine (hsp).mono ?_
  rintro e w2 ⟨rfl, hbw2⟩
  have hT2 := hT1.later hbw2
  clear b0 b1 b2 p0 p1 s0 zs0 s1 zs1 s2 zs2 g0 zg0 g1 zg1 g2 zg2
  obtain ⟨b0, b1, b2⟩ := bI hT2.hb rfl rfl rfl
  obtain ⟨p0, p1⟩ := aO hT2.hp rfl rfl
  obtain ⟨s0, s1, s2⟩ := bI hT2.hs rfl rfl rfl
  obtain ⟨zs0, zs1, zs2⟩ := eO hT2.hs
  obtain ⟨g0, g1, g2⟩ := bI hT2.hg rfl rfl rfl
  obtain ⟨zg0, zg1, zg2⟩ := eO hT2.hg
  go_wp2
  refine bodyPost_ret (v := .tuple #[.agg #[.int .i64 0, .slice none 0 0, .slice none 0 0], .agg #[.int .i64 0, .int .i64 0, .int .i64 0], .int .i64 (aV vid rn rs sn ss)]) (by simp [results, Tryz.results99, go_sem, s0, s1, s2, g0, g1, g2]) rfl ?_
  exact kH.err hne ((((((hT2.below.setCell (p := ⟨w.heap.size + 2, 0, none⟩) (Nat.le_add_right _ _) _).setCell (p := ⟨w.heap.size + 2, 1, none⟩) (Nat.le_add_right _ _) _).setCell (p := ⟨w.heap.size + 2, 2, none⟩) (Nat.le_add_right _ _) _).setCell (p := ⟨w.heap.size + 3, 0, none⟩) (Nat.le_add_right _ _) _).setCell (p := ⟨w.heap.size + 3, 1, none⟩) (Nat.le_add_right _ _) _).setCell (p := ⟨w.heap.size + 3, 2, none⟩) (Nat.le_add_right _ _) _)
def wL (vid : Int) (rn : Nat) (rs : List Rg) (sn : Nat) (ss : List Sb) (sub id : Int) : Int :=
 if aV vid rn rs sn ss ≠ 0 then aV vid rn rs sn ss else if fstAt sn (fun i => (sbAt ss i).id == sub) < 0 then 5 else if fstAt (sbAt ss (fstAt sn (fun i => (sbAt ss i).id == sub)).toNat).n (fun j => (fcAt (sbAt ss (fstAt sn (fun i => (sbAt ss i).id == sub)).toNat).fs j).id == id) < 0 then 5 else 0
structure gY (sn : Nat) (ss : List Sb) (sub id : Int) (i j : Nat) : Prop where
 isn : i < sn
 sid : (sbAt ss i).id = sub
 sno : ∀ k, k < i → (sbAt ss k).id ≠ sub
 jn : j < (sbAt ss i).n
 fid : (fcAt (sbAt ss i).fs j).id = id
 fno : ∀ k, k < j → (fcAt (sbAt ss i).fs k).id ≠ id
def oN (vid : Int) (rn : Nat) (rs : List Rg) (sn : Nat) (ss : List Sb) (sub id : Int) (w : World) (e : Ending) (w' : World) : Prop :=
 ∃ i j : Nat, e = .returned (.tuple #[.int .i64 i, .int .i64 j, .int .i64 (wL vid rn rs sn ss sub id)]) ∧ Below w.heap.size w w' ∧ (wL vid rn rs sn ss sub id ≠ 0 → i = 0 ∧ j = 0) ∧ (wL vid rn rs sn ss sub id = 0 → aV vid rn rs sn ss = 0 ∧ gY sn ss sub id i j)
theorem oN.err {sub id : Int} (hE : wL vid rn rs sn ss sub id = E ∧ E ≠ 0) (hb : Below w.heap.size w w') :
  oN vid rn rs sn ss sub id w (.returned (.tuple #[.int .i64 0, .int .i64 0, .int .i64 E])) w' :=
 ⟨0, 0, by rw [hE.1]; rfl, hb, fun _ => ⟨rfl, rfl⟩, fun h => absurd (hE.1.symm.trans h) hE.2⟩
structure TP (w W : World) (vid : Int) (rx : Option Addr) (rn rc : Nat) (sx : Option Addr) (sn sc : Nat) : Prop where
 hb : W.heap[w.heap.size]? = some (.cells #[.int .i64 vid, .slice rx rn rc, .slice sx sn sc] 41)
 below : Below w.heap.size w W
theorem TP.later (h : TP w W vid rx rn rc sx sn sc) (hb : Below W.heap.size W W') : TP w W' vid rx rn rc sx sn sc :=
 ⟨aB hb h.hb, h.below.trans (hb.mono h.below.size)⟩
theorem vM (vid : Int) (rx : Option Addr) (rn rc : Nat) (rs : List Rg) (sx : Option Addr) (sn sc : Nat) (ss : List Sb) (sub id : Int) (w : World) (hv : Vp w rx rn rc rs sx sn sc ss) (hrn : rn ≤ 9223372036854775807) (hsn : sn ≤ 9223372036854775807) (hrc : rc ≤ 9223372036854775807) :
  Calls Tryz.prog 152 #[.agg #[.int .i64 vid, .slice rx rn rc, .slice sx sn sc], .int .i64 sub, .int .i64 id] w (oN vid rn rs sn ss sub id w) := by
 go_enter Tryz.func152, Tryz.ntmps152
 go_upto_region 1 with fail
 obtain ⟨w0, hw0⟩ : ∃ w0, w0 = w.alloc (cZ vid (.slice rx rn rc) (.slice sx sn sc)) := ⟨_, rfl⟩
 rw [← hw0]
 have hT0 : TP w w0 vid rx rn rc sx sn sc := by
  rw [hw0]
  exact ⟨aC _ rfl, bl1 w _⟩
 clear hw0
 obtain ⟨b0, b1, b2⟩ := bI hT0.hb rfl rfl rfl
 have hck := checkV_any vid rx rn rc rs sx sn sc ss w0 (hv.later hT0.below) hrn hsn hrc
 by_cases hc0 : aV vid rn rs sn ss = 0
 ·rw [hc0] at hck
  obtain ⟨f1, f2, f3, f4⟩ := cA hc0
  have hE1 : Hid (wL vid rn rs sn ss sub id = if fstAt sn (fun i => (sbAt ss i).id == sub) < 0 then 5 else if fstAt (sbAt ss (fstAt sn (fun i => (sbAt ss i).id == sub)).toNat).n (fun j => (fcAt (sbAt ss (fstAt sn (fun i => (sbAt ss i).id == sub)).toNat).fs j).id == id) < 0 then 5 else 0) := if_neg (c := aV vid rn rs sn ss ≠ 0) (by simp [hc0])
  have hcz : Hid (aV vid rn rs sn ss = 0) := hc0
  clear hc0
  go_wp2_with fail
  refine (hck).mono ?_
  rintro e w1 ⟨rfl, hbw1⟩
  have hT1 := hT0.later hbw1
  clear b0 b1 b2
  obtain ⟨b0, b1, b2⟩ := bI hT1.hb rfl rfl rfl
  have hsp := fun t h => vL vid sub rx rn rc sx sn sc ss t h w1 (hv.later hT1.below).subs (by omega)
  rcases fstAt_cases sn (fun i => (sbAt ss i).id == sub) with ⟨i, hi, hf, hno, hfp⟩ | ⟨-, hfp⟩
  ·have hsp' := hsp _ hfp
   clear hsp
   have hE2 : Hid (wL vid rn rs sn ss sub id = if fstAt (sbAt ss i).n (fun j => (fcAt (sbAt ss i).fs j).id == id) < 0 then 5 else 0) := by
    have := hE1.out
    rw [hfp] at this
    rw [if_neg (by omega)] at this
    unfold Hid
    simpa using this
   clear hfp hE1
   have hHf : Hid ((sbAt ss i).id = sub ∧ ∀ j, j < i → (sbAt ss j).id ≠ sub) := ⟨by simpa using hf, fun j hj => by simpa using hno j hj⟩
   clear hf hno
   have hi' : Hid (i < sn) := hi
   have hn8 := f3 i hi
   obtain ⟨b, o, rfl, c0, c1, c2, c3⟩ := hv.subs.cells i hi
   go_wp2_with fail
   refine (hsp').mono ?_
   rintro e w2 ⟨rfl, hbw2⟩
   have hT2 := hT1.later hbw2
   clear b0 b1 b2
   obtain ⟨b0, b1, b2⟩ := bI hT2.hb rfl rfl rfl
   have d0 := cell_later hT2.below c0
   have d1 := cell_later hT2.below c1
   have d2 := cell_later hT2.below c2
   have d3 := cell_later hT2.below c3
   clear c0 c1 c2 c3
   have i0 : (0 : Int) ≤ i := by omega
   have i1 : (i : Int) < sn := by omega
   have hfl := fun t h => CL (sbAt ss i) id t h w2 ((hv.later hT2.below).subs.faces i hi).2.2 (by omega)
   rcases fstAt_cases (sbAt ss i).n (fun j => (fcAt (sbAt ss i).fs j).id == id) with ⟨j, hj, hjf, hjno, hjp⟩ | ⟨-, hjp⟩
   ·have hfl' := hfl _ hjp
    have hE0 : Hid (wL vid rn rs sn ss sub id = 0) := hE2.out.trans (if_neg (by rw [hjp]; omega))
    have hHj : Hid (gY sn ss sub id i j) := ⟨hi, hHf.out.1, hHf.out.2, hj, by simpa using hjf, fun k hk => by simpa using hjno k hk⟩
    clear hjp hE2 hfl hjf hjno
    go_wp2_with fail
    refine (hfl').mono ?_
    rintro e w3 ⟨rfl, hbw3⟩
    have hT3 := hT2.later hbw3
    go_wp2
    refine bodyPost_ret (v := .tuple #[.int .i64 i, .int .i64 j, .int .i64 0]) (by simp [results, Tryz.results152, go_sem]) rfl ?_
    exact ⟨i, j, by rw [hE0.out], hT3.below, fun h => absurd hE0.out h, fun _ => ⟨hcz.out, hHj.out⟩⟩
   ·have hfl' := hfl _ hjp
    have hne : wL vid rn rs sn ss sub id = 5 ∧ (5 : Int) ≠ 0 := ⟨hE2.out.trans (if_pos (by rw [hjp]; decide)), by decide⟩
    clear hjp hE2 hfl
    go_wp2_with fail
    refine (hfl').mono ?_
    rintro e w3 ⟨rfl, hbw3⟩
    have hT3 := hT2.later hbw3
    go_wp2
    refine bodyPost_ret (v := .tuple #[.int .i64 0, .int .i64 0, .int .i64 5]) (by simp [results, Tryz.results152, go_sem]) rfl ?_
    exact oN.err hne hT3.below
  ·have hsp' := hsp _ hfp
   have hne : wL vid rn rs sn ss sub id = 5 ∧ (5 : Int) ≠ 0 := ⟨hE1.out.trans (if_pos (by rw [hfp]; decide)), by decide⟩
   clear hfp hE1 hsp
   go_wp2_with fail
   refine (hsp').mono ?_
   rintro e w2 ⟨rfl, hbw2⟩
   have hT2 := hT1.later hbw2
   clear b0 b1 b2
   obtain ⟨b0, b1, b2⟩ := bI hT2.hb rfl rfl rfl
   go_wp2
   refine bodyPost_ret (v := .tuple #[.int .i64 0, .int .i64 0, .int .i64 5]) (by simp [results, Tryz.results152, go_sem]) rfl ?_
   exact oN.err hne hT2.below
 ·have hne : wL vid rn rs sn ss sub id = aV vid rn rs sn ss ∧ aV vid rn rs sn ss ≠ 0 := ⟨if_pos hc0, hc0⟩
  go_wp2_with fail
  refine (hck).mono ?_
  rintro e w1 ⟨rfl, hbw1⟩
  have hT1 := hT0.later hbw1
  clear b0 b1 b2
  obtain ⟨b0, b1, b2⟩ := bI hT1.hb rfl rfl rfl
  go_wp2
  refine bodyPost_ret (v := .tuple #[.int .i64 0, .int .i64 0, .int .i64 (aV vid rn rs sn ss)]) (by simp [results, Tryz.results152, go_sem]) rfl ?_
  exact oN.err hne hT1.below
theorem yN (h : i < fs.length) : fcAt fs i ∈ fs := by
 unfold fcAt
 rw [List.getD_eq_getElem?_getD, List.getElem?_eq_getElem h]
 exact List.getElem_mem h
theorem mQ.mk' (h : dX w base v fs) (ho : ∀ f ∈ fs, dO w base (.slice f.x f.n f.c) f.ns) : mQ w base v fs fs.length :=
 ⟨h, fun i hi => ho _ (yN hi), fun i hi hi2 => by omega⟩
theorem mQ.each (h : mQ w base v fs fs.length) : ∀ f ∈ fs, dO w base (.slice f.x f.n f.c) f.ns := fun f hf => by
 obtain ⟨i, hi, rfl⟩ := List.getElem_of_mem hf
 have e : fcAt fs i = fs[i] := by unfold fcAt; rw [List.getD_eq_getElem?_getD, List.getElem?_eq_getElem hi]; rfl
 have := h.own i hi
 rw [e] at this
 exact this
theorem jE.cut {kf : Nat} (h : jE w base v ts ts.length) (hi : i < ts.length) (hg : w.grownBy w' (some gf)) (hb : w.heap[gf]? = some (.cells cur 80))
  (hx : (Value.slice (sbAt ts i).x (sbAt ts i).n (sbAt ts i).c).ownBlock = some gf) (hO : dX w' base (.slice (some ⟨gf, 0, none⟩) kf cf) gs) (hsub : ∀ f ∈ gs, f ∈ (sbAt ts i).fs) :
  wK w' base (ts.set i (bK (sbAt ts i) (some ⟨gf, 0, none⟩) kf cf gs)) := fun s hs => by
 have hI : ∀ k, k < ts.length → ∀ f ∈ (sbAt ts k).fs, dO w' base (.slice f.x f.n f.c) f.ns := fun k hk f hf => by
  have h1 := (h.own k hk).each f hf
  exact h1.kept hg (fun q hq e => by subst e; exact h1.ne hb (by decide) hq)
 obtain ⟨k, hk, rfl⟩ := List.getElem_of_mem hs
 have hk' : k < ts.length := by simpa using hk
 rw [List.getElem_set]
 by_cases e : i = k
 ·rw [if_pos e]
  exact mQ.mk' hO (fun f hf => hI i hi f (hsub f hf))
 ·rw [if_neg e]
  have e2 : sbAt ts k = ts[k] := by unfold sbAt; rw [List.getD_eq_getElem?_getD, List.getElem?_eq_getElem hk']; rfl
  rw [← e2]
  exact mQ.mk' ((h.own k hk').row.kept hg (fun q hq e3 => by subst e3; exact h.apart i k hi hk' e _ hx hq)) (hI k hk')
theorem CM (h : w'.heap[b]? = w.heap[b]?) : w'.cell? ⟨b, o, none⟩ = w.cell? ⟨b, o, none⟩ := by simp [World.cell?, h]
theorem CN {bx k cap : Nat} (hg7' : w6.drew.grownBy w7 (some gf)) (hn6 : w6.heap[bx]? = some (cZ vid vR (.slice (some ⟨g, 0, none⟩) n cap))) (hrow : bY w6 base (.slice (some ⟨g, 0, none⟩) n cap) ts)
  (hgf6 : w6.heap[gf]? = some (.cells curf 80)) (hg6 : w6.heap[g]? = some (.cells cur 78)) (hne1 : g ≠ gf) (hne2 : bx ≠ gf) (d3 : w6.cell? ⟨g, i * 4 + 3, none⟩ = some (.slice (some ⟨gf, 0, none⟩) (k + 1) cf)) :
  w6.grownBy w7 (some gf) ∧ w7.heap[bx]? = some (cZ vid vR (.slice (some ⟨g, 0, none⟩) n cap)) ∧ bY w7 base (.slice (some ⟨g, 0, none⟩) n cap) ts ∧ w7.cell? ⟨bx, 2, none⟩ = some (.slice (some ⟨g, 0, none⟩) n cap) ∧ w7.cell? ⟨g, i * 4 + 3, none⟩ = some (.slice (some ⟨gf, 0, none⟩) (k + 1) cf) ∧ w7.frozen? ⟨g, i * 4 + 3, none⟩ = false ∧ w7.heap[g]? = some (.cells cur 78) := by
 have hg7 : w6.grownBy w7 (some gf) := by
  obtain ⟨q1, q2, q3, q4, q5⟩ := hg7'
  exact ⟨q1, q2, q3, q4, q5⟩
 have hn7 := dB hg7 hne2 hn6
 have hrow7 := hrow.kept hg7 (fun q hq e => by subst e; exact hrow.ne hgf6 (by decide) hq)
 have hgg7 := dB hg7 hne1 hg6
 exact ⟨hg7, hn7, hrow7, (aA hn7).1 2, (CM (hgg7.trans hg6.symm)).trans d3, hrow7.frozen _, hgg7⟩
def QW (vid : Int) (rs : List Rg) (sn : Nat) (ss : List Sb) (sub id : Int) (base : Nat) (w : World) (V : Value) : Prop := ∃ ts i j x n c, gY sn ss sub id i j ∧ bG ss ts ∧ n = ((sbAt ts i).fs.take j ++ (sbAt ts i).fs.drop (j + 1)).length ∧ E4 w base vid V rs (ts.set i (bK (sbAt ts i) x n c ((sbAt ts i).fs.take j ++ (sbAt ts i).fs.drop (j + 1))))
theorem E5 (vid : Int) (rx : Option Addr) (rn rc : Nat) (rs : List Rg) (sx : Option Addr) (sn sc : Nat) (ss : List Sb) (sub id : Int) (w : World) (hv : Vp w rx rn rc rs sx sn sc ss) (hrn : rn ≤ 9223372036854775807) (hsn : sn ≤ 9223372036854775807) (hrc : rc ≤ 9223372036854775807) :
  Calls Tryz.prog 104 #[.agg #[.int .i64 vid, .slice rx rn rc, .slice sx sn sc], .int .i64 sub, .int .i64 id] w (fZ (wL vid rn rs sn ss sub id) (QW vid rs sn ss sub id w.heap.size) w) := by
 have hrl : Hid (rs.length = rn) := hv.ranges.len
 have hsl : Hid (ss.length = sn) := hv.subs.len
 have hpl0 := fun W h => vM vid rx rn rc rs sx sn sc ss sub id W h hrn hsn hrc
 unfold oN at hpl0
 generalize wL vid rn rs sn ss sub id = E at hpl0 ⊢
 go_enter Tryz.func104, Tryz.ntmps104
 go_upto_region 1 with fail
 obtain ⟨w0, hw0⟩ : ∃ w0, w0 = (w.alloc (cZ vid (.slice rx rn rc) (.slice sx sn sc))).alloc (cZ 0 (.slice none 0 0) (.slice none 0 0)) := ⟨_, rfl⟩
 rw [← hw0]
 have hT0 : TN w w0 vid rx rn rc sx sn sc := by
  rw [hw0]
  exact ⟨aF _ (aC _ rfl), aC _ (by simp), cB w _ _⟩
 clear hw0
 obtain ⟨b0, b1, b2⟩ := bI hT0.hb rfl rfl rfl
 obtain ⟨s0, s1, s2⟩ := bI hT0.hs rfl rfl rfl
 obtain ⟨zs0, zs1, zs2⟩ := eO hT0.hs
 have hpl := hpl0 w0 (hv.later hT0.below)
 clear hpl0
 by_cases hE : E = 0
 ·subst hE
  go_wp2_with fail
  refine hpl.mono ?_
  rintro e w1 ⟨i, j, rfl, hb1, -, hok⟩
  obtain ⟨hcz, hFA⟩ := hok (by trivial)
  obtain ⟨f1, f2, f3, f4⟩ := cA hcz
  clear hcz hok hpl
  have hT1 := hT0.later hb1
  clear b0 b1 b2 s0 zs0 s1 zs1 s2 zs2
  obtain ⟨b0, b1, b2⟩ := bI hT1.hb rfl rfl rfl
  obtain ⟨s0, s1, s2⟩ := bI hT1.hs rfl rfl rfl
  obtain ⟨zs0, zs1, zs2⟩ := eO hT1.hs
  have hv3 := fun W (hW : Below w.heap.size w W) => dE vid rx rn rc rs sx sn sc ss W (hv.later hW) (by omega) (by omega) (fun i hi => by have := f3 i hi; omega) (fun i hi j hj => by have := f4 i hi j hj; omega)
  go_wp2_with fail
  refine (hv3 _ hT1.below).mono ?_
  rintro e w5 ⟨vR, vS, ts, rfl, hOR, hss, hOS, hb5⟩
  clear hv3
  have hT5 := hT1.later hb5
  have htl : Hid (ts.length = sn) := by unfold Hid; rw [← hss.1]; exact hsl.out
  have hit : i < ts.length := by rw [htl.out]; exact hFA.isn
  have hsi := hss.2 i (by rw [hss.1]; exact hit)
  obtain ⟨hfS, hfl, hfc, hfm⟩ := (hOS.own i hit).fcs
  have hjn : j < (sbAt ts i).n := by rw [← hsi.2.2.2.1]; exact hFA.jn
  have hn8 : (sbAt ts i).n ≤ 8 := by rw [← hsi.2.2.2.1]; exact f3 i hFA.isn
  obtain ⟨xr, cr, rfl, -⟩ := hOR.rs
  obtain ⟨k, hk⟩ : ∃ k, Hid ((sbAt ts i).n = k + 1) := ⟨(sbAt ts i).n - 1, by unfold Hid; omega⟩
  have hjk : j ≤ k := by have := hk.out; omega
  obtain ⟨g, cap, hg5, cur, hgh, hvS⟩ : ∃ g cap, w1.heap.size ≤ g ∧ ∃ cur, w5.heap[g]? = some (.cells cur 78) ∧ vS = .slice (some ⟨g, 0, none⟩) ts.length cap := by
   obtain ⟨x2, c2, hv2, -⟩ := hOS.row.mem
   rcases hOS.row.2 with ⟨hv', -⟩ | ⟨g, cap, cur, hv', hg1, hg2, -⟩
   ·rw [hv'] at hv2; simp only [Value.slice.injEq] at hv2; omega
   ·exact ⟨g, cap, hg1, cur, hg2, hv'⟩
  subst hvS
  obtain ⟨gf, cf, hgf5, curf, hgfh, hcf1, hcf2, hvF⟩ : ∃ gf cf, w1.heap.size ≤ gf ∧ ∃ curf, w5.heap[gf]? = some (.cells curf 80) ∧ k + 1 ≤ cf ∧ cf ≤ 9223372036854775807 ∧ Hid (Value.slice (sbAt ts i).x (sbAt ts i).n (sbAt ts i).c = .slice (some ⟨gf, 0, none⟩) (k + 1) cf) := by
   have hkk := hk.out
   rcases (hOS.own i hit).row.2 with ⟨hv', -⟩ | ⟨gf, cf, curf, hv', hg1, hg2, -⟩
   ·simp only [Value.slice.injEq] at hv'; omega
   ·have h2 := hv'
    simp only [Value.slice.injEq] at h2
    exact ⟨gf, cf, hg1, curf, hg2, by omega, by omega, by unfold Hid; rw [hv', hfl, hkk]⟩
  have hgl : g < w5.heap.size := (Array.getElem?_eq_some_iff.1 hgh).1
  have hgfl : gf < w5.heap.size := (Array.getElem?_eq_some_iff.1 hgfh).1
  clear b0 b1 b2 s0 zs0 s1 zs1 s2 zs2
  go_upto_region 5 with fail
  obtain ⟨w6, hw6⟩ : ∃ w6, w6 = w5.alloc (cZ vid (.slice xr rs.length cr) (.slice (some ⟨g, 0, none⟩) ts.length cap)) := ⟨_, rfl⟩
  rw [← hw6]
  have hb56 : Below w5.heap.size w5 w6 := by rw [hw6]; exact bl1 _ _
  have hn6 : w6.heap[w5.heap.size]? = some (cZ vid (.slice xr rs.length cr) (.slice (some ⟨g, 0, none⟩) ts.length cap)) := by rw [hw6]; exact aC _ rfl
  clear hw6
  have hT6 := hT5.later hb56
  have hg6 := aB hb56 hgh
  have hgf6 := aB hb56 hgfh
  have hOR6 := bN.later hOR hb56
  have hOS6 := jE.later hOS hb56
  have hOF6 := (hOS6.own i hit).row
  rw [hvF.out] at hOF6
  have hx6 : Hid ((Value.slice (sbAt ts i).x (sbAt ts i).n (sbAt ts i).c).ownBlock = some gf) := by unfold Hid; rw [hvF.out]; rfl
  have n2 := aU hn6 2 rfl
  have d3 : w6.cell? ⟨g, i * 4 + 3, none⟩ = some (.slice (some ⟨gf, 0, none⟩) (k + 1) cf) := by
   obtain ⟨x2, c2, he2, -, -, -, hm'⟩ := hOS6.row.mem
   simp only [Value.slice.injEq] at he2
   obtain ⟨b2, o2, he3, -, -, -, c8⟩ := hm' i hit
   rw [← he2.1] at he3
   simp only [Option.some.injEq, Addr.mk.injEq] at he3
   obtain ⟨rfl, rfl, -⟩ := he3
   rw [hvF.out] at c8
   simpa using c8
  have i0 : (0 : Int) ≤ i := by omega
  have i1 : (i : Int) < ts.length := by omega
  have hne1 : g ≠ gf := fun e => by rw [e] at hg6; rw [hg6] at hgf6; simp at hgf6
  have hne2 : w5.heap.size ≠ gf := by omega
  have hfl' : Hid ((sbAt ts i).fs.length = k + 1) := by unfold Hid; rw [hfl, hk.out]
  have hdel := fun W h => ER w1.heap.size gf k cf j (j + 1) (sbAt ts i).fs W h hfl'.out hjk rfl (by have := hk.out; omega) hcf1 hcf2
  rw [show ((j + 1 : Nat) : Int) = (j : Int) + 1 by omega] at hdel
  have hk8 : k ≤ 64 := by have := hk.out; omega
  have hwr : IntKind.i64.wrap ((j : Int) + 1) = (j : Int) + 1 := by rw [IntKind.wrap_i64]; omega
  have hsz1 : w.heap.size + 1 < w1.heap.size := (Array.getElem?_eq_some_iff.1 hT1.hs).1
  have hq1 : w5.heap.size ≠ g := by omega
  have hq2 : w.heap.size + 1 ≠ g := by omega
  have hq3 : w.heap.size + 1 ≠ gf := by omega
  have hq4 : w.heap.size ≤ g := by omega
  have hq5 : w.heap.size ≤ gf := by omega
  have hgk : Hid (k = ((sbAt ts i).fs.take j ++ (sbAt ts i).fs.drop (j + 1)).length) := by
   unfold Hid
   rw [List.length_append, List.length_take, List.length_drop, hfl'.out]
   omega
  have hsub : ∀ f ∈ (sbAt ts i).fs.take j ++ (sbAt ts i).fs.drop (j + 1), f ∈ (sbAt ts i).fs := fun f hf => by
   rcases List.mem_append.1 hf with hf | hf
   ·exact List.mem_of_mem_take hf
   ·exact List.mem_of_mem_drop hf
  have hdel' := hdel w6.drew hOF6.drew
  clear hfS hfl hfc hfm hjn hn8 hsi hdel
  go_region_with (first | (go_at_call 156; refine hdel'.mono ?_; rintro e w7 ⟨rfl, hO7, hg7'⟩; obtain ⟨hg7, hn7, hrow7, e2, d7, df, hgg7⟩ := CN hg7' hn6 hOS6.row hgf6 hg6 hne1 hne2 d3) | fail)
  all_goals obtain ⟨w8, hw8⟩ : ∃ w8, w8 = w7.setCell ⟨g, i * 4 + 3, none⟩ (.slice (some ⟨gf, 0, none⟩) k cf) := ⟨_, rfl⟩
  all_goals rw [← hw8]
  all_goals have hn8 : w8.heap[w5.heap.size]? = some (cZ vid (.slice xr rs.length cr) (.slice (some ⟨g, 0, none⟩) ts.length cap)) := by rw [hw8]; exact (heap_setCell_other _ _ _ _ hq1).trans hn7
  all_goals have hs8 : w8.heap[w.heap.size + 1]? = some (cZ 0 (.slice none 0 0) (.slice none 0 0)) := by rw [hw8]; exact (heap_setCell_other _ _ _ _ hq2).trans (dB hg7 hq3 hT6.hs)
  all_goals have hB8 : Below w.heap.size w w8 := by rw [hw8]; exact (dQ hT6.below hg7 (fun q e => by cases e; exact hq5)).setCell (p := ⟨g, i * 4 + 3, none⟩) hq4 _
  all_goals have hOR8 : bN w8 w1.heap.size (.slice xr rs.length cr) rs := by rw [hw8]; exact (hOR6.kept hg7 (fun q hq e => by subst e; exact hOR6.ne hgf6 (by decide) hq)).putBox hgg7 (by decide)
  all_goals have hrow8 : bY w8 w1.heap.size (.slice (some ⟨g, 0, none⟩) ts.length cap) (ts.set i (bK (sbAt ts i) (some ⟨gf, 0, none⟩) k cf ((sbAt ts i).fs.take j ++ (sbAt ts i).fs.drop (j + 1)))) := by rw [hw8]; exact hrow7.set i hit _ _ _ _
  all_goals have hfa8 : wK w8 w1.heap.size (ts.set i (bK (sbAt ts i) (some ⟨gf, 0, none⟩) k cf ((sbAt ts i).fs.take j ++ (sbAt ts i).fs.drop (j + 1)))) := by rw [hw8]; exact (hOS6.cut hit hg7 hgf6 hx6.out hO7 hsub).keptOf (aJ _ _ _ _) hgg7 (by decide) (by decide)
  all_goals clear hw8 e2 d7 df
  all_goals obtain ⟨m0, m1, m2⟩ := bI hn8 rfl rfl rfl
  all_goals obtain ⟨s0, s1, s2⟩ := bI hs8 rfl rfl rfl
  all_goals obtain ⟨zs0, zs1, zs2⟩ := eO hs8
  all_goals go_wp2
  all_goals refine bodyPost_ret (v := .tuple #[.agg #[.int .i64 vid, .slice xr rs.length cr, .slice (some ⟨g, 0, none⟩) ts.length cap], .int .i64 0]) (by simp [results, Tryz.results104, go_sem, s0, s1, s2]) rfl ?_
  all_goals exact fZ.ok rfl (((hB8.setCell (p := ⟨w.heap.size + 1, 0, none⟩) (Nat.le_add_right _ _) _).setCell (p := ⟨w.heap.size + 1, 1, none⟩) (Nat.le_add_right _ _) _).setCell (p := ⟨w.heap.size + 1, 2, none⟩) (Nat.le_add_right _ _) _) ⟨ts, i, j, _, k, _, hFA, hss, hgk.out, E4.mk (((hOR8.put hsz1).put hsz1).put hsz1) (by omega) (((hrow8.put hsz1).put hsz1).put hsz1) (by omega) (((hfa8.put hsz1).put hsz1).put hsz1) (by omega)⟩
 ·go_wp2_with fail
  refine hpl.mono ?_
  rintro e w1 ⟨i, j, rfl, hb1, hzz, -⟩
  obtain ⟨rfl, rfl⟩ := hzz hE
  have hT1 := hT0.later hb1
  clear b0 b1 b2 s0 zs0 s1 zs1 s2 zs2
  obtain ⟨b0, b1, b2⟩ := bI hT1.hb rfl rfl rfl
  obtain ⟨s0, s1, s2⟩ := bI hT1.hs rfl rfl rfl
  obtain ⟨zs0, zs1, zs2⟩ := eO hT1.hs
  go_wp2
  refine bodyPost_ret (v := .tuple #[.agg #[.int .i64 0, .slice none 0 0, .slice none 0 0], .int .i64 E]) (by simp [results, Tryz.results104, go_sem, s0, s1, s2]) rfl ?_
  exact fZ.err ⟨rfl, hE⟩ (((hT1.below.setCell (p := ⟨w.heap.size + 1, 0, none⟩) (Nat.le_add_right _ _) _).setCell (p := ⟨w.heap.size + 1, 1, none⟩) (Nat.le_add_right _ _) _).setCell (p := ⟨w.heap.size + 1, 2, none⟩) (Nat.le_add_right _ _) _)
def OD (e : Int) (n : Nat) (ps : List Int) (w : World) (r : Ending) (w' : World) : Prop :=
 ∃ v, r = .returned v ∧ Below w.heap.size w w' ∧ ∃ i, i ≤ n ∧ (∀ j, j < i → ¬ e < (bA ps j)) ∧ (i < n → e < (bA ps i)) ∧ dO w' w.heap.size v (ps.take i ++ [e] ++ ps.drop i)
theorem OE (e : Int) (x : Option Addr) (n c : Nat) (ps : List Int) (bf k : Nat) (w : World) (hp : IS w x n ps) (hn : n ≤ 32) (hnc : n ≤ c) (hc63 : c ≤ 9223372036854775807) (hx : (x = none ∧ c = 0) ∨ ∃ b o, x = some ⟨b, o, none⟩)
  (hby : w.cell? ⟨bf, 0, none⟩ = some (.func (.func 155) #[] #[])) :
  Calls Tryz.prog 154 #[.slice x n c, .int .i64 e, .slice (some ⟨bf, 0, none⟩) 1 k] w (OD e n ps w) := by
 have hB2 := cB w (.cells #[.int .i64 e] 3) (.cells #[.slice (some ⟨bf, 0, none⟩) 1 k] 243)
 refine (DQ.2.2.2.2.2.1 _ _ S5 e x n c bf 1 k (flatI ps) (fun i => decide (e < bA ps i)) w hp.rw (pR [e]) hn hnc hc63 hx (mW _ _ x n c ps _ _ (hp.later hB2) (by omega) (fun i hi W hW => ?_) jA.2.2.2.2.2.1.2)).mono ?_
 ·obtain ⟨v, hv, hd⟩ := qW e (bA ps i)
  exact (jA.2.2.2.2.2.1.1 e (bA ps i) v w.heap.size (w.heap.size + 1) bf 1 k W (fun i => (hW.cell (p := ⟨w.heap.size, i, none⟩) (by show w.heap.size < _; simp; omega)).trans (by simp)) (cell_later hW (by simp)) fun W9 h9 => vG e _ v hv bf k W9 (cell_later h9 (cell_later hW (cell_later hB2 hby)))).mono fun _ _ h => ⟨h.1.trans (congrArg (fun t => Ending.returned (.bool t)) hd.symm), h.2⟩
 ·rintro r w1 ⟨v, rfl, hb, i, hi, hlow, hup, ho⟩
  exact ⟨v, rfl, hb, i, hi, fun j hj => of_decide_eq_false (hlow j hj), fun h => of_decide_eq_true (hup h), kQ flatI (fun es => (pQ es).trans (Nat.mul_one _).symm) A4 hp.len hi ho⟩
open Go.RowKit Go.Shelf Go.Maps
theorem qK {D : DataW Unit} (h : w.ownsMap Tryz.prog 3 (plainElem Tryz.prog 3) bm n D) (hb : Below w.heap.size w w') : w'.ownsMap Tryz.prog 3 (plainElem Tryz.prog 3) bm n D := by
 obtain ⟨es, cl, h1, h2⟩ := h
 exact ⟨es, cl, aB hb h1, h2⟩
def KS (s : Sb) (w : World) (e : Ending) (w' : World) : Prop :=
 Below w.heap.size w w' ∧ ((∃ y, e = .returned (.tuple #[.int .i64 y, .bool true]) ∧ oJ s.a s.l y = true ∧ y ∉ allNs s.fs ∧ ∀ z, s.a < z → z < y → z ∈ allNs s.fs) ∨ (e = .returned (.tuple #[.int .i64 0, .bool false]) ∧ ∀ z, oJ s.a s.l z = true → z ∈ allNs s.fs))
theorem KT (s : Sb) (w : World) (hrt : rt s.a s.l = true) (hp : uX w s.x s.n s.fs) (hn : s.n ≤ 64) (hm : ∀ i, i < s.n → (fcAt s.fs i).n ≤ 64)
  (hr : ∀ i, i < s.n → ∀ j, j < (fcAt s.fs i).n → 0 ≤ bA (fcAt s.fs i).ns j ∧ bA (fcAt s.fs i).ns j ≤ 1000000) :
  Calls Tryz.prog 192 #[.agg #[.int .i64 s.id, .int .i64 s.a, .int .i64 s.l, .slice s.x s.n s.c]] w (KS s w) := by
 obtain ⟨h0, h1, h2, h3, h4⟩ := bH hrt
 obtain ⟨s0, s1⟩ := yB h0 h1
 have hus := fun x W => usable_any s.a s.l x W hrt
 go_enter Tryz.func192, Tryz.ntmps192
 go_upto_region 1 with fail
 obtain ⟨w0, hw0⟩ : ∃ w0, w0 = w.alloc (S3 s) := ⟨_, rfl⟩
 rw [← hw0]
 have hB0 : Below w.heap.size w w0 := by rw [hw0]; exact bl1 w _
 have hb0 : w0.heap[w.heap.size]? = some (S3 s) := by rw [hw0]; exact aC _ rfl
 clear hw0
 obtain ⟨c0, c1, c2, c3⟩ := zN hb0 rfl rfl rfl rfl
 have hzz : w.heap.size < w0.heap.size := (Array.getElem?_eq_some_iff.1 hb0).1
 go_wp2_with fail
 refine (yD s.id s.a s.l s.x s.n s.c s.fs w0 (hp.later hB0) hn hm hr).mono ?_
 rintro e w1 ⟨bm, D, rfl, hbm, hO, hC, hb1⟩
 have hb1x := aB hb1 hb0
 have hB1 : Below w.heap.size w w1 := hB0.trans (hb1.mono hB0.size)
 clear c0 c1 c2 c3
 have c1 := aU hb1x 1 rfl
 have hwr : IntKind.i64.wrap (s.a + 1) = s.a + 1 := by rw [IntKind.wrap_i64]; omega
 go_wp2
 clear c1 hwr
 go_loopw [5] (fun i wr => ∃ y : Int, i = .int .i64 y ∧ s.a < y ∧ y ≤ s.a + sp s.l + 1 ∧ (∀ z, s.a < z → z < y → z ∈ allNs s.fs) ∧ wr.ownsMap Tryz.prog 3 (plainElem Tryz.prog 3) bm (allNs s.fs).length D ∧ wr.heap[w.heap.size]? = some (S3 s) ∧ Below w.heap.size w wr) (fun i _ => (s.a + sp s.l + 1 - intOf i).toNat)
 case atStart => exact ⟨s.a + 1, rfl, by omega, by omega, fun z h5 h6 => by omega, hO, hb1x, hB1⟩
 case round =>
  obtain ⟨y, rfl, hy1, hy2, hall, hOr, hbr, hBr⟩ := hrel
  have d1 := aU hbr 1 rfl
  have d2 := aU hbr 2 rfl
  have hcall := hus y wr
  cases hu : oJ s.a s.l y with
  | false =>
   rw [hu] at hcall
   have hHy : Hid (∀ z, oJ s.a s.l z = true → z ∈ allNs s.fs) := fun z hz => by
    simp only [oJ, Bool.and_eq_false_iff, decide_eq_false_iff_not, Bool.and_eq_true, decide_eq_true_eq] at hu hz
    exact hall z hz.1 (by omega)
   clear hall hu
   go_wp2_with fail
   refine hcall.mono ?_
   rintro e w2 ⟨rfl, hb2⟩
   have hB2 := hBr.trans (hb2.mono hBr.size)
   go_wp2
   refine bodyPost_ret (v := .tuple #[.int .i64 0, .bool false]) (by simp [results, Tryz.results192, go_sem]) rfl ?_
   exact ⟨hB2, .inr ⟨rfl, hHy.out⟩⟩
  | true =>
   rw [hu] at hcall
   have hu' : Hid (oJ s.a s.l y = true) := hu
   have hyl : Hid (y < s.a + sp s.l - 1) := by
    simp only [oJ, Bool.and_eq_true, decide_eq_true_eq] at hu
    exact hu.2
   clear hu
   have hkey : keyOf Tryz.prog 3 (.int .i64 y) = some (.int .i64 y) := keyOf_int_mk under_int (eS (by omega) (by omega))
   have hat := hC.at_ y
   have hall' : Hid (∀ z, s.a < z → z < y → z ∈ allNs s.fs) := hall
   clear hall
   by_cases hmem : y ∈ allNs s.fs
   ·have hcn : Hid (((allNs s.fs).count y : Int) ≠ 0) := by
     have := List.count_pos_iff.2 hmem
     unfold Hid
     omega
    have hmem' : Hid (y ∈ allNs s.fs) := hmem
    clear hmem
    go_wp2_with fail
    refine hcall.mono ?_
    rintro e w2 ⟨rfl, hb2⟩
    have hB2 := hBr.trans (hb2.mono hBr.size)
    have hO2 := qK hOr hb2
    have hbx2 := aB hb2 hbr
    have hwr : IntKind.i64.wrap (y + 1) = y + 1 := by rw [IntKind.wrap_i64]; omega
    clear d1 d2 hcall
    go_wp2_with (first | (at_lookup; refine wpList_lookup_own_int _ rfl _ _ 254 rfl 3 3 .i64 key_law under_uses under_int (zero_int _) bm _ _ rfl hO2 _ _ rfl hkey ?_; intro cc hat2 hwc; have hcc : ¬ cc = 0 := (by rw [hat] at hat2; cases hat2; exact hcn.out)) | go_in)
    go_roundw
    case rel => exact ⟨y + 1, by go_num, by omega, by have := hyl.out; omega, fun z h5 h6 => by
     by_cases e : z = y
     ·rw [e]; exact hmem'.out
     ·exact hall'.out z h5 (by omega), hO2, hbx2, hB2⟩
    case measure => simp [intOf]; have := hyl.out; omega
   ·have hcn : Hid ((allNs s.fs).count y = 0) := List.count_eq_zero.2 hmem
    have hmem' : Hid (y ∉ allNs s.fs) := hmem
    clear hmem
    go_wp2_with fail
    refine hcall.mono ?_
    rintro e w2 ⟨rfl, hb2⟩
    have hB2 := hBr.trans (hb2.mono hBr.size)
    have hO2 := qK hOr hb2
    clear d1 d2 hcall
    go_wp2_with (first | (at_lookup; refine wpList_lookup_own_int _ rfl _ _ 254 rfl 3 3 .i64 key_law under_uses under_int (zero_int _) bm _ _ rfl hO2 _ _ rfl hkey ?_; intro cc hat2 hwc; obtain rfl : cc = 0 := (by rw [hat, hcn.out] at hat2; cases hat2; rfl)) | go_in)
    refine bodyPost_ret (v := .tuple #[.int .i64 y, .bool true]) (by simp [results, Tryz.results192, go_sem]) rfl ?_
    exact ⟨hB2, .inl ⟨y, rfl, hu'.out, hmem'.out, hall'.out⟩⟩
structure mY (s : Sb) (y : Int) : Prop where
 use : oJ s.a s.l y = true
 free : y ∉ allNs s.fs
 first : ∀ z, s.a < z → z < y → z ∈ allNs s.fs
def KU (s : Sb) (w : World) (e : Ending) (w' : World) : Prop :=
 Below w.heap.size w w' ∧ ((∃ y, e = .returned (.tuple #[.int .i64 y, .int .i64 0]) ∧ mY s y) ∨ (e = .returned (.tuple #[.int .i64 0, .int .i64 8]) ∧ ∀ z, oJ s.a s.l z = true → z ∈ allNs s.fs))
theorem A7 (s : Sb) (w : World) (hrt : rt s.a s.l = true) (hp : uX w s.x s.n s.fs) (hn : s.n ≤ 64) (hm : ∀ i, i < s.n → (fcAt s.fs i).n ≤ 64)
  (hr : ∀ i, i < s.n → ∀ j, j < (fcAt s.fs i).n → 0 ≤ bA (fcAt s.fs i).ns j ∧ bA (fcAt s.fs i).ns j ≤ 1000000) :
  Calls Tryz.prog 153 #[.agg #[.int .i64 s.id, .int .i64 s.a, .int .i64 s.l, .slice s.x s.n s.c]] w (KU s w) := by
 go_enter Tryz.func153, Tryz.ntmps153
 go_upto_region 1 with fail
 obtain ⟨w0, hw0⟩ : ∃ w0, w0 = w.alloc (S3 s) := ⟨_, rfl⟩
 rw [← hw0]
 have hB0 : Below w.heap.size w w0 := by rw [hw0]; exact bl1 w _
 have hb0 : w0.heap[w.heap.size]? = some (S3 s) := by rw [hw0]; exact aC _ rfl
 clear hw0
 obtain ⟨c0, c1, c2, c3⟩ := zN hb0 rfl rfl rfl rfl
 have hl := KT s w0 hrt (hp.later hB0) hn hm hr
 clear hm hr
 go_wp2_with fail
 refine hl.mono ?_
 rintro e w1 ⟨hb1, h⟩
 have hB1 := hB0.trans (hb1.mono hB0.size)
 clear c0 c1 c2 c3 hl
 rcases h with ⟨y, rfl, h1, h2, h3⟩ | ⟨rfl, h1⟩
 ·have hL : mY s y := ⟨h1, h2, h3⟩
  clear h1 h2 h3
  go_wp2
  refine bodyPost_ret (v := .tuple #[.int .i64 y, .int .i64 0]) (by simp [results, Tryz.results153, go_sem]) rfl ?_
  exact ⟨hB1, .inl ⟨y, rfl, hL⟩⟩
 ·have hH : Hid (∀ z, oJ s.a s.l z = true → z ∈ allNs s.fs) := h1
  clear h1
  go_wp2
  refine bodyPost_ret (v := .tuple #[.int .i64 0, .int .i64 8]) (by simp [results, Tryz.results153, go_sem]) rfl ?_
  exact ⟨hB1, .inr ⟨rfl, hH.out⟩⟩
def eP (s : Sb) (id : Int) (w : World) (e : Ending) (w' : World) : Prop :=
 Below w.heap.size w w' ∧ if dH id 1 65536 = false then e = .returned (.tuple #[.int .i64 0, .int .i64 3]) else if 0 ≤ fstAt s.n (fun i => (fcAt s.fs i).id == id) then e = .returned (.tuple #[.int .i64 0, .int .i64 6]) else if s.n = 8 then e = .returned (.tuple #[.int .i64 0, .int .i64 2]) else
  (∃ y, e = .returned (.tuple #[.int .i64 y, .int .i64 0]) ∧ mY s y) ∨ (e = .returned (.tuple #[.int .i64 0, .int .i64 8]) ∧ ∀ z, oJ s.a s.l z = true → z ∈ allNs s.fs)
theorem eP.c3 {id : Int} (h : dH id 1 65536 = false) (hb : Below w.heap.size w w') : eP s id w (.returned (.tuple #[.int .i64 0, .int .i64 3])) w' := ⟨hb, by rw [if_pos h]⟩
theorem eP.c6 {id : Int} (h : dH id 1 65536 = true) (h2 : 0 ≤ fstAt s.n (fun i => (fcAt s.fs i).id == id)) (hb : Below w.heap.size w w') : eP s id w (.returned (.tuple #[.int .i64 0, .int .i64 6])) w' := ⟨hb, by rw [if_neg (by simp [h]), if_pos h2]⟩
theorem eP.c2 {id : Int} (h : dH id 1 65536 = true) (h2 : ¬ 0 ≤ fstAt s.n (fun i => (fcAt s.fs i).id == id)) (h3 : s.n = 8) (hb : Below w.heap.size w w') : eP s id w (.returned (.tuple #[.int .i64 0, .int .i64 2])) w' := ⟨hb, by rw [if_neg (by simp [h]), if_neg h2, if_pos h3]⟩
theorem eP.c0 {id : Int} (h : dH id 1 65536 = true) (h2 : ¬ 0 ≤ fstAt s.n (fun i => (fcAt s.fs i).id == id)) (h3 : ¬ s.n = 8) (hb : Below w.heap.size w w') (hh : (∃ y, e = .returned (.tuple #[.int .i64 y, .int .i64 0]) ∧ mY s y) ∨ (e = .returned (.tuple #[.int .i64 0, .int .i64 8]) ∧ ∀ z, oJ s.a s.l z = true → z ∈ allNs s.fs)) : eP s id w e w' := ⟨hb, by rw [if_neg (by simp [h]), if_neg h2, if_neg h3]; exact hh⟩
theorem CO (s : Sb) (id : Int) (w : World) (hrt : rt s.a s.l = true) (hp : uX w s.x s.n s.fs) (hn : s.n ≤ 64) (hm : ∀ i, i < s.n → (fcAt s.fs i).n ≤ 64)
  (hr : ∀ i, i < s.n → ∀ j, j < (fcAt s.fs i).n → 0 ≤ bA (fcAt s.fs i).ns j ∧ bA (fcAt s.fs i).ns j ≤ 1000000) :
  Calls Tryz.prog 149 #[.agg #[.int .i64 s.id, .int .i64 s.a, .int .i64 s.l, .slice s.x s.n s.c], .int .i64 id] w (eP s id w) := by
 have hgv := fun W h => A7 s W hrt h hn hm hr
 clear hm hr
 go_enter Tryz.func149, Tryz.ntmps149
 go_upto_region 1 with fail
 obtain ⟨w0, hw0⟩ : ∃ w0, w0 = w.alloc (S3 s) := ⟨_, rfl⟩
 rw [← hw0]
 have hB0 : Below w.heap.size w w0 := by rw [hw0]; exact bl1 w _
 have hb0 : w0.heap[w.heap.size]? = some (S3 s) := by rw [hw0]; exact aC _ rfl
 clear hw0
 obtain ⟨c0, c1, c2, c3⟩ := zN hb0 rfl rfl rfl rfl
 cases hid : dH id 1 65536 with
 | false =>
  have hid' : Hid (dH id 1 65536 = false) := hid
  go_wp2_with fail
  refine (isId_is id false hid _).mono ?_
  rintro e w1 ⟨rfl, rfl⟩
  clear hid
  go_wp2
  refine bodyPost_ret (v := .tuple #[.int .i64 0, .int .i64 3]) (by simp [results, Tryz.results149, go_sem]) rfl ?_
  exact eP.c3 hid'.out hB0
 | true =>
  have hid' : Hid (dH id 1 65536 = true) := hid
  go_wp2_with fail
  refine (isId_is id true hid _).mono ?_
  rintro e w1 ⟨rfl, rfl⟩
  clear hid
  have hfp := qJ s id w1 (hp.later hB0) (by omega)
  generalize hfe : fstAt s.n (fun i => (fcAt s.fs i).id == id) = fp at hfp
  have hfe' : Hid (fstAt s.n (fun i => (fcAt s.fs i).id == id) = fp) := hfe
  clear hfe
  by_cases hge : 0 ≤ fp
  ·go_wp2_with fail
   refine hfp.mono ?_
   rintro e w2 ⟨rfl, hb2⟩
   have hB2 := hB0.trans (hb2.mono hB0.size)
   go_wp2
   refine bodyPost_ret (v := .tuple #[.int .i64 0, .int .i64 6]) (by simp [results, Tryz.results149, go_sem]) rfl ?_
   exact eP.c6 hid'.out (by rw [hfe'.out]; exact hge) hB2
  ·go_wp2_with fail
   refine hfp.mono ?_
   rintro e w2 ⟨rfl, hb2⟩
   have hB2 := hB0.trans (hb2.mono hB0.size)
   have hbx := aB hb2 hb0
   clear c0 c1 c2 c3
   obtain ⟨c0, c1, c2, c3⟩ := zN hbx rfl rfl rfl rfl
   by_cases h8 : s.n = 8
   ·go_wp2
    refine bodyPost_ret (v := .tuple #[.int .i64 0, .int .i64 2]) (by simp [results, Tryz.results149, go_sem]) rfl ?_
    exact eP.c2 hid'.out (by rw [hfe'.out]; omega) h8 hB2
   ·have hl := hgv w2 (hp.later hB2)
    clear hgv
    go_wp2_with fail
    refine hl.mono ?_
    rintro e w3 ⟨hb3, h⟩
    have hB3 := hB2.trans (hb3.mono hB2.size)
    clear c0 c1 c2 c3 hl
    rcases h with ⟨y, rfl, hL⟩ | ⟨rfl, h1⟩
    ·go_wp2
     refine bodyPost_ret (v := .tuple #[.int .i64 y, .int .i64 0]) (by simp [results, Tryz.results149, go_sem]) rfl ?_
     exact eP.c0 hid'.out (by rw [hfe'.out]; omega) h8 hB3 (.inl ⟨y, rfl, hL⟩)
    ·have hH : Hid (∀ z, oJ s.a s.l z = true → z ∈ allNs s.fs) := h1
     clear h1
     go_wp2
     refine bodyPost_ret (v := .tuple #[.int .i64 0, .int .i64 8]) (by simp [results, Tryz.results149, go_sem]) rfl ?_
     exact eP.c0 hid'.out (by rw [hfe'.out]; omega) h8 hB3 (.inr ⟨rfl, hH.out⟩)
theorem kI (h : aV vid rn rs sn ss = 0) : dH vid 1 65536 = true ∧ nG rn rs = true ∧ mN rn rs sn ss = true := by
 unfold aV at h
 split at h
 ·omega
 ·split at h
  ·rename_i hw
   simp only [Bool.and_eq_true] at hw
   exact ⟨hw.1.1, hw.1.2, hw.2⟩
  ·omega
theorem oO (h : aV vid rn rs sn ss = 0) : ∀ i, i < sn → rt (sbAt ss i).a (sbAt ss i).l = true ∧
  ∀ k, k < (sbAt ss i).n → ∀ j, j < (fcAt (sbAt ss i).fs k).n → 0 ≤ bA (fcAt (sbAt ss i).fs k).ns j ∧ bA (fcAt (sbAt ss i).fs k).ns j ≤ 1000000 := fun i hi => by
 obtain ⟨-, -, hs⟩ := kI h
 unfold mN at hs
 rw [Bool.and_eq_true, List.all_eq_true] at hs
 have h1 := hs.1 i (by simpa using hi)
 unfold lU at h1
 simp only [Bool.and_eq_true] at h1
 have hrt := N1 h1.1.1
 refine ⟨hrt, fun k hk j hj => ?_⟩
 have hf := h1.2
 unfold dT at hf
 simp only [Bool.and_eq_true, List.all_eq_true] at hf
 have h2 := hf.1.1 k (by simpa using hk)
 unfold eL at h2
 simp only [Bool.and_eq_true] at h2
 exact EX hrt (R1 h2.2 j hj)
end Go.Proofs.YtndpilfpejfloaaGreat
namespace Go.Proofs.YtndpilfpejfloaaGreat.Z
variable {E E' vid c m : Int} {w w' W W' w6 w7 : World} {V u v vR vS : Value} {ss ts : List Sb} {i base b o g base' rn rc sn sc gf cf n bm : Nat} {cs cur curf : Array Value} {t : TypeId} {rs : List Rg} {rx sx : Option Addr} {x : Obj} {fs gs : List Fc} {s : Sb} {e : Ending} {T : Nat → Bool} {listed : Array Bool} {P : Program} {ops : Array Oper} {Q : Exit → Act → World → Prop} {S C : World → Prop} {oi : Oper} {l : List Oper} {a : Act}
open Go.RowKit
def HM (T : Nat → Bool) (listed : Array Bool) : Prop := ∀ j, listed.getD j false = true → T j = true
theorem HM.back (h : HM T (listed.setIfInBounds i true)) : HM T listed := fun j hj => h j (getD_set_true hj)
theorem HM.at (h : HM T (listed.setIfInBounds i true)) (hi : listed.getD i true = false) : T i = true := by
 refine h i ?_
 have hl : i < listed.size := by
  by_cases e : i < listed.size
  ·exact e
  ·rw [Array.getD_eq_getD_getElem?, Array.getElem?_eq_none (by omega)] at hi
   cases hi
 rw [Array.getD_eq_getD_getElem?, Array.getElem?_setIfInBounds_self_of_lt hl]
 rfl
theorem HM.set (h : HM T listed) (hi : T i = true) : HM T (listed.setIfInBounds i true) := fun j hj => by
 by_cases e : i = j
 ·subst e; exact hi
 ·rw [getD_set_ne false e] at hj
  exact h j hj
def qC (P : Program) (ops : Array Oper) (Q : Exit → Act → World → Prop) (S : World → Prop) (T : Nat → Bool) : Nat → Array Bool → Act → World → Prop
 | 0, listed, a, w => Region.ready .any ops listed = [] ∧ Q .normal a w
 | f + 1, listed, a, w => (Region.ready .any ops listed = [] → Q .normal a w) ∧ ∀ i ∈ Region.ready .any ops listed, wpOp P ops Q i (fun a' w' => (HM T (listed.setIfInBounds i true) → S w') ∧ qC P ops Q S T f (listed.setIfInBounds i true) a' w') a w
theorem oY : ∀ (f : Nat) (listed : Array Bool) (a : Act) (w : World), qC P ops Q S T f listed a w → wpAny P .any ops Q f listed a w
 | 0, _, _, _, h => h
 | f + 1, _, _, _, h => ⟨h.1, fun i hi => wpOp_mono (fun a' w' h' => oY f _ a' w' h'.2) (h.2 i hi)⟩
theorem tQ (hi : ops[i]? = some oi) (hsel : ∀ (j : Nat) (o : Oper) cs b, ops[j]? = some o → o.op ≠ .select cs b)
  (hQ : ∀ d v c a w, Q (.panic c) (Act.put a d v) w → Q (.panic c) a w) (hTi : T i = true) (hC : (∀ w, C w) ∨ ((∀ w, S w → C w) ∧ ∀ j, T j = false → j < ops.size → mG ops ops.size j i = true)) :
  ∀ (f : Nat) (listed : Array Bool) (a : Act) (w : World), nR ops listed → (HM T listed ∨ ∀ w, C w) →
   (∀ j oj, ops[j]? = some oj → j ≠ i → listed.getD j true = false → (∀ e ∈ oj.after, Region.binds .any e = true → e.on ≠ i) → oi.apart ops oj = true) →
   i ∈ Region.ready .any ops listed → YieldsIf P ops C oi v a → (HM T listed → S w) →
   qC P ops Q S T f (listed.setIfInBounds i true) (a.put oi.dst v) w → qC P ops Q S T (f + 1) listed a w := by
 intro f
 have hCw : ∀ (listed : Array Bool) (w : World), (HM T listed ∨ ∀ w, C w) → (HM T listed → S w) → C w := fun listed w ho hS => by
  rcases ho with ho | ho
  ·rcases hC with hC | hC
   ·exact hC w
   ·exact hC.1 w (hS ho)
  ·exact ho w
 induction f with
 | zero =>
  intro listed a w _ ho _ hr hy hS H
  refine ⟨fun h => (by rw [h] at hr; cases hr), fun j hj => ?_⟩
  by_cases hji : j = i
  ·subst hji; exact hy.wpOp hi (hCw listed w ho hS) ⟨fun h => hS h.back, H⟩
  ·have := ready_mono hj hji
   rw [H.1] at this
   cases this
 | succ f ih =>
  intro listed a w hsh ho hfree hr hy hS H
  refine ⟨fun h => (by rw [h] at hr; cases hr), fun j hj => ?_⟩
  by_cases hji : j = i
  ·subst hji; exact hy.wpOp hi (hCw listed w ho hS) ⟨fun h => hS h.back, H⟩
  ·have h1 := H.2 j (ready_mono hj hji)
   obtain ⟨hjun, oj, hoj, hall⟩ := mem_ready.1 hj
   have h0 := (mem_ready.1 hr).1
   have hnot : ∀ e ∈ oj.after, Region.binds .any e = true → e.on ≠ i := fun e he hb heq => by
    have h1 := hall e he hb
    rw [heq, getD_both h0] at h1
    cases h1
   have ho' : HM T (listed.setIfInBounds j true) ∨ ∀ w, C w := by
    rcases hC with hC | hC
    ·exact .inr hC
    ·rcases ho with ho | ho
     ·cases hT : T j with
      | true => exact .inl (ho.set hT)
      | false =>
       have h2 := nS hsh ops.size j i (hC.2 j hT (Array.getElem?_eq_some_iff.1 hoj).1) (fun ok hok e he hb => by
        have : ok = oj := Option.some.inj (hok.symm.trans hoj)
        subst this
        exact hall e he hb)
       rw [getD_both h0] at h2
       cases h2
     ·exact .inr ho
   have h2 := wpOp_putIf hoj (hfree j oj hoj hji hjun hnot) (fun cs b => hsel i oi cs b hi) (fun cs b => hsel j oj cs b hoj) (fun c a w => hQ _ _ c a w) hy h1
   have hfree' : ∀ k ok, ops[k]? = some ok → k ≠ i → (listed.setIfInBounds j true).getD k true = false →
     (∀ e ∈ ok.after, Region.binds .any e = true → e.on ≠ i) → oi.apart ops ok = true := fun k ok hk hki hun hno => by
    refine hfree k ok hk hki ?_ hno
    by_cases hjk : j = k
    ·subst hjk; exact hjun
    ·rw [getD_set_ne true hjk] at hun; exact hun
   refine wpOp_mono (fun a' w' h3 => ⟨fun h => ?_, ih (listed.setIfInBounds j true) a' w' (hsh.set hj) ho' hfree' (ready_mono hr (Ne.symm hji)) h3.1 (fun h => ?_) ?_⟩) h2
   ·exact h3.2.1 (by rw [Array.setIfInBounds_comm _ _ (Ne.symm hji)]; exact h.set hTi)
   ·exact h3.2.1 (by rw [Array.setIfInBounds_comm _ _ (Ne.symm hji)]; exact h.set hTi)
   ·rw [Array.setIfInBounds_comm _ _ hji]
    exact h3.2.2
theorem wR (hsel : Region.noSelect l.toArray = true)
  (hQ : ∀ d v c a w, Q (.panic c) (Act.put a d v) w → Q (.panic c) a w) (D : Array Bool) (hS : S w) :
  ∀ (hs : List Nat) (listed : Array Bool) (a : Act), (∀ i ∈ hs, i < l.length ∧ MU (l.getD i oZ) = true ∧ T i = true ∧ ((∀ w, C w) ∨ ((∀ w, S w → C w) ∧ ∀ j, T j = false → j < l.toArray.size → mG l.toArray l.toArray.size j i = true))) → nR l.toArray listed → (HM T listed ∨ ∀ w, C w) → vX l.toArray hs listed = true → qV hs listed = D →
   wpQuiet P l.toArray C (fun a' => qC P l.toArray Q S T g D a' w) (hs.map fun i => l.getD i oZ) a → qC P l.toArray Q S T (hs.length + g) listed a w
 | [], listed, a, _, hsh, _, _, hd, h => by
  rw [List.length_nil, Nat.zero_add]
  subst hd
  exact h
 | i :: is, listed, a, hh, hsh, ho, hB, hd, h => by
  obtain ⟨hil, hpl, hTi, hwt⟩ := hh i (by simp)
  have h0 := lN hil
  simp only [vX, Bool.and_eq_true] at hB
  have hr : i ∈ Region.ready .any l.toArray listed := by simpa using hB.1.1
  have hq : qOp P l.toArray C i (wpQuiet P l.toArray C (fun a' => qC P l.toArray Q S T g D a' w) (is.map fun i => l.getD i oZ)) a := by unfold qOp; simp only [h0]; exact h
  obtain ⟨v, hy, hKK⟩ := yieldsIn_of_qOp h0 hq
  rw [List.length_cons, show is.length + 1 + g = (is.length + g) + 1 by omega]
  refine tQ h0 (Region.noSelect_spec hsel) hQ hTi hwt (is.length + g) listed a w hsh ho (Region.free_spec h0 hB.1.2) hr (qU hpl hy) (fun _ => hS) ?_
  exact wR hsel hQ D hS is _ _ (fun k hk => hh k (by simp [hk])) (hsh.set hr) (ho.imp (fun g => g.set hTi) id) hB.2 hd hKK
structure Wx : Type where
 val : World
@[simp] theorem Wx.all_const (p : Prop) : (Wx → p) ↔ p := ⟨fun h => h ⟨default⟩, fun h _ => h⟩
theorem Wx.any (w : World) : ∃ u : Wx, w = u.val := ⟨⟨w⟩, rfl⟩
theorem fR {Q Q' : Act → Prop} (h : ∀ a, Q a → Q' a) : ∀ (l : List Oper) (a : Act), wpQuiet P ops C Q l a → wpQuiet P ops C Q' l a
 | [], a, g => h a g
 | o :: l, a, g => by
  unfold wpQuiet at g ⊢
  split
  ·rename_i hw
   rw [if_pos hw] at g
   exact Oper.quiet_mono (fR h l) g
  ·rename_i hw
   rw [if_neg hw] at g
   exact fR h l _ g
theorem aY : ∀ (ts : List Nat) (listed : Array Bool) (a : Act) (w : World), (∀ i ∈ ts, i < l.length ∧ T i = false) →
  zQ l.toArray ts listed = true → wpList P l.toArray Q (ts.map fun i => l.getD i oZ) a w → qC P l.toArray Q S T ts.length listed a w
 | [], _, _, _, _, hB, h => ⟨by simpa [zQ] using hB, h⟩
 | i :: ts, listed, a, w, hh, hB, h => by
  obtain ⟨hil, hT⟩ := hh i (by simp)
  have h0 := lN hil
  simp only [zQ, Bool.and_eq_true, decide_eq_true_eq] at hB
  refine ⟨fun h1 => (by rw [hB.1] at h1; cases h1), fun k hk => ?_⟩
  have hun := (mem_ready.1 hk).1
  rw [hB.1] at hk
  have hik : k = i := by simpa using hk
  subst hik
  have hw : wpOp P l.toArray Q k (wpList P l.toArray Q (ts.map fun i => l.getD i oZ)) a w := by unfold wpOp; simp only [h0]; exact h
  exact wpOp_mono (fun a' w' h' => ⟨fun h => absurd (h.at hun) (by rw [hT]; decide), aY ts _ a' w' (fun i hi => hh i (by simp [hi])) hB.2 h'⟩) hw
def BV (ts : List Nat) (j : Nat) : Bool := !(ts.contains j)
def VV (l : List Oper) (hs : List Nat) (c : Nat) (ps ts : List Nat) : Bool :=
 Region.noSelect l.toArray && AO l.toArray (Array.replicate l.toArray.size false) && vX l.toArray hs (Array.replicate l.toArray.size false) && (hs.all fun i => decide (i < l.length) && MU (l.getD i oZ) && BV ts i && (List.range l.toArray.size).all fun j => BV ts j || mG l.toArray l.toArray.size j i) &&
 decide (Region.ready .any l.toArray (qV hs (Array.replicate l.toArray.size false)) = [c]) && decide (c < l.length) && BV ts c &&
 (ps.all fun i => decide (i < l.length) && MU (l.getD i oZ) && BV ts i) && AO l.toArray ((qV hs (Array.replicate l.toArray.size false)).setIfInBounds c true) && vX l.toArray ps ((qV hs (Array.replicate l.toArray.size false)).setIfInBounds c true) &&
 zQ l.toArray ts (qV ps ((qV hs (Array.replicate l.toArray.size false)).setIfInBounds c true)) && (ts.all fun i => decide (i < l.length) && !(BV ts i)) && decide (hs.length + (ps.length + ts.length + 1) = l.toArray.size)
structure SH (P : Program) (l : List Oper) (Q : Exit → Act → World → Prop) (w : World) (ps ts : List Oper) (K : Act → World → Prop) : Prop where
 out : ∀ a' w', Below w.heap.size w w' → wpQuiet P l.toArray (fun w' => ∃ u : Wx, w' = u.val) (fun a'' => wpList P l.toArray Q ts a'' w') ps a' → K a' w'
end Go.Proofs.YtndpilfpejfloaaGreat.Z
namespace Go.Proofs.YtndpilfpejfloaaGreat
variable {E E' vid c m : Int} {w w' W W' w6 w7 : World} {V u v vR vS : Value} {ss ts : List Sb} {i base b o g base' rn rc sn sc gf cf n bm : Nat} {cs cur curf : Array Value} {t : TypeId} {rs : List Rg} {rx sx : Option Addr} {x : Obj} {fs gs : List Fc} {s : Sb} {e : Ending} {T : Nat → Bool} {listed : Array Bool} {P : Program} {ops : Array Oper} {Q : Exit → Act → World → Prop} {S C : World → Prop} {oi : Oper} {l : List Oper} {a : Act}
open Go.RowKit
theorem aP {id : Nat} (hs : List Nat) (c : Nat) (ps ts : List Nat) (hm : P.follows .mixedOrders = true) (hB : Z.VV l hs c ps ts = true) (hQ : ∀ d v c a w, Q (.panic c) (Act.put a d v) w → Q (.panic c) a w)
  (h : wpQuiet P l.toArray (fun w' => ∃ u : Ws w.heap.size w, w' = u.val) (fun a' => ∀ K, Z.SH P l Q w (ps.map fun i => l.getD i oZ) (ts.map fun i => l.getD i oZ) K → wpList P l.toArray (qD K Q) [l.getD c oZ] a' w.drew) (hs.map fun i => l.getD i oZ) a) : (Code.region id l.toArray true).wp P Q a w := by
 simp only [Z.VV, Bool.and_eq_true, decide_eq_true_eq, List.all_eq_true, Bool.not_eq_true'] at hB
 obtain ⟨⟨⟨⟨⟨⟨⟨⟨⟨⟨⟨⟨h1, h2⟩, h3⟩, h4⟩, h5⟩, h6⟩, h7⟩, h8⟩, h9⟩, h10⟩, h11⟩, h12⟩, h13⟩ := hB
 refine wp_region_any hm (Z.oY (S := fun w' => ∃ u : Ws w.heap.size w, w' = u.val) (T := Z.BV ts) _ _ _ _ ?_)
 have hok : Z.HM (Z.BV ts) (Array.replicate l.toArray.size false) := fun j hj => by
  rw [Array.getD_eq_getD_getElem?, Array.getElem?_replicate] at hj
  split at hj <;> cases hj
 have key : ∀ f, f = hs.length + (ps.length + ts.length + 1) → Z.qC P l.toArray Q (fun w' => ∃ u : Ws w.heap.size w, w' = u.val) (Z.BV ts) f (Array.replicate l.toArray.size false) a w.drew := ?_
 ·exact key _ h13.symm
 intro f hf
 subst hf
 refine Z.wR (C := fun w' => ∃ u : Ws w.heap.size w, w' = u.val) h1 hQ _ ⟨⟨_, (Below.refl _ _).drew⟩, rfl⟩ hs _ _ (fun i hi => ?_) (mF h2) (.inl hok) h3 rfl ?_
 ·obtain ⟨⟨⟨g1, g2⟩, g3⟩, g4⟩ := h4 i hi
  refine ⟨g1, g2, g3, .inr ⟨fun _ g => g, fun j hj hjs => ?_⟩⟩
  have := g4 j (List.mem_range.2 hjs)
  rw [hj, Bool.false_or] at this
  exact this
 refine Z.fR (fun a' g => ?_) _ _ h
 refine ⟨fun e => (by rw [h5] at e; cases e), fun j hj => ?_⟩
 rw [h5] at hj
 obtain rfl : j = c := by simpa using hj
 refine fB h6 (g _ ⟨fun a2 w2 hb2 g2 => ⟨fun _ => ⟨⟨w2, hb2⟩, rfl⟩, ?_⟩⟩)
 refine Z.wR (C := fun w' => ∃ u : Z.Wx, w' = u.val) h1 hQ _ ⟨⟨w2, hb2⟩, rfl⟩ ps _ _ (fun i hi => ?_) (mF h9) (.inr Z.Wx.any) h10 rfl ?_
 ·obtain ⟨⟨g1, g2⟩, g3⟩ := h8 i hi
  exact ⟨g1, g2, g3, .inl Z.Wx.any⟩
 exact Z.fR (fun a3 g3 => Z.aY ts _ _ _ h12 h11 g3) _ _ g2
end Go.Proofs.YtndpilfpejfloaaGreat
