/- A part of the proof. -/
import Derived.Test.YtndpilfpejfloaaGreatMC08
set_option maxRecDepth 100000
set_option maxHeartbeats 20000000
namespace Go.Proofs.YtndpilfpejfloaaGreat
variable {V w w0 w1 w2 W W' w' w6 w7 : World} {b base o n i rn sn g base' rc sc gf cf : Nat} {t : TypeId} {t' vid r E E' c m : Int} {v u vR vS : Value} {rs : List Rg} {ss ts : List Sb} {f : Nat → Bool} {cs cur curf : Array Value} {rx sx : Option Addr} {x : Obj} {fs gs : List Fc}
open Go.RowKit Go.Shelf
abbrev dH (vid : Int) (vR vS : Value) : Obj := .cells #[.int .i64 vid, vR, vS] 41
theorem DH {t : Int} {v' u' : Value} (h : V.heap[b]? = some (dH t v u)) : (((V.setCell ⟨b, 0, none⟩ (.int .i64 t')).setCell ⟨b, 1, none⟩ v').setCell ⟨b, 2, none⟩ u').heap[b]? = some (dH t' v' u') := by
 have h1 := heap_setCell_same V b 0 _ 41 (.int .i64 t') h
 have h2 := heap_setCell_same _ b 1 _ 41 v' h1
 have h3 := heap_setCell_same _ b 2 _ 41 u' h2
 simpa using h3
def T8 (vid : Int) (rs : List Rg) (ss : List Sb) (w : World) (e : Ending) (w' : World) : Prop :=
 ∃ vR vS ts, e = .returned (.agg #[.int .i64 vid, vR, vS]) ∧ bR w' w.heap.size vR rs ∧ bN ss ts ∧ jC w' w.heap.size vS ts ts.length ∧ Below w.heap.size w w'
theorem bR.put (h : bR w base v rs) (hb : b < base) : bR (w.setCell ⟨b, o, none⟩ u) base v rs :=
 h.kept (aH _ _ _ _) (fun k hk => by have := h.lt k hk; omega)
theorem jC.put (h : jC w base v ss ss.length) (hb : b < base) : jC (w.setCell ⟨b, o, none⟩ u) base v ss ss.length :=
 ⟨h.row.kept (aH _ _ _ _) (fun k hk => by have := h.row.lt k hk; omega), fun i hi => (h.own i hi).kept (aH _ _ _ _) (fun k hk => by have := (h.own i hi).row.lt k hk; omega) (fun j hj k hk => by have := ((h.own i hi).own j hj).lt k hk; omega), h.apart⟩
theorem OT (hb : Below (w0.alloc (dH 0 (.slice none 0 0) (.slice none 0 0))).heap.size (w0.alloc (dH 0 (.slice none 0 0) (.slice none 0 0))) w1) (hO : bR w1 (w0.alloc (dH 0 (.slice none 0 0) (.slice none 0 0))).heap.size v rs) : Below w0.heap.size w0 w1 ∧ w1.heap[w0.heap.size]? = some (dH 0 (.slice none 0 0) (.slice none 0 0)) ∧ bR w1 w0.heap.size v rs :=
 ⟨(bl1 w0 _).trans (hb.mono (by simp)), aA hb (aB _ rfl), hO.low (by simp)⟩
theorem OU (hb : Below (w0.alloc (dH 0 (.slice none 0 0) (.slice none 0 0))).heap.size (w0.alloc (dH 0 (.slice none 0 0) (.slice none 0 0))) w1) (hO : cE w1 (w0.alloc (dH 0 (.slice none 0 0) (.slice none 0 0))).heap.size v ss) : Below w0.heap.size w0 w1 ∧ w1.heap[w0.heap.size]? = some (dH 0 (.slice none 0 0) (.slice none 0 0)) ∧ cE w1 w0.heap.size v ss :=
 ⟨(bl1 w0 _).trans (hb.mono (by simp)), aA hb (aB _ rfl), hO.low (by simp)⟩
theorem OV (hy : w2.heap[b]? = some (dH 0 (.slice none 0 0) (.slice none 0 0))) (hb : w0.heap.size ≤ b) (hO1 : bR w2 w0.heap.size vR rs) (hO2 : cE w2 w0.heap.size vS ss) (hB : Below w0.heap.size w0 w2) :
  bR (((w2.setCell ⟨b, 0, none⟩ (.int .i64 vid)).setCell ⟨b, 1, none⟩ vR).setCell ⟨b, 2, none⟩ vS) w0.heap.size vR rs ∧ cE (((w2.setCell ⟨b, 0, none⟩ (.int .i64 vid)).setCell ⟨b, 1, none⟩ vR).setCell ⟨b, 2, none⟩ vS) w0.heap.size vS ss ∧ (((w2.setCell ⟨b, 0, none⟩ (.int .i64 vid)).setCell ⟨b, 1, none⟩ vR).setCell ⟨b, 2, none⟩ vS).heap[b]? = some (dH vid vR vS) ∧ Below w0.heap.size w0 (((w2.setCell ⟨b, 0, none⟩ (.int .i64 vid)).setCell ⟨b, 1, none⟩ vR).setCell ⟨b, 2, none⟩ vS) := by
 have n1 : ∀ k, vR.ownBlock = some k → k ≠ b := fun k hk e => by subst e; exact hO1.ne hy (by decide) hk
 have n2 : ∀ k, vS.ownBlock = some k → k ≠ b := fun k hk e => by subst e; exact hO2.ne hy (by decide) hk
 exact ⟨((hO1.kept (aH _ _ _ _) n1).kept (aH _ _ _ _) n1).kept (aH _ _ _ _) n1, ((hO2.kept (aH _ _ _ _) n2).kept (aH _ _ _ _) n2).kept (aH _ _ _ _) n2, DH hy, ((hB.setCell hb _).setCell hb _).setCell hb _⟩
theorem dI (vid : Int) (rx : Option Addr) (rn rc : Nat) (rs : List Rg) (sx : Option Addr) (sn sc : Nat) (ss : List Sb) (w : World) (hv : Vp w rx rn rc rs sx sn sc ss) (hrn : rn ≤ 64) (hsn : sn ≤ 64) (hm : ∀ i, i < sn → (sbAt ss i).n ≤ 64) (hm2 : ∀ i, i < sn → ∀ j, j < (sbAt ss i).n → (fcAt (sbAt ss i).fs j).n ≤ 64) :
  Calls Tryz.prog 81 #[.agg #[.int .i64 vid, .slice rx rn rc, .slice sx sn sc]] w (T8 vid rs ss w) := by
 have hsl : Hid (ss.length = sn) := hv.subs.len
 go_enter Tryz.func81, Tryz.ntmps81
 go_upto_region 1 with fail
 obtain ⟨w0, hw0⟩ : ∃ w0, w0 = (w.alloc (dH vid (.slice rx rn rc) (.slice sx sn sc))).alloc (dH 0 (.slice none 0 0) (.slice none 0 0)) := ⟨_, rfl⟩
 rw [← hw0]
 have hB0 : Below w.heap.size w w0 := by rw [hw0]; exact cC w _ _
 have hb0 : w0.heap[w.heap.size]? = some (dH vid (.slice rx rn rc) (.slice sx sn sc)) := by rw [hw0]; exact aF _ (aB _ rfl)
 have hr0 : w0.heap[w.heap.size + 1]? = some (dH 0 (.slice none 0 0) (.slice none 0 0)) := by rw [hw0]; exact aB _ (by simp)
 clear hw0
 have hsz : w.heap.size + 1 < w0.heap.size := (zG hr0)
 obtain ⟨kb, -⟩ := aE hb0
 have k0 : w0.cell? ⟨w.heap.size, 0, none⟩ = some (.int .i64 vid) := kb 0
 have k1 : w0.cell? ⟨w.heap.size, 1, none⟩ = some (.slice rx rn rc) := kb 1
 have k2 : w0.cell? ⟨w.heap.size, 2, none⟩ = some (.slice sx sn sc) := kb 2
 clear kb
 have hv0 := hv.later hB0
 have hclR := fun W h => HT rx rn rc rs W h (by omega)
 have hclS := fun W h => HU sx sn sc ss W h (by omega)
 go_cut [3] (fun p wc => ∃ nb vR vS, p = .pointer (some ⟨nb, 0, none⟩) ∧ w0.heap.size ≤ nb ∧ bR wc w0.heap.size vR rs ∧ cE wc w0.heap.size vS ss ∧ wc.heap[nb]? = some (dH vid vR vS) ∧ Below w0.heap.size w0 wc)
 case first =>
  go_region_held3 (fun w' => w'.cell? ⟨w.heap.size, 0, none⟩ = some (.int .i64 vid) ∧ w'.cell? ⟨w.heap.size, 1, none⟩ = some (.slice rx rn rc) ∧ w'.cell? ⟨w.heap.size, 2, none⟩ = some (.slice sx sn sc)) (first | (go_keep; done) | (exact ⟨by assumption, by assumption, by assumption⟩) | (exact ⟨aG (bl1 _ _) (by assumption), aG (bl1 _ _) (by assumption), aG (bl1 _ _) (by assumption)⟩) | (refine ⟨?_, ?_, ?_⟩ <;> (show World.cell? _ _ = _; (repeat rw [bC (by omega)]); assumption))) (first | (go_at_call 123; refine (hclR (w0.alloc (dH 0 (.slice none 0 0) (.slice none 0 0))).drew (hv0.ranges.later (bl1 w0 _).drew)).mono ?_; rintro e w1 ⟨v1, rfl, hO1, hb1⟩; obtain ⟨x1, c1, rfl, -⟩ := hO1.mem; obtain ⟨hbb1, hx, hO1a⟩ := OT (w0 := w0) ⟨hb1.os, hb1.tape, hb1.output, hb1.size, hb1.block⟩ hO1; have m0 := aG hbb1 k0; have m1 := aG hbb1 k1; have m2 := aG hbb1 k2; have hvs := hv0.subs.later hbb1) | (go_at_call 123; refine (hclR _ (by first | exact hv0.ranges | exact hv0.ranges.later (zD).drew)).mono ?_; rintro e w1 ⟨v1, rfl, hO1, hb1⟩; obtain ⟨x1, c1, rfl, -⟩ := hO1.mem; have hbb1 : Below w0.heap.size w0 w1 := ⟨hb1.os, hb1.tape, hb1.output, hb1.size, hb1.block⟩; have m0 := aG hbb1 k0; have m1 := aG hbb1 k1; have m2 := aG hbb1 k2; have hvs := hv0.subs.later hbb1) | (go_at_call 124; refine (hclS (w1.alloc (dH 0 (.slice none 0 0) (.slice none 0 0))) (hvs.later (bl1 w1 _))).mono ?_; rintro e w2 ⟨v2, rfl, hO2, hb2⟩; obtain ⟨x2, c2, rfl, -⟩ := hO2.mem; obtain ⟨hb12, hy, hO2a⟩ := OU (w0 := w1) hb2 hO2; have hbb2 := hbb1.trans (hb12.mono hbb1.size); have n0 := aG hb12 m0; have n1 := aG hb12 m1; have n2 := aG hb12 m2; have hO1' := bR.later hO1 hb12; have hz1 := hbb1.size; have hz2 := hb12.size; have q0 : w2.cell? ⟨w1.heap.size, 0, none⟩ = some (.int .i64 0) := (aE hy).1 0; have q1 : w2.cell? ⟨w1.heap.size, 1, none⟩ = some (.slice none 0 0) := (aE hy).1 1; have q2 : w2.cell? ⟨w1.heap.size, 2, none⟩ = some (.slice none 0 0) := (aE hy).1 2; have f0 : w2.frozen? ⟨w1.heap.size, 0, none⟩ = false := (aE hy).2 0; have f1 : w2.frozen? ⟨w1.heap.size, 1, none⟩ = false := (aE hy).2 1; have f2 : w2.frozen? ⟨w1.heap.size, 2, none⟩ = false := (aE hy).2 2) | (go_at_call 124; refine (hclS w1 hvs).mono ?_; rintro e w2 ⟨v2, rfl, hO2, hb2⟩; obtain ⟨x2, c2, rfl, -⟩ := hO2.mem; have hb12 : Below w1.heap.size w1 w2 := hb2; have hbb2 := hbb1.trans (hb12.mono hbb1.size); have n0 := aG hb12 m0; have n1 := aG hb12 m1; have n2 := aG hb12 m2; have hO1' := bR.later hO1 hb12; have hz1 := hbb1.size; have hz2 := hb12.size; try (have hy : w2.heap[w0.heap.size]? = some (dH 0 (.slice none 0 0) (.slice none 0 0)) := aA hb12 hx; have q0 : w2.cell? ⟨w0.heap.size, 0, none⟩ = some (.int .i64 0) := (aE hy).1 0; have q1 : w2.cell? ⟨w0.heap.size, 1, none⟩ = some (.slice none 0 0) := (aE hy).1 1; have q2 : w2.cell? ⟨w0.heap.size, 2, none⟩ = some (.slice none 0 0) := (aE hy).1 2; have f0 : w2.frozen? ⟨w0.heap.size, 0, none⟩ = false := (aE hy).2 0; have f1 : w2.frozen? ⟨w0.heap.size, 1, none⟩ = false := (aE hy).2 1; have f2 : w2.frozen? ⟨w0.heap.size, 2, none⟩ = false := (aE hy).2 2)) | fail)
  all_goals go_wp2
  all_goals go_meet
  case rel => exact ⟨_, _, _, rfl, Nat.le_trans hz1 hz2, bR.later hO1' (bl1 _ _), (hO2.low hz1).later (bl1 _ _), aB _ rfl, Below.alloc hbb2 hbb2.size _⟩
  case rel => exact ⟨_, _, _, rfl, hz1, OV hy hz1 hO1' (hO2a.low hz1) hbb2⟩
  case rel => exact ⟨_, _, _, rfl, zE, OV hy (zE) (hO1a.later hb12) (hO2.low hz1) hbb2⟩
 case rest =>
  obtain ⟨nb, vR, vS, rfl, hnb, hOR, hOS, hbx, hBc⟩ := hcut
  have hk0 : jC wc w0.heap.size vS ss 0 := ⟨hOS, fun i hi => by omega, fun i j hi => by omega⟩
  obtain ⟨xr, cr, rfl, -⟩ := hOR.mem
  obtain ⟨xv, cv, rfl, -⟩ := hOS.mem
  have e1 := aX hbx 2 rfl
  go_wp2
  clear e1
  go_loopw [17] (fun i wr => ∃ (q : Nat) (ts : List Sb), q ≤ ss.length ∧ i = .int .i64 q ∧ bN ss ts ∧ (∀ i, q ≤ i → sbAt ts i = sbAt ss i) ∧ jC wr w0.heap.size (.slice xv ss.length cv) ts q ∧ bR wr w0.heap.size (.slice xr rs.length cr) rs ∧ wr.heap[nb]? = some (dH vid (.slice xr rs.length cr) (.slice xv ss.length cv)) ∧ Below w0.heap.size w0 wr) (fun i _ => ss.length - (intOf i).toNat)
  case atStart => exact ⟨0, ss, by omega, rfl, bN.refl _, fun _ _ => rfl, hk0, hOR, hbx, hBc⟩
  case round =>
   obtain ⟨q, ts, hq, rfl, hs, htl, hQ, hR, hbr, hBr⟩ := hrel
   obtain ⟨e0, e1, e2⟩ := bL hbr rfl rfl rfl
   by_cases hlt : q < ss.length
   ·have hlq : q < ts.length := by rw [← hs.1]; exact hlt
    have hlt' := hlt
    have hqs : q < sn := by rw [← hsl.out]; exact hlt
    obtain ⟨x2, c2, he2, -, -, -, hm'⟩ := hQ.row.mem
    simp only [Value.slice.injEq] at he2
    obtain ⟨rfl, -, rfl⟩ := he2
    obtain ⟨b2, o2, he3, -, -, -, c8⟩ := hm' q hlq
    rcases hQ.row.2 with ⟨hv', -⟩ | ⟨g, cap, cur, hv', hg1, hg2, -⟩
    ·rw [he3] at hv'; simp at hv'
    simp only [Value.slice.injEq] at hv'
    obtain ⟨hx3, -, rfl⟩ := hv'
    rw [hx3] at he3
    simp only [Option.some.injEq, Addr.mk.injEq] at he3
    obtain ⟨rfl, rfl, -⟩ := he3
    subst hx3
    obtain ⟨hnc, -, hF⟩ := (hv0.subs.later hBr).faces q hqs
    have hm64 := hm q hqs
    have hm264 := hm2 q hqs
    rw [← htl q (zE)] at hnc hF hm64 hm264
    have htl' : Hid (∀ i, q ≤ i → sbAt ts i = sbAt ss i) := htl
    clear htl
    have hcl := fun W h => zL (sbAt ts q).x (sbAt ts q).n (sbAt ts q).c (sbAt ts q).fs W h hm64 hm264
    go_wp2_with fail
    have c8' : wr.cell? ⟨g, q * 4 + 3, none⟩ = some (.slice (sbAt ts q).x (sbAt ts q).n (sbAt ts q).c) := by simpa using c8
    have hne : nb ≠ g := fun e => by rw [e] at hbr; rw [hbr] at hg2; simp at hg2
    go_region_with (first | (go_at_call 125; refine (hcl _ (by first | exact hF | exact hF.later (zD).drew)).mono ?_; rintro e w1 ⟨v1, gs, rfl, hsg, hO1, hb1⟩; obtain ⟨x1, c1, rfl, -⟩ := hO1.row.mem; have hb2 : Below wr.heap.size wr w1 := ⟨hb1.os, hb1.tape, hb1.output, hb1.size, hb1.block⟩; have d1 := aG hb2 e2; have d8 := aG hb2 c8'; have df : w1.frozen? ⟨g, q * 4 + 3, none⟩ = false := (hQ.row.later hb2).frozen _) | fail)
    all_goals have hst := hQ.step (x' := x1) (c' := c1) (gs := gs) hlq hb2 hO1 hBr.size
    all_goals have hh : (w1.setCell ⟨g, q * 4 + 3, none⟩ (.slice x1 gs.length c1)).heap[nb]? = some (dH vid (.slice xr rs.length cr) (.slice (some ⟨g, 0, none⟩) ss.length cv)) := (zB hne).trans (aA hb2 hbr)
    all_goals have hB3 := (hBr.trans (hb2.mono hBr.size)).setCell (p := ⟨g, q * 4 + 3, none⟩) hg1 (.slice x1 gs.length c1)
    all_goals have hRn : bR (w1.setCell ⟨g, q * 4 + 3, none⟩ (.slice x1 gs.length c1)) w0.heap.size (.slice xr rs.length cr) rs := (hR.later hb2).kept (aH _ _ _ _) (fun k hk e => by subst e; exact hR.ne hg2 (by decide) hk)
    all_goals have hss : ∀ i, q + 1 ≤ i → sbAt (ts.set q (bQ (sbAt ts q) x1 gs.length c1 gs)) i = sbAt ss i := fun i hi => by rw [dA hlq, if_neg (by omega)]; exact htl'.out i (by omega)
    all_goals have hsame := hs.set (x := x1) (c := c1) hlq hsg hF.len
    all_goals clear d1 d8 df
    all_goals go_wp2
    all_goals go_roundw
    all_goals first | exact ⟨q + 1, _, hlt', by go_num, hsame, hss, hst, hRn, hh, hB3⟩ | (simp [intOf]; omega)
   ·obtain rfl : q = ss.length := by omega
    have hrr : wr.heap[w.heap.size + 1]? = some (dH 0 (.slice none 0 0) (.slice none 0 0)) := (hBr.block _ hsz).trans hr0
    obtain ⟨r0, r1, r2⟩ := bL hrr rfl rfl rfl
    obtain ⟨z0, z1, z2⟩ := dS hrr
    go_wp2
    refine bodyPost_ret (v := .agg #[.int .i64 vid, .slice xr rs.length cr, .slice xv ss.length cv]) (by simp [results, Tryz.results81, go_sem, r0, r1, r2]) rfl ?_
    have hQ2 : jC wr w0.heap.size (.slice xv ss.length cv) ts ts.length := by rw [← hs.1]; exact hQ
    exact ⟨_, _, ts, rfl, (((hR.put hsz).put hsz).put hsz).low hB0.size, hs, (((hQ2.put hsz).put hsz).put hsz).low hB0.size, (((hB0.trans (hBr.mono hB0.size)).setCell (by simp) _).setCell (by simp) _).setCell (by simp) _⟩
def fstAt (n : Nat) (f : Nat → Bool) : Int := match (List.range n).find? f with | some i => i | none => -1
theorem LE (hi : i < n) (h : f i = true) (hno : ∀ j, j < i → f j = false) : fstAt n f = i := by
 unfold fstAt
 have : (List.range n).find? f = some i := by
  rw [List.find?_range_eq_some]
  exact ⟨h, by simpa using hi, fun j hj => by simp [hno j hj]⟩
 rw [this]
theorem OW (hno : ∀ j, j < n → f j = false) : fstAt n f = -1 := by
 unfold fstAt
 have : (List.range n).find? f = none := by
  rw [List.find?_eq_none]
  intro j hj
  simp [hno j (by simpa using hj)]
 rw [this]
theorem fstAt_cases (n : Nat) (f : Nat → Bool) : (∃ i : Nat, i < n ∧ f i = true ∧ (∀ j, j < i → f j = false) ∧ fstAt n f = i) ∨ ((∀ j, j < n → f j = false) ∧ fstAt n f = -1) := by
 cases h : (List.range n).find? f with
 | none =>
  refine .inr ⟨fun j hj => ?_, by unfold fstAt; rw [h]⟩
  have := List.find?_eq_none.1 h j (by simpa using hj)
  simpa using this
 | some i =>
  obtain ⟨h1, h2, h3⟩ := List.find?_range_eq_some.1 h
  exact .inl ⟨i, by simpa using h2, h1, fun j hj => by simpa using h3 j hj, by unfold fstAt; rw [h]⟩
theorem sY (h : (∃ i : Nat, i < n ∧ f i = true ∧ (∀ j, j < i → f j = false) ∧ r = i) ∨ ((∀ j, j < n → f j = false) ∧ r = -1)) : r = fstAt n f := by
 rcases h with ⟨i, hi, hf, hno, rfl⟩ | ⟨hno, rfl⟩
 ·exact (LE hi hf hno).symm
 ·exact (OW hno).symm
theorem qP (id : Int) (p : Sb) (b : Nat) (w : World) (h0 : w.cell? ⟨b, 0, none⟩ = some (.int .i64 id)) :
  Calls Tryz.prog 182 #[.agg #[.int .i64 p.id, .int .i64 p.a, .int .i64 p.l, .slice p.x p.n p.c], .pointer (some ⟨b, 0, none⟩)] w fun e w' => e = .returned (.bool (p.id == id)) ∧ Below w.heap.size w w' := by
 have k0 : ∀ q, (w.alloc q).cell? ⟨b, 0, none⟩ = some (.int .i64 id) := fun q => cell_later (bl1 w q) h0
 go_enter Tryz.func182, Tryz.ntmps182
 go_wp2
 go_ret
 exact ⟨rfl, bl1 w _⟩
theorem oQ (args : Array Value) (W : World) : (callFunc 182 args).run Tryz.prog W = .ok (.enter 182 args) W := by simp [go_sem]
theorem sZ (vid id : Int) (rx : Option Addr) (rn rc : Nat) (sx : Option Addr) (sn sc : Nat) (ss : List Sb) (w : World) (hp : SS w sx sn ss) (hn : sn ≤ 1048576) :
  Calls Tryz.prog 144 #[.agg #[.int .i64 vid, .slice rx rn rc, .slice sx sn sc], .int .i64 id] w fun e w' => e = .returned (.int .i64 (fstAt sn (fun i => (sbAt ss i).id == id))) ∧ Below w.heap.size w w' := by
 go_enter Tryz.func144, Tryz.ntmps144
 go_wp2_with fail
 refine (nC 182 #[.pointer (some ⟨w.heap.size + 1, 0, none⟩)] sx sn sc ss (fun i => (sbAt ss i).id == id) _ (hp.later (cC w _ _)) hn (fun i _ W hW => qP id (sbAt ss i) (w.heap.size + 1) W (cell_later hW (by simp))) oQ).mono ?_
 rintro e w1 ⟨⟨r, rfl, hr⟩, hb1⟩
 have hrv := sY hr
 subst hrv
 clear hr
 go_wp2
 go_ret
 exact ⟨rfl, (cC w _ _).trans (hb1.mono (by simp; omega))⟩
theorem vU (vid id : Int) (rx : Option Addr) (rn rc : Nat) (sx : Option Addr) (sn sc : Nat) (ss : List Sb) (t : Int) (h : fstAt sn (fun i => (sbAt ss i).id == id) = t) (w : World) (hp : SS w sx sn ss) (hn : sn ≤ 1048576) :
  Calls Tryz.prog 144 #[.agg #[.int .i64 vid, .slice rx rn rc, .slice sx sn sc], .int .i64 id] w fun e w' => e = .returned (.int .i64 t) ∧ Below w.heap.size w w' := by
 subst h
 exact sZ vid id rx rn rc sx sn sc ss w hp hn
theorem zN (id : Int) (p : Fc) (b : Nat) (w : World) (h0 : w.cell? ⟨b, 0, none⟩ = some (.int .i64 id)) :
  Calls Tryz.prog 216 #[.agg #[.int .i64 p.id, .slice p.x p.n p.c], .pointer (some ⟨b, 0, none⟩)] w fun e w' => e = .returned (.bool (p.id == id)) ∧ Below w.heap.size w w' := by
 have k0 : ∀ q, (w.alloc q).cell? ⟨b, 0, none⟩ = some (.int .i64 id) := fun q => cell_later (bl1 w q) h0
 go_enter Tryz.func216, Tryz.ntmps216
 go_wp2
 go_ret
 exact ⟨rfl, bl1 w _⟩
theorem wP (args : Array Value) (W : World) : (callFunc 216 args).run Tryz.prog W = .ok (.enter 216 args) W := by simp [go_sem]
theorem qQ (s : Sb) (id : Int) (w : World) (hp : tL w s.x s.n s.fs) (hn : s.n ≤ 1048576) :
  Calls Tryz.prog 187 #[.agg #[.int .i64 s.id, .int .i64 s.a, .int .i64 s.l, .slice s.x s.n s.c], .int .i64 id] w fun e w' => e = .returned (.int .i64 (fstAt s.n (fun i => (fcAt s.fs i).id == id))) ∧ Below w.heap.size w w' := by
 go_enter Tryz.func187, Tryz.ntmps187
 go_wp2_with fail
 refine (nE 216 #[.pointer (some ⟨w.heap.size + 1, 0, none⟩)] s.x s.n s.c s.fs (fun i => (fcAt s.fs i).id == id) _ (hp.later (cC w _ _)) hn (fun i _ W hW => zN id (fcAt s.fs i) (w.heap.size + 1) W (cell_later hW (by simp))) wP).mono ?_
 rintro e w1 ⟨⟨r, rfl, hr⟩, hb1⟩
 have hrv := sY hr
 subst hrv
 clear hr
 go_wp2
 go_ret
 exact ⟨rfl, (cC w _ _).trans (hb1.mono (by simp; omega))⟩
theorem DI (s : Sb) (id : Int) (t : Int) (h : fstAt s.n (fun i => (fcAt s.fs i).id == id) = t) (w : World) (hp : tL w s.x s.n s.fs) (hn : s.n ≤ 1048576) :
  Calls Tryz.prog 187 #[.agg #[.int .i64 s.id, .int .i64 s.a, .int .i64 s.l, .slice s.x s.n s.c], .int .i64 id] w fun e w' => e = .returned (.int .i64 t) ∧ Below w.heap.size w w' := by
 subst h
 exact qQ s id w hp hn
theorem bR.putBox (h : bR w base v rs) (hb : w.heap[b]? = some (.cells cs t)) (h1 : t ≠ 51) : bR (w.setCell ⟨b, o, none⟩ u) base v rs :=
 h.kept (aH _ _ _ _) (fun k hk e => by subst e; exact h.ne hb h1 hk)
theorem jC.putBox (h : jC w base v ss ss.length) (hb : w.heap[b]? = some (.cells cs t)) (h1 : t ≠ 78) (h2 : t ≠ 80) (h3 : t ≠ 3) : jC (w.setCell ⟨b, o, none⟩ u) base v ss ss.length :=
 ⟨h.row.kept (aH _ _ _ _) (fun k hk e => by subst e; exact h.row.ne hb h1 hk), fun i hi => (h.own i hi).kept_of (aH _ _ _ _) hb h2 h3, h.apart⟩
def SQ (e : Rg) (qs rs : List Rg) : Prop := ∃ i, i ≤ qs.length ∧ (∀ j, j < i → ¬ e.a < (aJ qs j).a) ∧ (i < qs.length → e.a < (aJ qs i).a) ∧ rs = qs.take i ++ [e] ++ qs.drop i
def eV (vid : Int) (rn : Nat) (rs : List Rg) (sn : Nat) (ss : List Sb) (r : Rg) : Int :=
 if aZ vid rn rs sn ss ≠ 0 then aZ vid rn rs sn ss else if BV r = false then 1 else if aL rn (DD rs r.a r.l) = true then 6 else if rn = 4 then 2 else 0
structure TG (w W : World) (vid : Int) (vR vS : Value) (r : Rg) : Prop where
 hb : W.heap[w.heap.size]? = some (dH vid vR vS)
 hp : W.heap[w.heap.size + 1]? = some (.cells #[.int .i64 r.a, .int .i64 r.l, .int .i64 r.p] 51)
 hs : W.heap[w.heap.size + 2]? = some (dH 0 (.slice none 0 0) (.slice none 0 0))
 below : Below w.heap.size w W
theorem TG.later {r : Rg} (h : TG w W vid vR vS r) (hb : Below W.heap.size W W') : TG w W' vid vR vS r :=
 ⟨aA hb h.hb, aA hb h.hp, aA hb h.hs, h.below.trans (hb.mono h.below.size)⟩
theorem cN (h : aZ vid rn rs sn ss = 0) : rn ≤ 4 ∧ sn ≤ 6 ∧ (∀ i, i < sn → (sbAt ss i).n ≤ 8) ∧ ∀ i, i < sn → ∀ j, j < (sbAt ss i).n → (fcAt (sbAt ss i).fs j).n ≤ 4 := by
 unfold aZ at h
 cases hm : cT rn sn ss
 ·exact few hm
 ·rw [hm] at h; simp at h
theorem wQ (g : Nat) (cap : Array Value) (x : Option Addr) (n c : Nat) (ps : List Sb) (f : Nat → Bool) (w : World) (hp : SS w x n ps) (hn : n ≤ 9223372036854775807) (hF : uH g cap n ps f w)
  (hg : ∀ args W, (callFunc g args).run Tryz.prog W = .ok (.enter g args) W) :
  Calls Tryz.prog 180 #[.slice x n c, .func (.func g) #[] cap] w fun e w' => (∃ r : Int, e = .returned (.int .i64 r) ∧ ((∃ i : Nat, i < n ∧ f i = true ∧ (∀ j, j < i → f j = false) ∧ r = i) ∨ ((∀ j, j < n → f j = false) ∧ r = -1))) ∧ Below w.heap.size w w' := (nM.2.2.2.1 g cap x n c _ f w hp.idx (by omega) hF hg).1
theorem wR (g : Nat) (cap : Array Value) (x : Option Addr) (n c : Nat) (ps : List Rg) (f : Nat → Bool) (w : World) (hp : RS w x n ps) (hn : n ≤ 9223372036854775807) (hF : yL g cap n ps f w)
  (hg : ∀ args W, (callFunc g args).run Tryz.prog W = .ok (.enter g args) W) :
  Calls Tryz.prog 138 #[.slice x n c, .func (.func g) #[] cap] w fun e w' => (∃ r : Int, e = .returned (.int .i64 r) ∧ ((∃ i : Nat, i < n ∧ f i = true ∧ (∀ j, j < i → f j = false) ∧ r = i) ∨ ((∀ j, j < n → f j = false) ∧ r = -1))) ∧ Below w.heap.size w w' := (nM.2.2.1 g cap x n c _ f w hp.idx (by omega) hF hg).1
theorem tA (vid id : Int) (rx : Option Addr) (rn rc : Nat) (sx : Option Addr) (sn sc : Nat) (ss : List Sb) (w : World) (hp : SS w sx sn ss) (hn : sn ≤ 9223372036854775807) :
  Calls Tryz.prog 144 #[.agg #[.int .i64 vid, .slice rx rn rc, .slice sx sn sc], .int .i64 id] w fun e w' => e = .returned (.int .i64 (fstAt sn (fun i => (sbAt ss i).id == id))) ∧ Below w.heap.size w w' := by
 go_enter Tryz.func144, Tryz.ntmps144
 go_wp2_with fail
 refine (wQ 182 #[.pointer (some ⟨w.heap.size + 1, 0, none⟩)] sx sn sc ss (fun i => (sbAt ss i).id == id) _ (hp.later (cC w _ _)) hn (fun i _ W hW => qP id (sbAt ss i) (w.heap.size + 1) W (cell_later hW (by simp))) oQ).mono ?_
 rintro e w1 ⟨⟨r, rfl, hr⟩, hb1⟩
 have hrv := sY hr
 subst hrv
 clear hr
 go_wp2
 go_ret
 exact ⟨rfl, (cC w _ _).trans (hb1.mono (by simp; omega))⟩
theorem zO (vid id : Int) (rx : Option Addr) (rn rc : Nat) (sx : Option Addr) (sn sc : Nat) (ss : List Sb) (t : Int) (h : fstAt sn (fun i => (sbAt ss i).id == id) = t) (w : World) (hp : SS w sx sn ss) (hn : sn ≤ 9223372036854775807) :
  Calls Tryz.prog 144 #[.agg #[.int .i64 vid, .slice rx rn rc, .slice sx sn sc], .int .i64 id] w fun e w' => e = .returned (.int .i64 t) ∧ Below w.heap.size w w' := by
 subst h
 exact tA vid id rx rn rc sx sn sc ss w hp hn
def gM (E : Int) (R : World → Value → Prop) (w : World) (e : Ending) (w' : World) : Prop :=
 ∃ V, e = .returned (.tuple #[V, .int .i64 E]) ∧ Below w.heap.size w w' ∧ (E ≠ 0 → V = .agg #[.int .i64 0, .slice none 0 0, .slice none 0 0]) ∧ (E = 0 → R w' V)
theorem gM.err {R : World → Value → Prop} (hE : E = E' ∧ E' ≠ 0) (hb : Below w.heap.size w w') :
  gM E R w (.returned (.tuple #[.agg #[.int .i64 0, .slice none 0 0, .slice none 0 0], .int .i64 E'])) w' :=
 ⟨_, by rw [hE.1], hb, fun _ => rfl, fun h => absurd (hE.1.symm.trans h) hE.2⟩
theorem gM.ok {R : World → Value → Prop} {V : Value} (hE : E = 0) (hb : Below w.heap.size w w') (h : R w' V) :
  gM E R w (.returned (.tuple #[V, .int .i64 0])) w' :=
 ⟨_, by rw [hE], hb, fun h' => absurd hE h', fun _ => h⟩
def WW (w : World) (s : Sb) : Prop := s.n ≤ s.c ∧ s.n ≤ 9223372036854775807 ∧ tL w s.x s.n s.fs
theorem OX (h : i < ss.length) : sbAt ss i ∈ ss := by
 unfold sbAt
 rw [zF, List.getElem?_eq_getElem h]
 exact List.getElem_mem h
theorem cE.put (h : cE w base v ss) (hb : b < base) : cE (w.setCell ⟨b, o, none⟩ u) base v ss :=
 h.kept (aH _ _ _ _) (fun k hk => by have := h.lt k hk; omega)
theorem cE.putBox (h : cE w base v ss) (hb : w.heap[b]? = some (.cells cs t)) (h1 : t ≠ 78) : cE (w.setCell ⟨b, o, none⟩ u) base v ss :=
 h.kept (aH _ _ _ _) (fun k hk e => by subst e; exact h.ne hb h1 hk)
def wS (w : World) (base : Nat) (ss : List Sb) : Prop := ∀ s ∈ ss, mT w base (.slice s.x s.n s.c) s.fs s.fs.length
theorem jC.ofa (h : jC w base v ss ss.length) : wS w base ss := fun s hs => by
 obtain ⟨i, hi, rfl⟩ := List.getElem_of_mem hs
 have e : sbAt ss i = ss[i] := by unfold sbAt; rw [zF, List.getElem?_eq_getElem hi]; rfl
 have := h.own i hi
 rw [e] at this
 exact this
theorem wS.keptOf (h : wS w base ss) (hg : w.grownBy w' (some g)) (hb : w.heap[g]? = some (.cells cur t)) (h1 : t ≠ 80) (h2 : t ≠ 3) : wS w' base ss := fun s hs => (h s hs).kept_of hg hb h1 h2
theorem wS.put (h : wS w base ss) (hb : b < base) : wS (w.setCell ⟨b, o, none⟩ u) base ss := fun s hs =>
 (h s hs).kept (aH _ _ _ _) (fun k hk => by have := (h s hs).row.lt k hk; omega) (fun j hj k hk => by have := ((h s hs).own j hj).lt k hk; omega)
theorem wS.fcb (h : wS w base ss) : ∀ s ∈ ss, WW w s := fun s hs => by
 obtain ⟨g1, g2, g3, g4⟩ := (h s hs).fcs
 exact ⟨g3, Nat.le_trans g3 g4, g1⟩
theorem wS.part (h : wS w base ss) (hs : ∀ s ∈ ts, s ∈ ss) : wS w base ts := fun s hm => h s (hs s hm)
def FU (w : World) (base : Nat) (vid : Int) (v : Value) (rs : List Rg) (ss : List Sb) : Prop := ∃ vR vS, v = .agg #[.int .i64 vid, vR, vS] ∧ bR w base vR rs ∧ cE w base vS ss ∧ wS w base ss
theorem FU.mk {b1 b2 b3 : Nat} (hR : bR w b1 vR rs) (h1 : base ≤ b1) (hS : cE w b2 vS ss) (h2 : base ≤ b2) (hF : wS w b3 ss) (h3 : base ≤ b3) : FU w base vid (.agg #[.int .i64 vid, vR, vS]) rs ss :=
 ⟨vR, vS, rfl, hR.low h1, hS.low h2, fun s hs => (hF s hs).low h3⟩
theorem wS.low (h : wS w base ss) (hb : base' ≤ base) : wS w base' ss := fun s hs => (h s hs).low hb
def OY (e : Sb) (qs rs : List Sb) : Prop := ∃ i, i ≤ qs.length ∧ (∀ j, j < i → ¬ e.id < (sbAt qs j).id) ∧ (i < qs.length → e.id < (sbAt qs i).id) ∧ rs = qs.take i ++ [e] ++ qs.drop i
def rN (vid : Int) (rn : Nat) (rs : List Rg) (sn : Nat) (ss : List Sb) (id c m : Int) : Int :=
 if aZ vid rn rs sn ss ≠ 0 then aZ vid rn rs sn ss else if kU rn rs id c m = false then 3 else if 0 ≤ fstAt sn (fun i => (sbAt ss i).id == id) ∨ aL sn (xB ss c m) = true then 6 else if sn = 6 then 2 else 0
def WN (vid : Int) (rs : List Rg) (ss : List Sb) (id c m : Int) (base : Nat) (w : World) (V : Value) : Prop := ∃ ts ss', FU w base vid V rs ss' ∧ bN ss ts ∧ OY ⟨id, c, m, none, 0, 0, []⟩ ts ss'
structure TU (w W : World) (vid : Int) (rx : Option Addr) (rn rc : Nat) (sx : Option Addr) (sn sc : Nat) (c m : Int) : Prop where
 hb : W.heap[w.heap.size]? = some (.cells #[.int .i64 vid, .slice rx rn rc, .slice sx sn sc] 41)
 hp : W.heap[w.heap.size + 1]? = some (.cells #[.int .i64 c, .int .i64 m] 49)
 hs : W.heap[w.heap.size + 2]? = some (.cells #[.int .i64 0, .slice none 0 0, .slice none 0 0] 41)
 below : Below w.heap.size w W
theorem TU.later (h : TU w W vid rx rn rc sx sn sc c m) (hb : Below W.heap.size W W') : TU w W' vid rx rn rc sx sn sc c m :=
 ⟨aA hb h.hb, aA hb h.hp, aA hb h.hs, h.below.trans (hb.mono h.below.size)⟩
theorem OZ (vid : Int) (rx : Option Addr) (rn rc : Nat) (rs : List Rg) (sx : Option Addr) (sn sc : Nat) (ss : List Sb) (id c m : Int) (w : World) (hv : Vp w rx rn rc rs sx sn sc ss) (hrn : rn ≤ 9223372036854775807) (hsn : sn ≤ 9223372036854775807) (hrc : rc ≤ 9223372036854775807) :
  Calls Tryz.prog 100 #[.agg #[.int .i64 vid, .slice rx rn rc, .slice sx sn sc], .int .i64 id, .agg #[.int .i64 c, .int .i64 m]] w (gM (rN vid rn rs sn ss id c m) (WN vid rs ss id c m w.heap.size) w) := by
 have hsl : Hid (ss.length = sn) := hv.subs.len
 go_enter Tryz.func100, Tryz.ntmps100
 go_upto_region 1 with fail
 obtain ⟨w0, hw0⟩ : ∃ w0, w0 = ((w.alloc (dH vid (.slice rx rn rc) (.slice sx sn sc))).alloc (.cells #[.int .i64 c, .int .i64 m] 49)).alloc (dH 0 (.slice none 0 0) (.slice none 0 0)) := ⟨_, rfl⟩
 rw [← hw0]
 have hT0 : TU w w0 vid rx rn rc sx sn sc c m := by
  rw [hw0]
  exact ⟨aF _ (aF _ (aB _ rfl)), aF _ (aB _ (by simp)), aB _ (by simp), (cC w _ _).alloc (by simp; omega) _⟩
 clear hw0
 obtain ⟨b0, b1, b2⟩ := bL hT0.hb rfl rfl rfl
 obtain ⟨p0, p1⟩ := aR hT0.hp rfl rfl
 obtain ⟨s0, s1, s2⟩ := bL hT0.hs rfl rfl rfl
 obtain ⟨zs0, zs1, zs2⟩ := dS hT0.hs
 have hck := checkV_any vid rx rn rc rs sx sn sc ss w0 (hv.later hT0.below) hrn hsn hrc
 by_cases hc0 : aZ vid rn rs sn ss = 0
 ·rw [hc0] at hck
  obtain ⟨f1, f2, f3, f4⟩ := cN hc0
  have hE1 : Hid (rN vid rn rs sn ss id c m = if kU rn rs id c m = false then 3 else if 0 ≤ fstAt sn (fun i => (sbAt ss i).id == id) ∨ aL sn (xB ss c m) = true then 6 else if sn = 6 then 2 else 0) := if_neg (c := aZ vid rn rs sn ss ≠ 0) (by simp [hc0])
  clear hc0
  go_wp2_with fail
  refine (hck).mono ?_
  rintro e w1 ⟨rfl, hbw1⟩
  have hT1 := hT0.later hbw1
  clear b0 b1 b2 p0 p1 s0 zs0 s1 zs1 s2 zs2
  obtain ⟨b0, b1, b2⟩ := bL hT1.hb rfl rfl rfl
  obtain ⟨p0, p1⟩ := aR hT1.hp rfl rfl
  obtain ⟨s0, s1, s2⟩ := bL hT1.hs rfl rfl rfl
  obtain ⟨zs0, zs1, zs2⟩ := dS hT1.hs
  have hsr := fun t h => lA vid id c m rx sx rn rc sn sc rs t h w1 (hv.later hT1.below).ranges (by omega)
  cases hrg : kU rn rs id c m with
  | false =>
   have hne : rN vid rn rs sn ss id c m = 3 ∧ (3 : Int) ≠ 0 := ⟨hE1.out.trans (if_pos hrg), by decide⟩
   go_wp2_with fail
   refine (hsr _ hrg).mono ?_
   rintro e w2 ⟨rfl, hbw2⟩
   have hT2 := hT1.later hbw2
   clear b0 b1 b2 p0 p1 s0 zs0 s1 zs1 s2 zs2
   obtain ⟨b0, b1, b2⟩ := bL hT2.hb rfl rfl rfl
   obtain ⟨p0, p1⟩ := aR hT2.hp rfl rfl
   obtain ⟨s0, s1, s2⟩ := bL hT2.hs rfl rfl rfl
   obtain ⟨zs0, zs1, zs2⟩ := dS hT2.hs
   go_wp2
   refine bodyPost_ret (v := .tuple #[.agg #[.int .i64 0, .slice none 0 0, .slice none 0 0], .int .i64 3]) (by simp [results, Tryz.results100, go_sem, s0, s1, s2]) rfl ?_
   exact gM.err hne (((hT2.below.setCell (p := ⟨w.heap.size + 2, 0, none⟩) (zA) _).setCell (p := ⟨w.heap.size + 2, 1, none⟩) (zA) _).setCell (p := ⟨w.heap.size + 2, 2, none⟩) (zA) _)
  | true =>
   have hE2 : Hid (rN vid rn rs sn ss id c m = if 0 ≤ fstAt sn (fun i => (sbAt ss i).id == id) ∨ aL sn (xB ss c m) = true then 6 else if sn = 6 then 2 else 0) := hE1.out.trans (if_neg (by simp [hrg]))
   go_wp2_with fail
   refine (hsr _ hrg).mono ?_
   rintro e w2 ⟨rfl, hbw2⟩
   have hT2 := hT1.later hbw2
   clear b0 b1 b2 p0 p1 s0 zs0 s1 zs1 s2 zs2
   obtain ⟨b0, b1, b2⟩ := bL hT2.hb rfl rfl rfl
   obtain ⟨p0, p1⟩ := aR hT2.hp rfl rfl
   obtain ⟨s0, s1, s2⟩ := bL hT2.hs rfl rfl rfl
   obtain ⟨zs0, zs1, zs2⟩ := dS hT2.hs
   have hsp := sZ vid id rx rn rc sx sn sc ss w2 (hv.later hT2.below).subs (by omega)
   generalize hfp : fstAt sn (fun i => (sbAt ss i).id == id) = fp at hsp hE2
   by_cases hge : 0 ≤ fp
   ·have hne : rN vid rn rs sn ss id c m = 6 ∧ (6 : Int) ≠ 0 := ⟨hE2.out.trans (if_pos (.inl hge)), by decide⟩
    go_wp2_with fail
    refine (hsp).mono ?_
    rintro e w3 ⟨rfl, hbw3⟩
    have hT3 := hT2.later hbw3
    clear b0 b1 b2 p0 p1 s0 zs0 s1 zs1 s2 zs2
    obtain ⟨b0, b1, b2⟩ := bL hT3.hb rfl rfl rfl
    obtain ⟨p0, p1⟩ := aR hT3.hp rfl rfl
    obtain ⟨s0, s1, s2⟩ := bL hT3.hs rfl rfl rfl
    obtain ⟨zs0, zs1, zs2⟩ := dS hT3.hs
    go_wp2
    refine bodyPost_ret (v := .tuple #[.agg #[.int .i64 0, .slice none 0 0, .slice none 0 0], .int .i64 6]) (by simp [results, Tryz.results100, go_sem, s0, s1, s2]) rfl ?_
    exact gM.err hne (((hT3.below.setCell (p := ⟨w.heap.size + 2, 0, none⟩) (zA) _).setCell (p := ⟨w.heap.size + 2, 1, none⟩) (zA) _).setCell (p := ⟨w.heap.size + 2, 2, none⟩) (zA) _)
   ·go_wp2_with fail
    refine (hsp).mono ?_
    rintro e w3 ⟨rfl, hbw3⟩
    have hT3 := hT2.later hbw3
    clear b0 b1 b2 p0 p1 s0 zs0 s1 zs1 s2 zs2
    obtain ⟨b0, b1, b2⟩ := bL hT3.hb rfl rfl rfl
    obtain ⟨p0, p1⟩ := aR hT3.hp rfl rfl
    obtain ⟨s0, s1, s2⟩ := bL hT3.hs rfl rfl rfl
    obtain ⟨zs0, zs1, zs2⟩ := dS hT3.hs
    have hmt := sQ c m sx sn sc ss w3 (hv.later hT3.below).subs (by omega)
    cases hany : aL sn (xB ss c m) with
    | true =>
     rw [hany] at hmt
     have hne : rN vid rn rs sn ss id c m = 6 ∧ (6 : Int) ≠ 0 := ⟨hE2.out.trans (if_pos (.inr hany)), by decide⟩
     go_wp2_with fail
     refine (hmt).mono ?_
     rintro e w4 ⟨rfl, hbw4⟩
     have hT4 := hT3.later hbw4
     clear b0 b1 b2 p0 p1 s0 zs0 s1 zs1 s2 zs2
     obtain ⟨b0, b1, b2⟩ := bL hT4.hb rfl rfl rfl
     obtain ⟨p0, p1⟩ := aR hT4.hp rfl rfl
     obtain ⟨s0, s1, s2⟩ := bL hT4.hs rfl rfl rfl
     obtain ⟨zs0, zs1, zs2⟩ := dS hT4.hs
     go_wp2
     refine bodyPost_ret (v := .tuple #[.agg #[.int .i64 0, .slice none 0 0, .slice none 0 0], .int .i64 6]) (by simp [results, Tryz.results100, go_sem, s0, s1, s2]) rfl ?_
     exact gM.err hne (((hT4.below.setCell (p := ⟨w.heap.size + 2, 0, none⟩) (zA) _).setCell (p := ⟨w.heap.size + 2, 1, none⟩) (zA) _).setCell (p := ⟨w.heap.size + 2, 2, none⟩) (zA) _)
    | false =>
     rw [hany] at hmt
     have hE3 : Hid (rN vid rn rs sn ss id c m = if sn = 6 then 2 else 0) := hE2.out.trans (if_neg (by rw [hany]; simp; omega))
     by_cases h6 : sn = 6
     ·subst h6
      have hne : rN vid rn rs 6 ss id c m = 2 ∧ (2 : Int) ≠ 0 := ⟨hE3.out.trans (if_pos rfl), by decide⟩
      go_wp2_with fail
      refine (hmt).mono ?_
      rintro e w4 ⟨rfl, hbw4⟩
      have hT4 := hT3.later hbw4
      clear b0 b1 b2 p0 p1 s0 zs0 s1 zs1 s2 zs2
      obtain ⟨b0, b1, b2⟩ := bL hT4.hb rfl rfl rfl
      obtain ⟨p0, p1⟩ := aR hT4.hp rfl rfl
      obtain ⟨s0, s1, s2⟩ := bL hT4.hs rfl rfl rfl
      obtain ⟨zs0, zs1, zs2⟩ := dS hT4.hs
      go_wp2
      refine bodyPost_ret (v := .tuple #[.agg #[.int .i64 0, .slice none 0 0, .slice none 0 0], .int .i64 2]) (by simp [results, Tryz.results100, go_sem, s0, s1, s2]) rfl ?_
      exact gM.err hne (((hT4.below.setCell (p := ⟨w.heap.size + 2, 0, none⟩) (zA) _).setCell (p := ⟨w.heap.size + 2, 1, none⟩) (zA) _).setCell (p := ⟨w.heap.size + 2, 2, none⟩) (zA) _)
     ·have hE0 : Hid (rN vid rn rs sn ss id c m = 0) := hE3.out.trans (if_neg h6)
      have hv3 := fun W (hW : Below w.heap.size w W) => dI vid rx rn rc rs sx sn sc ss W (hv.later hW) (by omega) (by omega) (fun i hi => by have := f3 i hi; omega) (fun i hi j hj => by have := f4 i hi j hj; omega)
      go_wp2_with fail
      refine (hmt).mono ?_
      rintro e w4 ⟨rfl, hbw4⟩
      have hT4 := hT3.later hbw4
      clear b0 b1 b2 p0 p1 s0 zs0 s1 zs1 s2 zs2
      obtain ⟨b0, b1, b2⟩ := bL hT4.hb rfl rfl rfl
      obtain ⟨p0, p1⟩ := aR hT4.hp rfl rfl
      obtain ⟨s0, s1, s2⟩ := bL hT4.hs rfl rfl rfl
      obtain ⟨zs0, zs1, zs2⟩ := dS hT4.hs
      go_wp2_with fail
      refine (hv3 _ hT4.below).mono ?_
      rintro e w5 ⟨vR, vS, ts, rfl, hOR, hss, hOS, hb5⟩
      have hT5 := hT4.later hb5
      obtain ⟨xr, cr, rfl, -⟩ := hOR.rs
      obtain ⟨xt, ct, rfl, ht1, ht2, ht3⟩ := hOS.subs
      have htl : Hid (ts.length = sn) := by unfold Hid; rw [← hss.1]; exact hsl.out
      have hxt : (xt = none ∧ ct = 0) ∨ ∃ b o, xt = some ⟨b, o, none⟩ := by
       rcases hOS.row.2 with ⟨hv', -⟩ | ⟨g2, cap2, cur2, hv', -⟩
       ·simp only [Value.slice.injEq] at hv'; exact .inl ⟨hv'.1, hv'.2.2⟩
       ·simp only [Value.slice.injEq] at hv'; exact .inr ⟨_, _, hv'.1⟩
      clear b0 b1 b2 p0 p1 s0 zs0 s1 zs1 s2 zs2
      go_upto_region 12 with fail
      obtain ⟨w6, hw6⟩ : ∃ w6, w6 = w5.alloc (dH vid (.slice xr rs.length cr) (.slice xt ts.length ct)) := ⟨_, rfl⟩
      rw [← hw6]
      have hb56 : Below w5.heap.size w5 w6 := by rw [hw6]; exact bl1 _ _
      have hn6 : w6.heap[w5.heap.size]? = some (dH vid (.slice xr rs.length cr) (.slice xt ts.length ct)) := by rw [hw6]; exact aB _ rfl
      clear hw6
      have hT6 := hT5.later hb56
      have n2 := aX hn6 2 rfl
      obtain ⟨p0, p1⟩ := aR hT6.hp rfl rfl
      have hput := fun W (hW : Below w6.heap.size w6 W) hby => OK ⟨id, c, m, none, 0, 0, []⟩ xt ts.length ct ts w6.heap.size 1 W ((ht1.later hb56).later hW) (by rw [htl.out]; omega) ht2 ht3 hxt hby
      go_wp2_with fail
      refine (hput _ (bl1 w6 _) (by simp)).mono ?_
      rintro e w7 ⟨v7, rfl, hb7, i, hi, hlow, hup, hO7⟩
      obtain ⟨qs, hqs⟩ : ∃ qs, Hid (qs = ts.take i ++ [(⟨id, c, m, none, 0, 0, []⟩ : Sb)] ++ ts.drop i) := ⟨_, rfl⟩
      rw [← hqs.out] at hO7
      obtain ⟨x7, c7, rfl, -⟩ := hO7.mem
      have hb67 : Below w6.heap.size w6 w7 := (bl1 w6 _).trans (hb7.mono (by simp))
      have hT7 := hT6.later hb67
      have hn7 := aA hb67 hn6
      have hOS7 := jC.later (jC.later hOS hb56) hb67
      have hOR7 := bR.later (bR.later hOR hb56) hb67
      clear n2 p0 p1
      have hsz4 : w.heap.size + 2 < w4.heap.size := (zG hT4.hs)
      have hz5 : w.heap.size + 2 < w5.heap.size := Nat.lt_of_lt_of_le hsz4 hb5.size
      have hz6 : w.heap.size + 2 < w6.heap.size := Nat.lt_of_lt_of_le hz5 hb56.size
      have m0 := aX hn7 0 rfl
      have m1 := aX hn7 1 rfl
      have m2 := aX hn7 2 rfl
      have zm := (aE hn7).2 2
      obtain ⟨s0, s1, s2⟩ := bL hT7.hs rfl rfl rfl
      obtain ⟨zs0, zs1, zs2⟩ := dS hT7.hs
      go_wp2
      refine bodyPost_ret (v := .tuple #[.agg #[.int .i64 vid, .slice xr rs.length cr, .slice x7 qs.length c7], .int .i64 0]) (by simp [results, Tryz.results100, go_sem, s0, s1, s2]) rfl ?_
      have hfin := (((hT7.below.setCell (p := ⟨w5.heap.size, 2, none⟩) (by show w.heap.size ≤ w5.heap.size; omega) (.slice x7 qs.length c7)).setCell (p := ⟨w.heap.size + 2, 0, none⟩) (zA) (.int .i64 vid)).setCell (p := ⟨w.heap.size + 2, 1, none⟩) (zA) (.slice xr rs.length cr)).setCell (p := ⟨w.heap.size + 2, 2, none⟩) (zA) (.slice x7 qs.length c7)
      have hos := (((hOS7.putBox (o := 2) (u := .slice x7 qs.length c7) hn7 (by decide) (by decide) (by decide)).put (o := 0) (u := .int .i64 vid) hsz4).put (o := 1) (u := .slice xr rs.length cr) hsz4).put (o := 2) (u := .slice x7 qs.length c7) hsz4
      have hor := (((hOR7.putBox (o := 2) (u := .slice x7 qs.length c7) hn7 (by decide)).put (o := 0) (u := .int .i64 vid) hsz4).put (o := 1) (u := .slice xr rs.length cr) hsz4).put (o := 2) (u := .slice x7 qs.length c7) hsz4
      have hoq := ((((hO7.low (base' := w6.heap.size) (by simp)).putBox (o := 2) (u := .slice x7 qs.length c7) hn7 (by decide)).put (o := 0) (u := .int .i64 vid) hz6).put (o := 1) (u := .slice xr rs.length cr) hz6).put (o := 2) (u := .slice x7 qs.length c7) hz6
      refine gM.ok hE0.out hfin ⟨ts, qs, FU.mk (b3 := w4.heap.size) hor (by omega) hoq (by omega) (fun s hs => ?_) (by omega), hss, ⟨i, hi, fun j hj => by have := hlow j hj; simpa using this, hup, hqs.out⟩⟩
      rw [hqs.out] at hs
      simp only [List.mem_append, List.mem_singleton] at hs
      rcases hs with (hs | rfl) | hs
      ·exact hos.ofa s (List.mem_of_mem_take hs)
      ·exact ⟨World.ownsRow_nil _ _ _ _, fun i hi => absurd hi (Nat.not_lt_zero _), fun i _ hi => absurd hi (Nat.not_lt_zero _)⟩
      ·exact hos.ofa s (List.mem_of_mem_drop hs)
 ·have hne : rN vid rn rs sn ss id c m = aZ vid rn rs sn ss ∧ aZ vid rn rs sn ss ≠ 0 := ⟨if_pos hc0, hc0⟩
  go_wp2_with fail
  refine (hck).mono ?_
  rintro e w1 ⟨rfl, hbw1⟩
  have hT1 := hT0.later hbw1
  clear b0 b1 b2 p0 p1 s0 zs0 s1 zs1 s2 zs2
  obtain ⟨b0, b1, b2⟩ := bL hT1.hb rfl rfl rfl
  obtain ⟨p0, p1⟩ := aR hT1.hp rfl rfl
  obtain ⟨s0, s1, s2⟩ := bL hT1.hs rfl rfl rfl
  obtain ⟨zs0, zs1, zs2⟩ := dS hT1.hs
  go_wp2
  refine bodyPost_ret (v := .tuple #[.agg #[.int .i64 0, .slice none 0 0, .slice none 0 0], .int .i64 (aZ vid rn rs sn ss)]) (by simp [results, Tryz.results100, go_sem, s0, s1, s2]) rfl ?_
  exact gM.err hne (((hT1.below.setCell (p := ⟨w.heap.size + 2, 0, none⟩) (zA) _).setCell (p := ⟨w.heap.size + 2, 1, none⟩) (zA) _).setCell (p := ⟨w.heap.size + 2, 2, none⟩) (zA) _)
theorem dD (hg : w.grownBy w' (some g)) (hne : b ≠ g) (hx : w.heap[b]? = some x) : w'.heap[b]? = some x := by
 obtain ⟨-, -, -, -, h⟩ := hg
 exact (h b (zG hx) (fun e => hne (by simpa using e))).trans hx
def lG (vid : Int) (rn : Nat) (rs : List Rg) (sn : Nat) (ss : List Sb) (id : Int) : Int :=
 if aZ vid rn rs sn ss ≠ 0 then aZ vid rn rs sn ss else if fstAt sn (fun i => (sbAt ss i).id == id) < 0 then 5 else if 0 < (sbAt ss (fstAt sn (fun i => (sbAt ss i).id == id)).toNat).n then 9 else 0
def T9 (vid : Int) (rs : List Rg) (ss : List Sb) (id : Int) (base : Nat) (w : World) (V : Value) : Prop := ∃ ts i, bN ss ts ∧ i < ts.length ∧ (sbAt ss i).id = id ∧ (∀ j, j < i → (sbAt ss j).id ≠ id) ∧ FU w base vid V rs (ts.take i ++ ts.drop (i + 1))
structure TN (w W : World) (vid : Int) (rx : Option Addr) (rn rc : Nat) (sx : Option Addr) (sn sc : Nat) : Prop where
 hb : W.heap[w.heap.size]? = some (.cells #[.int .i64 vid, .slice rx rn rc, .slice sx sn sc] 41)
 hs : W.heap[w.heap.size + 1]? = some (.cells #[.int .i64 0, .slice none 0 0, .slice none 0 0] 41)
 below : Below w.heap.size w W
theorem TN.later (h : TN w W vid rx rn rc sx sn sc) (hb : Below W.heap.size W W') : TN w W' vid rx rn rc sx sn sc :=
 ⟨aA hb h.hb, aA hb h.hs, h.below.trans (hb.mono h.below.size)⟩
theorem H8 (vid : Int) (rx : Option Addr) (rn rc : Nat) (rs : List Rg) (sx : Option Addr) (sn sc : Nat) (ss : List Sb) (id : Int) (w : World) (hv : Vp w rx rn rc rs sx sn sc ss) (hrn : rn ≤ 9223372036854775807) (hsn : sn ≤ 9223372036854775807) (hrc : rc ≤ 9223372036854775807) :
  Calls Tryz.prog 101 #[.agg #[.int .i64 vid, .slice rx rn rc, .slice sx sn sc], .int .i64 id] w (gM (lG vid rn rs sn ss id) (T9 vid rs ss id w.heap.size) w) := by
 have hsl : Hid (ss.length = sn) := hv.subs.len
 go_enter Tryz.func101, Tryz.ntmps101
 go_upto_region 1 with fail
 obtain ⟨w0, hw0⟩ : ∃ w0, w0 = (w.alloc (dH vid (.slice rx rn rc) (.slice sx sn sc))).alloc (dH 0 (.slice none 0 0) (.slice none 0 0)) := ⟨_, rfl⟩
 rw [← hw0]
 have hT0 : TN w w0 vid rx rn rc sx sn sc := by
  rw [hw0]
  exact ⟨aF _ (aB _ rfl), aB _ (by simp), cC w _ _⟩
 clear hw0
 obtain ⟨b0, b1, b2⟩ := bL hT0.hb rfl rfl rfl
 obtain ⟨s0, s1, s2⟩ := bL hT0.hs rfl rfl rfl
 obtain ⟨zs0, zs1, zs2⟩ := dS hT0.hs
 have hck := checkV_any vid rx rn rc rs sx sn sc ss w0 (hv.later hT0.below) hrn hsn hrc
 by_cases hc0 : aZ vid rn rs sn ss = 0
 ·rw [hc0] at hck
  obtain ⟨f1, f2, f3, f4⟩ := cN hc0
  have hE1 : Hid (lG vid rn rs sn ss id = if fstAt sn (fun i => (sbAt ss i).id == id) < 0 then 5 else if 0 < (sbAt ss (fstAt sn (fun i => (sbAt ss i).id == id)).toNat).n then 9 else 0) := if_neg (c := aZ vid rn rs sn ss ≠ 0) (by simp [hc0])
  clear hc0
  go_wp2_with fail
  refine (hck).mono ?_
  rintro e w1 ⟨rfl, hbw1⟩
  have hT1 := hT0.later hbw1
  clear b0 b1 b2 s0 zs0 s1 zs1 s2 zs2
  obtain ⟨b0, b1, b2⟩ := bL hT1.hb rfl rfl rfl
  obtain ⟨s0, s1, s2⟩ := bL hT1.hs rfl rfl rfl
  obtain ⟨zs0, zs1, zs2⟩ := dS hT1.hs
  have hsp := fun t h => zO vid id rx rn rc sx sn sc ss t h w1 (hv.later hT1.below).subs hsn
  rcases fstAt_cases sn (fun i => (sbAt ss i).id == id) with ⟨i, hi, hf, hno, hfp⟩ | ⟨-, hfp⟩
  ·have hsp' := hsp _ hfp
   clear hsp
   have hE2 : Hid (lG vid rn rs sn ss id = if 0 < (sbAt ss i).n then 9 else 0) := by
    have := hE1.out
    rw [hfp] at this
    rw [if_neg (by omega)] at this
    unfold Hid
    simpa using this
   clear hfp hE1
   have hHf : Hid ((sbAt ss i).id = id ∧ ∀ j, j < i → (sbAt ss j).id ≠ id) := ⟨by simpa using hf, fun j hj => by simpa using hno j hj⟩
   clear hf hno
   have hi' : Hid (i < sn) := hi
   obtain ⟨b, o, rfl, -, -, -, c3⟩ := hv.subs.cells i hi
   go_wp2_with fail
   refine (hsp').mono ?_
   rintro e w2 ⟨rfl, hbw2⟩
   have hT2 := hT1.later hbw2
   clear b0 b1 b2 s0 zs0 s1 zs1 s2 zs2
   obtain ⟨b0, b1, b2⟩ := bL hT2.hb rfl rfl rfl
   obtain ⟨s0, s1, s2⟩ := bL hT2.hs rfl rfl rfl
   obtain ⟨zs0, zs1, zs2⟩ := dS hT2.hs
   have d3 := cell_later hT2.below c3
   clear c3
   have i0 : (0 : Int) ≤ i := by omega
   have i1 : (i : Int) < sn := by omega
   by_cases hgt : 0 < (sbAt ss i).n
   ·have hne : lG vid rn rs sn ss id = 9 ∧ (9 : Int) ≠ 0 := ⟨hE2.out.trans (if_pos hgt), by decide⟩
    go_wp2
    refine bodyPost_ret (v := .tuple #[.agg #[.int .i64 0, .slice none 0 0, .slice none 0 0], .int .i64 9]) (by simp [results, Tryz.results101, go_sem, s0, s1, s2]) rfl ?_
    exact gM.err hne (((hT2.below.setCell (p := ⟨w.heap.size + 1, 0, none⟩) (zA) _).setCell (p := ⟨w.heap.size + 1, 1, none⟩) (zA) _).setCell (p := ⟨w.heap.size + 1, 2, none⟩) (zA) _)
   ·have hE0 : Hid (lG vid rn rs sn ss id = 0) := hE2.out.trans (if_neg hgt)
    have hv3 := fun W (hW : Below w.heap.size w W) => dI vid rx rn rc rs (some ⟨b, o, none⟩) sn sc ss W (hv.later hW) (by omega) (by omega) (fun i hi => by have := f3 i hi; omega) (fun i hi j hj => by have := f4 i hi j hj; omega)
    go_wp2_with fail
    refine (hv3 _ hT2.below).mono ?_
    rintro e w5 ⟨vR, vS, ts, rfl, hOR, hss, hOS, hb5⟩
    have hT5 := hT2.later hb5
    have htl : ts.length = sn := by rw [← hss.1]; exact hsl.out
    obtain ⟨xr, cr, rfl, -⟩ := hOR.rs
    obtain ⟨k, hk⟩ : ∃ k, ts.length = k + 1 := ⟨ts.length - 1, by have := hi'.out; omega⟩
    have hik : i ≤ k := by have := hi'.out; omega
    obtain ⟨g, cap, hg5, cur, hgh, hcap1, hcap2, hvS⟩ : ∃ g cap, w2.heap.size ≤ g ∧ ∃ cur, w5.heap[g]? = some (.cells cur 78) ∧ k + 1 ≤ cap ∧ cap ≤ 9223372036854775807 ∧ vS = .slice (some ⟨g, 0, none⟩) (k + 1) cap := by
     obtain ⟨x2, c2, hv2, h1, h2, -, -⟩ := hOS.row.mem
     rcases hOS.row.2 with ⟨hv', -⟩ | ⟨g, cap, cur, hv', hg1, hg2, -⟩
     ·rw [hv'] at hv2; simp only [Value.slice.injEq] at hv2; omega
     ·rw [hv'] at hv2
      simp only [Value.slice.injEq] at hv2
      obtain ⟨-, -, rfl⟩ := hv2
      exact ⟨g, cap, hg1, cur, hg2, by omega, h2, by rw [hv', hk]⟩
    subst hvS
    clear b0 b1 b2 s0 zs0 s1 zs1 s2 zs2
    clear d3
    have hgl : g < w5.heap.size := (zG hgh)
    go_upto_region 11 with fail
    obtain ⟨w6, hw6⟩ : ∃ w6, w6 = w5.alloc (dH vid (.slice xr rs.length cr) (.slice (some ⟨g, 0, none⟩) (k + 1) cap)) := ⟨_, rfl⟩
    rw [← hw6]
    have hb56 : Below w5.heap.size w5 w6 := by rw [hw6]; exact bl1 _ _
    have hn6 : w6.heap[w5.heap.size]? = some (dH vid (.slice xr rs.length cr) (.slice (some ⟨g, 0, none⟩) (k + 1) cap)) := by rw [hw6]; exact aB _ rfl
    clear hw6
    have hT6 := hT5.later hb56
    have hg6 := aA hb56 hgh
    have hOR6 := bR.later hOR hb56
    have hOS6 := jC.later hOS hb56
    have n2 := aX hn6 2 rfl
    have hdel := FG w2.heap.size g k cap i (i + 1) ts w6 hOS6.row hk hik rfl (by omega) hcap1 hcap2
    rw [show ((i + 1 : Nat) : Int) = (i : Int) + 1 by omega] at hdel
    go_wp2_with fail
    refine hdel.mono ?_
    rintro e w7 ⟨rfl, hO7, hg7⟩
    clear n2 hdel
    have hsz2 : w.heap.size + 1 < w2.heap.size := (zG hT2.hs)
    have hn7 := dD hg7 (by omega) hn6
    have hs7 := dD hg7 (by omega) hT6.hs
    have hB7 := eP hT6.below hg7 (fun q e => by cases e; omega)
    have hOR7 := hOR6.kept hg7 (fun q hq e => by subst e; exact hOR6.ne hg6 (by decide) hq)
    have hF7 := hOS6.ofa.keptOf hg7 hg6 (by decide) (by decide)
    have m0 := aX hn7 0 rfl
    have m1 := aX hn7 1 rfl
    have m2 := aX hn7 2 rfl
    have zm := (aE hn7).2 2
    obtain ⟨s0, s1, s2⟩ := bL hs7 rfl rfl rfl
    obtain ⟨zs0, zs1, zs2⟩ := dS hs7
    have hw5 : w.heap.size ≤ w5.heap.size := by omega
    go_wp2
    refine bodyPost_ret (v := .tuple #[.agg #[.int .i64 vid, .slice xr rs.length cr, .slice (some ⟨g, 0, none⟩) k cap], .int .i64 0]) (by simp [results, Tryz.results101, go_sem, s0, s1, s2]) rfl ?_
    have hfin := (((hB7.setCell (p := ⟨w5.heap.size, 2, none⟩) hw5 (.slice (some ⟨g, 0, none⟩) k cap)).setCell (p := ⟨w.heap.size + 1, 0, none⟩) (zA) (.int .i64 vid)).setCell (p := ⟨w.heap.size + 1, 1, none⟩) (zA) (.slice xr rs.length cr)).setCell (p := ⟨w.heap.size + 1, 2, none⟩) (zA) (.slice (some ⟨g, 0, none⟩) k cap)
    have hor := (((hOR7.putBox (o := 2) (u := .slice (some ⟨g, 0, none⟩) k cap) hn7 (by decide)).put (o := 0) (u := .int .i64 vid) hsz2).put (o := 1) (u := .slice xr rs.length cr) hsz2).put (o := 2) (u := .slice (some ⟨g, 0, none⟩) k cap) hsz2
    have hoq := (((hO7.putBox (o := 2) (u := .slice (some ⟨g, 0, none⟩) k cap) hn7 (by decide)).put (o := 0) (u := .int .i64 vid) hsz2).put (o := 1) (u := .slice xr rs.length cr) hsz2).put (o := 2) (u := .slice (some ⟨g, 0, none⟩) k cap) hsz2
    have hfa := (((hF7.keptOf (aH _ _ 2 (.slice (some ⟨g, 0, none⟩) k cap)) hn7 (by decide) (by decide)).put (o := 0) (u := .int .i64 vid) hsz2).put (o := 1) (u := .slice xr rs.length cr) hsz2).put (o := 2) (u := .slice (some ⟨g, 0, none⟩) k cap) hsz2
    refine gM.ok hE0.out hfin ⟨ts, i, hss, by omega, hHf.out.1, hHf.out.2, FU.mk (b3 := w2.heap.size) hor (by omega) hoq (by omega) (hfa.part (fun s hs => ?_)) (by omega)⟩
    rcases List.mem_append.1 hs with hs | hs
    ·exact List.mem_of_mem_take hs
    ·exact List.mem_of_mem_drop hs
  ·have hsp' := hsp _ hfp
   have hne : lG vid rn rs sn ss id = 5 ∧ (5 : Int) ≠ 0 := ⟨hE1.out.trans (if_pos (by rw [hfp]; decide)), by decide⟩
   clear hfp hE1 hsp
   go_wp2_with fail
   refine (hsp').mono ?_
   rintro e w2 ⟨rfl, hbw2⟩
   have hT2 := hT1.later hbw2
   clear b0 b1 b2 s0 zs0 s1 zs1 s2 zs2
   obtain ⟨b0, b1, b2⟩ := bL hT2.hb rfl rfl rfl
   obtain ⟨s0, s1, s2⟩ := bL hT2.hs rfl rfl rfl
   obtain ⟨zs0, zs1, zs2⟩ := dS hT2.hs
   go_wp2
   refine bodyPost_ret (v := .tuple #[.agg #[.int .i64 0, .slice none 0 0, .slice none 0 0], .int .i64 5]) (by simp [results, Tryz.results101, go_sem, s0, s1, s2]) rfl ?_
   exact gM.err hne (((hT2.below.setCell (p := ⟨w.heap.size + 1, 0, none⟩) (zA) _).setCell (p := ⟨w.heap.size + 1, 1, none⟩) (zA) _).setCell (p := ⟨w.heap.size + 1, 2, none⟩) (zA) _)
 ·have hne : lG vid rn rs sn ss id = aZ vid rn rs sn ss ∧ aZ vid rn rs sn ss ≠ 0 := ⟨if_pos hc0, hc0⟩
  go_wp2_with fail
  refine (hck).mono ?_
  rintro e w1 ⟨rfl, hbw1⟩
  have hT1 := hT0.later hbw1
  clear b0 b1 b2 s0 zs0 s1 zs1 s2 zs2
  obtain ⟨b0, b1, b2⟩ := bL hT1.hb rfl rfl rfl
  obtain ⟨s0, s1, s2⟩ := bL hT1.hs rfl rfl rfl
  obtain ⟨zs0, zs1, zs2⟩ := dS hT1.hs
  have hsp := tA vid id rx rn rc sx sn sc ss w1 (hv.later hT1.below).subs hsn
  generalize fstAt sn (fun i => (sbAt ss i).id == id) = fp at hsp
  go_wp2_with fail
  refine (hsp).mono ?_
  rintro e w2 ⟨rfl, hbw2⟩
  have hT2 := hT1.later hbw2
  clear b0 b1 b2 s0 zs0 s1 zs1 s2 zs2
  obtain ⟨b0, b1, b2⟩ := bL hT2.hb rfl rfl rfl
  obtain ⟨s0, s1, s2⟩ := bL hT2.hs rfl rfl rfl
  obtain ⟨zs0, zs1, zs2⟩ := dS hT2.hs
  go_wp2
  refine bodyPost_ret (v := .tuple #[.agg #[.int .i64 0, .slice none 0 0, .slice none 0 0], .int .i64 (aZ vid rn rs sn ss)]) (by simp [results, Tryz.results101, go_sem, s0, s1, s2]) rfl ?_
  exact gM.err hne (((hT2.below.setCell (p := ⟨w.heap.size + 1, 0, none⟩) (zA) _).setCell (p := ⟨w.heap.size + 1, 1, none⟩) (zA) _).setCell (p := ⟨w.heap.size + 1, 2, none⟩) (zA) _)
theorem LF (c m : Int) (p : Rg) (b : Nat) (w : World) (h0 : w.cell? ⟨b, 0, none⟩ = some (.int .i64 c)) (h1 : w.cell? ⟨b, 1, none⟩ = some (.int .i64 m)) :
  Calls Tryz.prog 139 #[.agg #[.int .i64 p.a, .int .i64 p.l, .int .i64 p.p], .pointer (some ⟨b, 0, none⟩)] w fun e w' => e = .returned (.bool (decide (p.a = c) && decide (p.l = m))) ∧ Below w.heap.size w w' := by
 have k0 : ∀ q, (w.alloc q).cell? ⟨b, 0, none⟩ = some (.int .i64 c) := fun q => cell_later (bl1 w q) h0
 have k1 : ∀ q, (w.alloc q).cell? ⟨b, 1, none⟩ = some (.int .i64 m) := fun q => cell_later (bl1 w q) h1
 have he := fun W => BG p.a p.l c m W
 have hg := fun x y W => rY .eql x y #[.int .i64 p.a, .int .i64 p.l] #[.int .i64 c, .int .i64 m] W
 go_enter Tryz.func139, Tryz.ntmps139
 go_wp2
 go_ret
 exact ⟨rfl, bl1 w _⟩
theorem H9 (args : Array Value) (W : World) : (callFunc 139 args).run Tryz.prog W = .ok (.enter 139 args) W := by simp [go_sem]
theorem LG (c m : Int) (p : Sb) (b : Nat) (w : World) (h0 : w.cell? ⟨b, 0, none⟩ = some (.int .i64 c)) (h1 : w.cell? ⟨b, 1, none⟩ = some (.int .i64 m)) :
  Calls Tryz.prog 141 #[.agg #[.int .i64 p.id, .int .i64 p.a, .int .i64 p.l, .slice p.x p.n p.c], .pointer (some ⟨b, 0, none⟩)] w fun e w' => e = .returned (.bool (jA p.a p.l c m)) ∧ Below w.heap.size w w' := by
 have k0 : ∀ q, (w.alloc q).cell? ⟨b, 0, none⟩ = some (.int .i64 c) := fun q => cell_later (bl1 w q) h0
 have k1 : ∀ q, (w.alloc q).cell? ⟨b, 1, none⟩ = some (.int .i64 m) := fun q => cell_later (bl1 w q) h1
 go_enter Tryz.func141, Tryz.ntmps141
 go_wp2_with (go_at_call 26; refine (inside_any _ _ _ _ _).mono ?_; rintro e w1 ⟨rfl, hb1⟩)
 go_ret
 exact ⟨rfl, (bl1 w _).trans (hb1.mono (by simp))⟩
theorem IA (args : Array Value) (W : World) : (callFunc 141 args).run Tryz.prog W = .ok (.enter 141 args) W := by simp [go_sem]
def rpB (rs : List Rg) (c m : Int) (i : Nat) : Bool := decide ((aJ rs i).a = c) && decide ((aJ rs i).l = m)
def UA (ss : List Sb) (c m : Int) (i : Nat) : Bool := jA (sbAt ss i).a (sbAt ss i).l c m
theorem BZ (c m : Int) (b : Nat) (x : Option Addr) (n k : Nat) (rs : List Rg) (t : Int) (h : fstAt n (rpB rs c m) = t) (w : World) (hp : RS w x n rs) (hn : n ≤ 9223372036854775807) (h0 : w.cell? ⟨b, 0, none⟩ = some (.int .i64 c)) (h1 : w.cell? ⟨b, 1, none⟩ = some (.int .i64 m)) :
  Calls Tryz.prog 138 #[.slice x n k, .func (.func 139) #[] #[.pointer (some ⟨b, 0, none⟩)]] w fun e w' => e = .returned (.int .i64 t) ∧ Below w.heap.size w w' := by
 refine (wR 139 #[.pointer (some ⟨b, 0, none⟩)] x n k rs (rpB rs c m) w hp hn (fun i _ W hW => LF c m (aJ rs i) b W (cell_later hW h0) (cell_later hW h1)) H9).mono ?_
 rintro e w' ⟨⟨r, rfl, hr⟩, hb⟩
 exact ⟨by rw [sY hr, h], hb⟩
theorem IB (c m : Int) (b : Nat) (x : Option Addr) (n k : Nat) (ss : List Sb) (t : Bool) (h : aL n (UA ss c m) = t) (w : World) (hp : SS w x n ss) (hn : n ≤ 1048576) (h0 : w.cell? ⟨b, 0, none⟩ = some (.int .i64 c)) (h1 : w.cell? ⟨b, 1, none⟩ = some (.int .i64 m)) :
  Calls Tryz.prog 140 #[.slice x n k, .func (.func 141) #[] #[.pointer (some ⟨b, 0, none⟩)]] w fun e w' => e = .returned (.bool t) ∧ Below w.heap.size w w' := by
 subst h
 exact fQ 141 #[.pointer (some ⟨b, 0, none⟩)] x n k ss (UA ss c m) w hp hn (fun i _ W hW => LG c m (sbAt ss i) b W (cell_later hW h0) (cell_later hW h1)) IA
theorem LH (W : World) (a : Addr) : W.drew.cell? a = W.cell? a := rfl
def gU (vid : Int) (rn : Nat) (rs : List Rg) (sn : Nat) (ss : List Sb) (c m : Int) : Int :=
 if aZ vid rn rs sn ss ≠ 0 then aZ vid rn rs sn ss else if fstAt rn (rpB rs c m) < 0 then 5 else if aL sn (UA ss c m) = true then 9 else 0
def kI (vid : Int) (rn : Nat) (rs : List Rg) (sn : Nat) (ss : List Sb) (c m : Int) (w : World) (e : Ending) (w' : World) : Prop :=
 ∃ V r, e = .returned (.tuple #[V, .agg #[.int .i64 (Rg.a r), .int .i64 r.l, .int .i64 r.p], .int .i64 (gU vid rn rs sn ss c m)]) ∧ Below w.heap.size w w' ∧ (gU vid rn rs sn ss c m ≠ 0 → V = .agg #[.int .i64 0, .slice none 0 0, .slice none 0 0] ∧ r = ⟨0, 0, 0⟩) ∧
  (gU vid rn rs sn ss c m = 0 → ∃ ts i, bN ss ts ∧ i < rn ∧ rpB rs c m i = true ∧ (∀ j, j < i → rpB rs c m j = false) ∧ r = aJ rs i ∧ FU w' w.heap.size vid V (rs.take i ++ rs.drop (i + 1)) ts)
theorem kI.err (hE : gU vid rn rs sn ss c m = E ∧ E ≠ 0) (hb : Below w.heap.size w w') :
  kI vid rn rs sn ss c m w (.returned (.tuple #[.agg #[.int .i64 0, .slice none 0 0, .slice none 0 0], .agg #[.int .i64 0, .int .i64 0, .int .i64 0], .int .i64 E])) w' :=
 ⟨_, ⟨0, 0, 0⟩, by rw [hE.1], hb, fun _ => ⟨rfl, rfl⟩, fun h => absurd (hE.1.symm.trans h) hE.2⟩
structure TD (w W : World) (vid : Int) (rx : Option Addr) (rn rc : Nat) (sx : Option Addr) (sn sc : Nat) (c m : Int) : Prop where
 hb : W.heap[w.heap.size]? = some (.cells #[.int .i64 vid, .slice rx rn rc, .slice sx sn sc] 41)
 hp : W.heap[w.heap.size + 1]? = some (.cells #[.int .i64 c, .int .i64 m] 49)
 hs : W.heap[w.heap.size + 2]? = some (.cells #[.int .i64 0, .slice none 0 0, .slice none 0 0] 41)
 hg : W.heap[w.heap.size + 3]? = some (.cells #[.int .i64 0, .int .i64 0, .int .i64 0] 51)
 below : Below w.heap.size w W
theorem TD.later (h : TD w W vid rx rn rc sx sn sc c m) (hb : Below W.heap.size W W') : TD w W' vid rx rn rc sx sn sc c m :=
 ⟨aA hb h.hb, aA hb h.hp, aA hb h.hs, aA hb h.hg, h.below.trans (hb.mono h.below.size)⟩
theorem LI (vid : Int) (rx : Option Addr) (rn rc : Nat) (rs : List Rg) (sx : Option Addr) (sn sc : Nat) (ss : List Sb) (c m : Int) (w : World) (hv : Vp w rx rn rc rs sx sn sc ss) (hrn : rn ≤ 9223372036854775807) (hsn : sn ≤ 9223372036854775807) (hrc : rc ≤ 9223372036854775807) :
  Calls Tryz.prog 99 #[.agg #[.int .i64 vid, .slice rx rn rc, .slice sx sn sc], .agg #[.int .i64 c, .int .i64 m]] w (kI vid rn rs sn ss c m w) := by
 have hrl : Hid (rs.length = rn) := hv.ranges.len
 go_enter Tryz.func99, Tryz.ntmps99
 go_upto_region 1 with fail
 obtain ⟨w0, hw0⟩ : ∃ w0, w0 = (((w.alloc (dH vid (.slice rx rn rc) (.slice sx sn sc))).alloc (.cells #[.int .i64 c, .int .i64 m] 49)).alloc (dH 0 (.slice none 0 0) (.slice none 0 0))).alloc (.cells #[.int .i64 0, .int .i64 0, .int .i64 0] 51) := ⟨_, rfl⟩
 rw [← hw0]
 have hT0 : TD w w0 vid rx rn rc sx sn sc c m := by
  rw [hw0]
  exact ⟨aF _ (aF _ (aF _ (aB _ rfl))), aF _ (aF _ (aB _ (by simp))), aF _ (aB _ (by simp)), aB _ (by simp), ((cC w _ _).alloc (by simp; omega) _).alloc (by simp; omega) _⟩
 clear hw0
 obtain ⟨b0, b1, b2⟩ := bL hT0.hb rfl rfl rfl
 obtain ⟨p0, p1⟩ := aR hT0.hp rfl rfl
 obtain ⟨s0, s1, s2⟩ := bL hT0.hs rfl rfl rfl
 obtain ⟨zs0, zs1, zs2⟩ := dS hT0.hs
 obtain ⟨g0, g1, g2⟩ := bL hT0.hg rfl rfl rfl
 obtain ⟨zg0, zg1, zg2⟩ := dS hT0.hg
 have hck := checkV_any vid rx rn rc rs sx sn sc ss w0 (hv.later hT0.below) hrn hsn hrc
 by_cases hc0 : aZ vid rn rs sn ss = 0
 ·rw [hc0] at hck
  obtain ⟨f1, f2, f3, f4⟩ := cN hc0
  have hE1 : Hid (gU vid rn rs sn ss c m = if fstAt rn (rpB rs c m) < 0 then 5 else if aL sn (UA ss c m) = true then 9 else 0) := if_neg (c := aZ vid rn rs sn ss ≠ 0) (by simp [hc0])
  clear hc0
  go_wp2_with fail
  refine (hck).mono ?_
  rintro e w1 ⟨rfl, hbw1⟩
  have hT1 := hT0.later hbw1
  clear b0 b1 b2 p0 p1 s0 zs0 s1 zs1 s2 zs2 g0 zg0 g1 zg1 g2 zg2
  obtain ⟨b0, b1, b2⟩ := bL hT1.hb rfl rfl rfl
  obtain ⟨p0, p1⟩ := aR hT1.hp rfl rfl
  obtain ⟨s0, s1, s2⟩ := bL hT1.hs rfl rfl rfl
  obtain ⟨zs0, zs1, zs2⟩ := dS hT1.hs
  obtain ⟨g0, g1, g2⟩ := bL hT1.hg rfl rfl rfl
  obtain ⟨zg0, zg1, zg2⟩ := dS hT1.hg
  have hsp := fun t h => BZ c m (w.heap.size + 1) rx rn rc rs t h w1 (hv.later hT1.below).ranges hrn p0 p1
  rcases fstAt_cases rn (rpB rs c m) with ⟨i, hi, hf, hno, hfp⟩ | ⟨-, hfp⟩
  ·have hsp' := hsp _ hfp
   clear hsp
   have hE2 : Hid (gU vid rn rs sn ss c m = if aL sn (UA ss c m) = true then 9 else 0) := by
    have := hE1.out
    rw [hfp] at this
    rw [if_neg (by omega)] at this
    exact this
   clear hfp hE1
   have hHf : Hid (rpB rs c m i = true ∧ ∀ j, j < i → rpB rs c m j = false) := ⟨hf, hno⟩
   clear hf hno
   have hi' : Hid (i < rn) := hi
   obtain ⟨b, o, rfl, r0, r1, r2⟩ := hv.ranges.cells i hi
   have hbw : Hid (b < w.heap.size) := block_lt_of_cell r0
   go_wp2_with fail
   refine (hsp').mono ?_
   rintro e w2 ⟨rfl, hbw2⟩
   have hT2 := hT1.later hbw2
   clear b0 b1 b2 p0 p1 s0 zs0 s1 zs1 s2 zs2 g0 zg0 g1 zg1 g2 zg2
   obtain ⟨b0, b1, b2⟩ := bL hT2.hb rfl rfl rfl
   obtain ⟨p0, p1⟩ := aR hT2.hp rfl rfl
   obtain ⟨s0, s1, s2⟩ := bL hT2.hs rfl rfl rfl
   obtain ⟨zs0, zs1, zs2⟩ := dS hT2.hs
   obtain ⟨g0, g1, g2⟩ := bL hT2.hg rfl rfl rfl
   obtain ⟨zg0, zg1, zg2⟩ := dS hT2.hg
   have i0 : (0 : Int) ≤ i := by omega
   have i1 : (i : Int) < rn := by omega
   have hda := fun t h => IB c m (w.heap.size + 1) sx sn sc ss t h w2 (hv.later hT2.below).subs (by omega) p0 p1
   cases hany : aL sn (UA ss c m) with
   | true =>
    have hne : gU vid rn rs sn ss c m = 9 ∧ (9 : Int) ≠ 0 := ⟨hE2.out.trans (if_pos hany), by decide⟩
    clear r0 r1 r2
    go_wp2_with fail
    refine (hda _ hany).mono ?_
    rintro e w3 ⟨rfl, hbw3⟩
    have hT3 := hT2.later hbw3
    clear b0 b1 b2 p0 p1 s0 zs0 s1 zs1 s2 zs2 g0 zg0 g1 zg1 g2 zg2
    obtain ⟨b0, b1, b2⟩ := bL hT3.hb rfl rfl rfl
    obtain ⟨p0, p1⟩ := aR hT3.hp rfl rfl
    obtain ⟨s0, s1, s2⟩ := bL hT3.hs rfl rfl rfl
    obtain ⟨zs0, zs1, zs2⟩ := dS hT3.hs
    obtain ⟨g0, g1, g2⟩ := bL hT3.hg rfl rfl rfl
    obtain ⟨zg0, zg1, zg2⟩ := dS hT3.hg
    go_wp2
    refine bodyPost_ret (v := .tuple #[.agg #[.int .i64 0, .slice none 0 0, .slice none 0 0], .agg #[.int .i64 0, .int .i64 0, .int .i64 0], .int .i64 9]) (by simp [results, Tryz.results99, go_sem, s0, s1, s2, g0, g1, g2]) rfl ?_
    exact kI.err hne ((((((hT3.below.setCell (p := ⟨w.heap.size + 2, 0, none⟩) (zA) _).setCell (p := ⟨w.heap.size + 2, 1, none⟩) (zA) _).setCell (p := ⟨w.heap.size + 2, 2, none⟩) (zA) _).setCell (p := ⟨w.heap.size + 3, 0, none⟩) (zA) _).setCell (p := ⟨w.heap.size + 3, 1, none⟩) (zA) _).setCell (p := ⟨w.heap.size + 3, 2, none⟩) (zA) _)
   | false =>
    have hE0 : Hid (gU vid rn rs sn ss c m = 0) := hE2.out.trans (if_neg (by simp [hany]))
    have hv3 := fun W (hW : Below w.heap.size w W) => dI vid (some ⟨b, o, none⟩) rn rc rs sx sn sc ss W (hv.later hW) (by omega) (by omega) (fun i hi => by have := f3 i hi; omega) (fun i hi j hj => by have := f4 i hi j hj; omega)
    have r0' : Hid (w.cell? ⟨b, o + i * 3, none⟩ = some (.int .i64 (aJ rs i).a)) := r0
    have r1' : Hid (w.cell? ⟨b, o + i * 3 + 1, none⟩ = some (.int .i64 (aJ rs i).l)) := r1
    have r2' : Hid (w.cell? ⟨b, o + i * 3 + 2, none⟩ = some (.int .i64 (aJ rs i).p)) := r2
    clear r0 r1 r2
    go_wp2_with fail
    refine (hda _ hany).mono ?_
    rintro e w3 ⟨rfl, hbw3⟩
    have hT3 := hT2.later hbw3
    clear b0 b1 b2 p0 p1 s0 zs0 s1 zs1 s2 zs2 g0 zg0 g1 zg1 g2 zg2
    obtain ⟨b0, b1, b2⟩ := bL hT3.hb rfl rfl rfl
    obtain ⟨p0, p1⟩ := aR hT3.hp rfl rfl
    obtain ⟨s0, s1, s2⟩ := bL hT3.hs rfl rfl rfl
    obtain ⟨zs0, zs1, zs2⟩ := dS hT3.hs
    obtain ⟨g0, g1, g2⟩ := bL hT3.hg rfl rfl rfl
    obtain ⟨zg0, zg1, zg2⟩ := dS hT3.hg
    go_wp2_with fail
    refine (hv3 _ hT3.below).mono ?_
    rintro e w5 ⟨vR, vS, ts, rfl, hOR, hss, hOS, hb5⟩
    have hT5 := hT3.later hb5
    obtain ⟨xt, ct, rfl, -⟩ := hOS.subs
    obtain ⟨k, hk⟩ : ∃ k, rs.length = k + 1 := ⟨rs.length - 1, by have := hi'.out; have := hrl.out; omega⟩
    have hik : i ≤ k := by have := hi'.out; have := hrl.out; omega
    have hk64 : k ≤ 64 := by have := hrl.out; omega
    obtain ⟨g, cap, hg5, cur, hgh, hcap1, hcap2, hvR⟩ : ∃ g cap, w3.heap.size ≤ g ∧ ∃ cur, w5.heap[g]? = some (.cells cur 51) ∧ k + 1 ≤ cap ∧ cap ≤ 9223372036854775807 ∧ vR = .slice (some ⟨g, 0, none⟩) (k + 1) cap := by
     obtain ⟨x2, c2, hv2, h1, h2, -, -⟩ := hOR.mem
     rcases hOR.2 with ⟨hv', -⟩ | ⟨g, cap, cur, hv', hg1, hg2, -⟩
     ·rw [hv'] at hv2; simp only [Value.slice.injEq] at hv2; omega
     ·rw [hv'] at hv2
      simp only [Value.slice.injEq] at hv2
      obtain ⟨-, -, rfl⟩ := hv2
      exact ⟨g, cap, hg1, cur, hg2, by omega, h2, by rw [hv', hk]⟩
    subst hvR
    clear b0 b1 b2 p0 p1 s0 zs0 s1 zs1 s2 zs2 g0 zg0 g1 zg1 g2 zg2
    have hgl : g < w5.heap.size := (zG hgh)
    go_upto_region 11 with fail
    obtain ⟨w6, hw6⟩ : ∃ w6, w6 = w5.alloc (dH vid (.slice (some ⟨g, 0, none⟩) (k + 1) cap) (.slice xt ts.length ct)) := ⟨_, rfl⟩
    rw [← hw6]
    have hb56 : Below w5.heap.size w5 w6 := by rw [hw6]; exact bl1 _ _
    have hn6 : w6.heap[w5.heap.size]? = some (dH vid (.slice (some ⟨g, 0, none⟩) (k + 1) cap) (.slice xt ts.length ct)) := by rw [hw6]; exact aB _ rfl
    clear hw6
    have hT6 := hT5.later hb56
    have hg6 := aA hb56 hgh
    have hOR6 := bR.later hOR hb56
    have hOS6 := jC.later hOS hb56
    have n1 := aX hn6 1 rfl
    have hdel := FF w3.heap.size g k cap i (i + 1) rs w6 hOR6 hk hik rfl hk64 hcap1 hcap2
    rw [show ((i + 1 : Nat) : Int) = (i : Int) + 1 by omega] at hdel
    go_wp2_with fail
    refine hdel.mono ?_
    rintro e w7 ⟨rfl, hO7, hg7⟩
    clear n1 hdel
    have hsz3 : w.heap.size + 3 < w3.heap.size := (zG hT3.hg)
    have hn7 := dD hg7 (by omega) hn6
    have hb7 := dD hg7 (by omega) hT6.hb
    have hs7 := dD hg7 (by omega) hT6.hs
    have hr7 := dD hg7 (by omega) hT6.hg
    have hB7 := eP hT6.below hg7 (fun q e => by cases e; omega)
    have hOS7 : jC w7 w3.heap.size (.slice xt ts.length ct) ts ts.length := ⟨hOS6.row.kept hg7 (fun q hq e => by subst e; exact hOS6.row.ne hg6 (by decide) hq), fun j hj => (hOS6.own j hj).kept_of hg7 hg6 (by decide) (by decide), hOS6.apart⟩
    have m1 := aX hn7 1 rfl
    have zm := (aE hn7).2 1
    go_upto_region 12 with fail
    clear m1 zm
    obtain ⟨w8, hw8⟩ : ∃ w8, w8 = w7.setCell ⟨w5.heap.size, 1, none⟩ (.slice (some ⟨g, 0, none⟩) k cap) := ⟨_, rfl⟩
    rw [← hw8]
    have hn8 : w8.heap[w5.heap.size]? = some (dH vid (.slice (some ⟨g, 0, none⟩) k cap) (.slice xt ts.length ct)) := by
     rw [hw8]
     have := heap_setCell_same w7 w5.heap.size 1 _ _ (.slice (some ⟨g, 0, none⟩) k cap) hn7
     simpa using this
    have hz35 := hb5.size
    have hq1 : w.heap.size ≠ w5.heap.size := by omega
    have hq2 : w.heap.size + 2 ≠ w5.heap.size := by omega
    have hq3 : w.heap.size + 3 ≠ w5.heap.size := by omega
    have hb8 : w8.heap[w.heap.size]? = some (dH vid (.slice (some ⟨b, o, none⟩) rn rc) (.slice sx sn sc)) := by rw [hw8]; exact (zB hq1).trans hb7
    have hs8 : w8.heap[w.heap.size + 2]? = some (dH 0 (.slice none 0 0) (.slice none 0 0)) := by rw [hw8]; exact (zB hq2).trans hs7
    have hr8 : w8.heap[w.heap.size + 3]? = some (.cells #[.int .i64 0, .int .i64 0, .int .i64 0] 51) := by rw [hw8]; exact (zB hq3).trans hr7
    have hB8 : Below w.heap.size w w8 := by rw [hw8]; exact hB7.setCell (p := ⟨w5.heap.size, 1, none⟩) (by show w.heap.size ≤ w5.heap.size; omega) _
    have hO8 : bR w8 w3.heap.size (.slice (some ⟨g, 0, none⟩) k cap) (rs.take i ++ rs.drop (i + 1)) := by rw [hw8]; exact hO7.putBox hn7 (by decide)
    have hOS8 : jC w8 w3.heap.size (.slice xt ts.length ct) ts ts.length := by rw [hw8]; exact hOS7.putBox hn7 (by decide) (by decide) (by decide)
    clear hw8
    obtain ⟨n0, n1, n2⟩ := bL hn8 rfl rfl rfl
    have b1 := aX hb8 1 rfl
    have r0 := cell_later hB8 r0'.out
    have r1 := cell_later hB8 r1'.out
    have r2 := cell_later hB8 r2'.out
    obtain ⟨s0, s1, s2⟩ := bL hs8 rfl rfl rfl
    obtain ⟨zs0, zs1, zs2⟩ := dS hs8
    obtain ⟨g0, g1, g2⟩ := bL hr8 rfl rfl rfl
    obtain ⟨zg0, zg1, zg2⟩ := dS hr8
    have hbq := hbw.out
    go_region_held3 (fun w' => w'.cell? ⟨w5.heap.size, 0, none⟩ = some (.int .i64 vid) ∧ w'.cell? ⟨w5.heap.size, 1, none⟩ = some (.slice (some ⟨g, 0, none⟩) k cap) ∧ w'.cell? ⟨w5.heap.size, 2, none⟩ = some (.slice xt ts.length ct) ∧ w'.cell? ⟨w.heap.size, 1, none⟩ = some (.slice (some ⟨b, o, none⟩) rn rc) ∧ w'.cell? ⟨b, o + i * 3, none⟩ = some (.int .i64 (aJ rs i).a) ∧ w'.cell? ⟨b, o + i * 3 + 1, none⟩ = some (.int .i64 (aJ rs i).l) ∧ w'.cell? ⟨b, o + i * 3 + 2, none⟩ = some (.int .i64 (aJ rs i).p)) (first | (refine ⟨?_, ?_, ?_, ?_, ?_, ?_, ?_⟩ <;> ((try rw [LH]); (repeat rw [bC (by omega)]); assumption))) (fail)
    all_goals go_wp2
    have hp2 : w.heap.size + 2 < w3.heap.size := by omega
    have hp3 : w.heap.size + 3 < w3.heap.size := by omega
    have hfin := Below.drew ((((((hB8.setCell (p := ⟨w.heap.size + 2, 0, none⟩) (zA) (.int .i64 vid)).setCell (p := ⟨w.heap.size + 2, 1, none⟩) (zA) (.slice (some ⟨g, 0, none⟩) k cap)).setCell (p := ⟨w.heap.size + 2, 2, none⟩) (zA) (.slice xt ts.length ct)).setCell (p := ⟨w.heap.size + 3, 0, none⟩) (zA) (.int .i64 (aJ rs i).a)).setCell (p := ⟨w.heap.size + 3, 1, none⟩) (zA) (.int .i64 (aJ rs i).l)).setCell (p := ⟨w.heap.size + 3, 2, none⟩) (zA) (.int .i64 (aJ rs i).p))
    have hor := bR.drew ((((((hO8.put (o := 0) (u := (.int .i64 vid)) hp2).put (o := 1) (u := (.slice (some ⟨g, 0, none⟩) k cap)) hp2).put (o := 2) (u := (.slice xt ts.length ct)) hp2).put (o := 0) (u := (.int .i64 (aJ rs i).a)) hp3).put (o := 1) (u := (.int .i64 (aJ rs i).l)) hp3).put (o := 2) (u := (.int .i64 (aJ rs i).p)) hp3)
    have hos := jC.later ((((((hOS8.put (o := 0) (u := (.int .i64 vid)) hp2).put (o := 1) (u := (.slice (some ⟨g, 0, none⟩) k cap)) hp2).put (o := 2) (u := (.slice xt ts.length ct)) hp2).put (o := 0) (u := (.int .i64 (aJ rs i).a)) hp3).put (o := 1) (u := (.int .i64 (aJ rs i).l)) hp3).put (o := 2) (u := (.int .i64 (aJ rs i).p)) hp3) (zD).drew
    refine bodyPost_ret (v := .tuple #[.agg #[.int .i64 vid, .slice (some ⟨g, 0, none⟩) k cap, .slice xt ts.length ct], .agg #[.int .i64 (aJ rs i).a, .int .i64 (aJ rs i).l, .int .i64 (aJ rs i).p], .int .i64 0]) (by simp [results, Tryz.results99, go_sem, s0, s1, s2, g0, g1, g2]) rfl ?_
    exact ⟨_, aJ rs i, by rw [hE0.out], hfin, fun h => absurd hE0.out h, fun _ => ⟨ts, i, hss, hi'.out, hHf.out.1, hHf.out.2, rfl, FU.mk hor (by omega) hos.row (by omega) hos.ofa (by omega)⟩⟩
  ·have hsp' := hsp _ hfp
   have hne : gU vid rn rs sn ss c m = 5 ∧ (5 : Int) ≠ 0 := ⟨hE1.out.trans (if_pos (by rw [hfp]; decide)), by decide⟩
   clear hfp hE1 hsp
   go_wp2_with fail
   refine (hsp').mono ?_
   rintro e w2 ⟨rfl, hbw2⟩
   have hT2 := hT1.later hbw2
   clear b0 b1 b2 p0 p1 s0 zs0 s1 zs1 s2 zs2 g0 zg0 g1 zg1 g2 zg2
   obtain ⟨b0, b1, b2⟩ := bL hT2.hb rfl rfl rfl
   obtain ⟨p0, p1⟩ := aR hT2.hp rfl rfl
   obtain ⟨s0, s1, s2⟩ := bL hT2.hs rfl rfl rfl
   obtain ⟨zs0, zs1, zs2⟩ := dS hT2.hs
   obtain ⟨g0, g1, g2⟩ := bL hT2.hg rfl rfl rfl
   obtain ⟨zg0, zg1, zg2⟩ := dS hT2.hg
   go_wp2
   refine bodyPost_ret (v := .tuple #[.agg #[.int .i64 0, .slice none 0 0, .slice none 0 0], .agg #[.int .i64 0, .int .i64 0, .int .i64 0], .int .i64 5]) (by simp [results, Tryz.results99, go_sem, s0, s1, s2, g0, g1, g2]) rfl ?_
   exact kI.err hne ((((((hT2.below.setCell (p := ⟨w.heap.size + 2, 0, none⟩) (zA) _).setCell (p := ⟨w.heap.size + 2, 1, none⟩) (zA) _).setCell (p := ⟨w.heap.size + 2, 2, none⟩) (zA) _).setCell (p := ⟨w.heap.size + 3, 0, none⟩) (zA) _).setCell (p := ⟨w.heap.size + 3, 1, none⟩) (zA) _).setCell (p := ⟨w.heap.size + 3, 2, none⟩) (zA) _)
 ·have hne : gU vid rn rs sn ss c m = aZ vid rn rs sn ss ∧ aZ vid rn rs sn ss ≠ 0 := ⟨if_pos hc0, hc0⟩
  go_wp2_with fail
  refine (hck).mono ?_
  rintro e w1 ⟨rfl, hbw1⟩
  have hT1 := hT0.later hbw1
  clear b0 b1 b2 p0 p1 s0 zs0 s1 zs1 s2 zs2 g0 zg0 g1 zg1 g2 zg2
  obtain ⟨b0, b1, b2⟩ := bL hT1.hb rfl rfl rfl
  obtain ⟨p0, p1⟩ := aR hT1.hp rfl rfl
  obtain ⟨s0, s1, s2⟩ := bL hT1.hs rfl rfl rfl
  obtain ⟨zs0, zs1, zs2⟩ := dS hT1.hs
  obtain ⟨g0, g1, g2⟩ := bL hT1.hg rfl rfl rfl
  obtain ⟨zg0, zg1, zg2⟩ := dS hT1.hg
  have hsp := BZ c m (w.heap.size + 1) rx rn rc rs _ rfl w1 (hv.later hT1.below).ranges hrn p0 p1
  generalize fstAt rn (rpB rs c m) = fp at hsp
  go_wp2_with fail
  refine (hsp).mono ?_
  rintro e w2 ⟨rfl, hbw2⟩
  have hT2 := hT1.later hbw2
  clear b0 b1 b2 p0 p1 s0 zs0 s1 zs1 s2 zs2 g0 zg0 g1 zg1 g2 zg2
  obtain ⟨b0, b1, b2⟩ := bL hT2.hb rfl rfl rfl
  obtain ⟨p0, p1⟩ := aR hT2.hp rfl rfl
  obtain ⟨s0, s1, s2⟩ := bL hT2.hs rfl rfl rfl
  obtain ⟨zs0, zs1, zs2⟩ := dS hT2.hs
  obtain ⟨g0, g1, g2⟩ := bL hT2.hg rfl rfl rfl
  obtain ⟨zg0, zg1, zg2⟩ := dS hT2.hg
  go_wp2
  refine bodyPost_ret (v := .tuple #[.agg #[.int .i64 0, .slice none 0 0, .slice none 0 0], .agg #[.int .i64 0, .int .i64 0, .int .i64 0], .int .i64 (aZ vid rn rs sn ss)]) (by simp [results, Tryz.results99, go_sem, s0, s1, s2, g0, g1, g2]) rfl ?_
  exact kI.err hne ((((((hT2.below.setCell (p := ⟨w.heap.size + 2, 0, none⟩) (zA) _).setCell (p := ⟨w.heap.size + 2, 1, none⟩) (zA) _).setCell (p := ⟨w.heap.size + 2, 2, none⟩) (zA) _).setCell (p := ⟨w.heap.size + 3, 0, none⟩) (zA) _).setCell (p := ⟨w.heap.size + 3, 1, none⟩) (zA) _).setCell (p := ⟨w.heap.size + 3, 2, none⟩) (zA) _)
def wT (vid : Int) (rn : Nat) (rs : List Rg) (sn : Nat) (ss : List Sb) (sub id : Int) : Int :=
 if aZ vid rn rs sn ss ≠ 0 then aZ vid rn rs sn ss else if fstAt sn (fun i => (sbAt ss i).id == sub) < 0 then 5 else if fstAt (sbAt ss (fstAt sn (fun i => (sbAt ss i).id == sub)).toNat).n (fun j => (fcAt (sbAt ss (fstAt sn (fun i => (sbAt ss i).id == sub)).toNat).fs j).id == id) < 0 then 5 else 0
structure iE (sn : Nat) (ss : List Sb) (sub id : Int) (i j : Nat) : Prop where
 isn : i < sn
 sid : (sbAt ss i).id = sub
 sno : ∀ k, k < i → (sbAt ss k).id ≠ sub
 jn : j < (sbAt ss i).n
 fid : (fcAt (sbAt ss i).fs j).id = id
 fno : ∀ k, k < j → (fcAt (sbAt ss i).fs k).id ≠ id
def oR (vid : Int) (rn : Nat) (rs : List Rg) (sn : Nat) (ss : List Sb) (sub id : Int) (w : World) (e : Ending) (w' : World) : Prop :=
 ∃ i j : Nat, e = .returned (.tuple #[.int .i64 i, .int .i64 j, .int .i64 (wT vid rn rs sn ss sub id)]) ∧ Below w.heap.size w w' ∧ (wT vid rn rs sn ss sub id ≠ 0 → i = 0 ∧ j = 0) ∧ (wT vid rn rs sn ss sub id = 0 → aZ vid rn rs sn ss = 0 ∧ iE sn ss sub id i j)
theorem oR.err {sub id : Int} (hE : wT vid rn rs sn ss sub id = E ∧ E ≠ 0) (hb : Below w.heap.size w w') :
  oR vid rn rs sn ss sub id w (.returned (.tuple #[.int .i64 0, .int .i64 0, .int .i64 E])) w' :=
 ⟨0, 0, by rw [hE.1]; rfl, hb, fun _ => ⟨rfl, rfl⟩, fun h => absurd (hE.1.symm.trans h) hE.2⟩
structure TP (w W : World) (vid : Int) (rx : Option Addr) (rn rc : Nat) (sx : Option Addr) (sn sc : Nat) : Prop where
 hb : W.heap[w.heap.size]? = some (.cells #[.int .i64 vid, .slice rx rn rc, .slice sx sn sc] 41)
 below : Below w.heap.size w W
theorem TP.later (h : TP w W vid rx rn rc sx sn sc) (hb : Below W.heap.size W W') : TP w W' vid rx rn rc sx sn sc :=
 ⟨aA hb h.hb, h.below.trans (hb.mono h.below.size)⟩
theorem vW (vid : Int) (rx : Option Addr) (rn rc : Nat) (rs : List Rg) (sx : Option Addr) (sn sc : Nat) (ss : List Sb) (sub id : Int) (w : World) (hv : Vp w rx rn rc rs sx sn sc ss) (hrn : rn ≤ 9223372036854775807) (hsn : sn ≤ 9223372036854775807) (hrc : rc ≤ 9223372036854775807) :
  Calls Tryz.prog 152 #[.agg #[.int .i64 vid, .slice rx rn rc, .slice sx sn sc], .int .i64 sub, .int .i64 id] w (oR vid rn rs sn ss sub id w) := by
 go_enter Tryz.func152, Tryz.ntmps152
 go_upto_region 1 with fail
 obtain ⟨w0, hw0⟩ : ∃ w0, w0 = w.alloc (dH vid (.slice rx rn rc) (.slice sx sn sc)) := ⟨_, rfl⟩
 rw [← hw0]
 have hT0 : TP w w0 vid rx rn rc sx sn sc := by
  rw [hw0]
  exact ⟨aB _ rfl, bl1 w _⟩
 clear hw0
 obtain ⟨b0, b1, b2⟩ := bL hT0.hb rfl rfl rfl
 have hck := checkV_any vid rx rn rc rs sx sn sc ss w0 (hv.later hT0.below) hrn hsn hrc
 by_cases hc0 : aZ vid rn rs sn ss = 0
 ·rw [hc0] at hck
  obtain ⟨f1, f2, f3, f4⟩ := cN hc0
  have hE1 : Hid (wT vid rn rs sn ss sub id = if fstAt sn (fun i => (sbAt ss i).id == sub) < 0 then 5 else if fstAt (sbAt ss (fstAt sn (fun i => (sbAt ss i).id == sub)).toNat).n (fun j => (fcAt (sbAt ss (fstAt sn (fun i => (sbAt ss i).id == sub)).toNat).fs j).id == id) < 0 then 5 else 0) := if_neg (c := aZ vid rn rs sn ss ≠ 0) (by simp [hc0])
  have hcz : Hid (aZ vid rn rs sn ss = 0) := hc0
  clear hc0
  go_wp2_with fail
  refine (hck).mono ?_
  rintro e w1 ⟨rfl, hbw1⟩
  have hT1 := hT0.later hbw1
  clear b0 b1 b2
  obtain ⟨b0, b1, b2⟩ := bL hT1.hb rfl rfl rfl
  have hsp := fun t h => vU vid sub rx rn rc sx sn sc ss t h w1 (hv.later hT1.below).subs (by omega)
  rcases fstAt_cases sn (fun i => (sbAt ss i).id == sub) with ⟨i, hi, hf, hno, hfp⟩ | ⟨-, hfp⟩
  ·have hsp' := hsp _ hfp
   clear hsp
   have hE2 : Hid (wT vid rn rs sn ss sub id = if fstAt (sbAt ss i).n (fun j => (fcAt (sbAt ss i).fs j).id == id) < 0 then 5 else 0) := by
    have := hE1.out
    rw [hfp] at this
    rw [if_neg (by omega)] at this
    unfold Hid
    simpa using this
   clear hfp hE1
   have hHf : Hid ((sbAt ss i).id = sub ∧ ∀ j, j < i → (sbAt ss j).id ≠ sub) := ⟨by simpa using hf, fun j hj => by simpa using hno j hj⟩
   clear hf hno
   have hn8 := f3 i hi
   obtain ⟨b, o, rfl, c0, c1, c2, c3⟩ := hv.subs.cells i hi
   go_wp2_with fail
   refine (hsp').mono ?_
   rintro e w2 ⟨rfl, hbw2⟩
   have hT2 := hT1.later hbw2
   clear b0 b1 b2
   obtain ⟨b0, b1, b2⟩ := bL hT2.hb rfl rfl rfl
   have d0 := cell_later hT2.below c0
   have d1 := cell_later hT2.below c1
   have d2 := cell_later hT2.below c2
   have d3 := cell_later hT2.below c3
   clear c0 c1 c2 c3
   have i0 : (0 : Int) ≤ i := by omega
   have i1 : (i : Int) < sn := by omega
   have hfl := fun t h => DI (sbAt ss i) id t h w2 ((hv.later hT2.below).subs.faces i hi).2.2 (by omega)
   rcases fstAt_cases (sbAt ss i).n (fun j => (fcAt (sbAt ss i).fs j).id == id) with ⟨j, hj, hjf, hjno, hjp⟩ | ⟨-, hjp⟩
   ·have hfl' := hfl _ hjp
    have hE0 : Hid (wT vid rn rs sn ss sub id = 0) := hE2.out.trans (if_neg (by rw [hjp]; omega))
    have hHj : Hid (iE sn ss sub id i j) := ⟨hi, hHf.out.1, hHf.out.2, hj, by simpa using hjf, fun k hk => by simpa using hjno k hk⟩
    clear hjp hE2 hfl hjf hjno
    go_wp2_with fail
    refine (hfl').mono ?_
    rintro e w3 ⟨rfl, hbw3⟩
    have hT3 := hT2.later hbw3
    go_wp2
    refine bodyPost_ret (v := .tuple #[.int .i64 i, .int .i64 j, .int .i64 0]) (by simp [results, Tryz.results152, go_sem]) rfl ?_
    exact ⟨i, j, by rw [hE0.out], hT3.below, fun h => absurd hE0.out h, fun _ => ⟨hcz.out, hHj.out⟩⟩
   ·have hfl' := hfl _ hjp
    have hne : wT vid rn rs sn ss sub id = 5 ∧ (5 : Int) ≠ 0 := ⟨hE2.out.trans (if_pos (by rw [hjp]; decide)), by decide⟩
    clear hjp hE2 hfl
    go_wp2_with fail
    refine (hfl').mono ?_
    rintro e w3 ⟨rfl, hbw3⟩
    have hT3 := hT2.later hbw3
    go_wp2
    refine bodyPost_ret (v := .tuple #[.int .i64 0, .int .i64 0, .int .i64 5]) (by simp [results, Tryz.results152, go_sem]) rfl ?_
    exact oR.err hne hT3.below
  ·have hsp' := hsp _ hfp
   have hne : wT vid rn rs sn ss sub id = 5 ∧ (5 : Int) ≠ 0 := ⟨hE1.out.trans (if_pos (by rw [hfp]; decide)), by decide⟩
   clear hfp hE1 hsp
   go_wp2_with fail
   refine (hsp').mono ?_
   rintro e w2 ⟨rfl, hbw2⟩
   have hT2 := hT1.later hbw2
   clear b0 b1 b2
   obtain ⟨b0, b1, b2⟩ := bL hT2.hb rfl rfl rfl
   go_wp2
   refine bodyPost_ret (v := .tuple #[.int .i64 0, .int .i64 0, .int .i64 5]) (by simp [results, Tryz.results152, go_sem]) rfl ?_
   exact oR.err hne hT2.below
 ·have hne : wT vid rn rs sn ss sub id = aZ vid rn rs sn ss ∧ aZ vid rn rs sn ss ≠ 0 := ⟨if_pos hc0, hc0⟩
  go_wp2_with fail
  refine (hck).mono ?_
  rintro e w1 ⟨rfl, hbw1⟩
  have hT1 := hT0.later hbw1
  clear b0 b1 b2
  obtain ⟨b0, b1, b2⟩ := bL hT1.hb rfl rfl rfl
  go_wp2
  refine bodyPost_ret (v := .tuple #[.int .i64 0, .int .i64 0, .int .i64 (aZ vid rn rs sn ss)]) (by simp [results, Tryz.results152, go_sem]) rfl ?_
  exact oR.err hne hT1.below
theorem zP (h : i < fs.length) : fcAt fs i ∈ fs := by
 unfold fcAt
 rw [zF, List.getElem?_eq_getElem h]
 exact List.getElem_mem h
theorem mT.mk' (h : eB w base v fs) (ho : ∀ f ∈ fs, gL w base (.slice f.x f.n f.c) f.ns) : mT w base v fs fs.length :=
 ⟨h, fun i hi => ho _ (zP hi), fun i hi hi2 => by omega⟩
theorem mT.each (h : mT w base v fs fs.length) : ∀ f ∈ fs, gL w base (.slice f.x f.n f.c) f.ns := fun f hf => by
 obtain ⟨i, hi, rfl⟩ := List.getElem_of_mem hf
 have e : fcAt fs i = fs[i] := by unfold fcAt; rw [zF, List.getElem?_eq_getElem hi]; rfl
 have := h.own i hi
 rw [e] at this
 exact this
theorem jC.cut {kf : Nat} (h : jC w base v ts ts.length) (hi : i < ts.length) (hg : w.grownBy w' (some gf)) (hb : w.heap[gf]? = some (.cells cur 80))
  (hx : (Value.slice (sbAt ts i).x (sbAt ts i).n (sbAt ts i).c).ownBlock = some gf) (hO : eB w' base (.slice (some ⟨gf, 0, none⟩) kf cf) gs) (hsub : ∀ f ∈ gs, f ∈ (sbAt ts i).fs) :
  wS w' base (ts.set i (bQ (sbAt ts i) (some ⟨gf, 0, none⟩) kf cf gs)) := fun s hs => by
 have hI : ∀ k, k < ts.length → ∀ f ∈ (sbAt ts k).fs, gL w' base (.slice f.x f.n f.c) f.ns := fun k hk f hf => by
  have h1 := (h.own k hk).each f hf
  exact h1.kept hg (fun q hq e => by subst e; exact h1.ne hb (by decide) hq)
 obtain ⟨k, hk, rfl⟩ := List.getElem_of_mem hs
 have hk' : k < ts.length := by simpa using hk
 rw [List.getElem_set]
 by_cases e : i = k
 ·rw [if_pos e]
  exact mT.mk' hO (fun f hf => hI i hi f (hsub f hf))
 ·rw [if_neg e]
  have e2 : sbAt ts k = ts[k] := by unfold sbAt; rw [zF, List.getElem?_eq_getElem hk']; rfl
  rw [← e2]
  exact mT.mk' ((h.own k hk').row.kept hg (fun q hq e3 => by subst e3; exact h.apart i k hi hk' e _ hx hq)) (hI k hk')
theorem DJ (h : w'.heap[b]? = w.heap[b]?) : w'.cell? ⟨b, o, none⟩ = w.cell? ⟨b, o, none⟩ := by simp [World.cell?, h]
theorem DK {bx k cap : Nat} (hg7' : w6.drew.grownBy w7 (some gf)) (hn6 : w6.heap[bx]? = some (dH vid vR (.slice (some ⟨g, 0, none⟩) n cap))) (hrow : cE w6 base (.slice (some ⟨g, 0, none⟩) n cap) ts)
  (hgf6 : w6.heap[gf]? = some (.cells curf 80)) (hg6 : w6.heap[g]? = some (.cells cur 78)) (hne1 : g ≠ gf) (hne2 : bx ≠ gf) (d3 : w6.cell? ⟨g, i * 4 + 3, none⟩ = some (.slice (some ⟨gf, 0, none⟩) (k + 1) cf)) :
  w6.grownBy w7 (some gf) ∧ w7.heap[bx]? = some (dH vid vR (.slice (some ⟨g, 0, none⟩) n cap)) ∧ cE w7 base (.slice (some ⟨g, 0, none⟩) n cap) ts ∧ w7.cell? ⟨bx, 2, none⟩ = some (.slice (some ⟨g, 0, none⟩) n cap) ∧ w7.cell? ⟨g, i * 4 + 3, none⟩ = some (.slice (some ⟨gf, 0, none⟩) (k + 1) cf) ∧ w7.frozen? ⟨g, i * 4 + 3, none⟩ = false ∧ w7.heap[g]? = some (.cells cur 78) := by
 have hg7 : w6.grownBy w7 (some gf) := by
  obtain ⟨q1, q2, q3, q4, q5⟩ := hg7'
  exact ⟨q1, q2, q3, q4, q5⟩
 have hn7 := dD hg7 hne2 hn6
 have hrow7 := hrow.kept hg7 (fun q hq e => by subst e; exact hrow.ne hgf6 (by decide) hq)
 have hgg7 := dD hg7 hne1 hg6
 exact ⟨hg7, hn7, hrow7, (aE hn7).1 2, (DJ (hgg7.trans hg6.symm)).trans d3, hrow7.frozen _, hgg7⟩
def RG (vid : Int) (rs : List Rg) (sn : Nat) (ss : List Sb) (sub id : Int) (base : Nat) (w : World) (V : Value) : Prop := ∃ ts i j x n c, iE sn ss sub id i j ∧ bN ss ts ∧ n = ((sbAt ts i).fs.take j ++ (sbAt ts i).fs.drop (j + 1)).length ∧ FU w base vid V rs (ts.set i (bQ (sbAt ts i) x n c ((sbAt ts i).fs.take j ++ (sbAt ts i).fs.drop (j + 1))))
theorem FV (vid : Int) (rx : Option Addr) (rn rc : Nat) (rs : List Rg) (sx : Option Addr) (sn sc : Nat) (ss : List Sb) (sub id : Int) (w : World) (hv : Vp w rx rn rc rs sx sn sc ss) (hrn : rn ≤ 9223372036854775807) (hsn : sn ≤ 9223372036854775807) (hrc : rc ≤ 9223372036854775807) :
  Calls Tryz.prog 104 #[.agg #[.int .i64 vid, .slice rx rn rc, .slice sx sn sc], .int .i64 sub, .int .i64 id] w (gM (wT vid rn rs sn ss sub id) (RG vid rs sn ss sub id w.heap.size) w) := by
 have hsl : Hid (ss.length = sn) := hv.subs.len
 have hpl0 := fun W h => vW vid rx rn rc rs sx sn sc ss sub id W h hrn hsn hrc
 unfold oR at hpl0
 generalize wT vid rn rs sn ss sub id = E at hpl0 ⊢
 go_enter Tryz.func104, Tryz.ntmps104
 go_upto_region 1 with fail
 obtain ⟨w0, hw0⟩ : ∃ w0, w0 = (w.alloc (dH vid (.slice rx rn rc) (.slice sx sn sc))).alloc (dH 0 (.slice none 0 0) (.slice none 0 0)) := ⟨_, rfl⟩
 rw [← hw0]
 have hT0 : TN w w0 vid rx rn rc sx sn sc := by
  rw [hw0]
  exact ⟨aF _ (aB _ rfl), aB _ (by simp), cC w _ _⟩
 clear hw0
 obtain ⟨b0, b1, b2⟩ := bL hT0.hb rfl rfl rfl
 obtain ⟨s0, s1, s2⟩ := bL hT0.hs rfl rfl rfl
 obtain ⟨zs0, zs1, zs2⟩ := dS hT0.hs
 have hpl := hpl0 w0 (hv.later hT0.below)
 clear hpl0
 by_cases hE : E = 0
 ·subst hE
  go_wp2_with fail
  refine hpl.mono ?_
  rintro e w1 ⟨i, j, rfl, hb1, -, hok⟩
  obtain ⟨hcz, hFA⟩ := hok (by trivial)
  obtain ⟨f1, f2, f3, f4⟩ := cN hcz
  clear hcz hok hpl
  have hT1 := hT0.later hb1
  clear b0 b1 b2 s0 zs0 s1 zs1 s2 zs2
  obtain ⟨b0, b1, b2⟩ := bL hT1.hb rfl rfl rfl
  obtain ⟨s0, s1, s2⟩ := bL hT1.hs rfl rfl rfl
  obtain ⟨zs0, zs1, zs2⟩ := dS hT1.hs
  have hv3 := fun W (hW : Below w.heap.size w W) => dI vid rx rn rc rs sx sn sc ss W (hv.later hW) (by omega) (by omega) (fun i hi => by have := f3 i hi; omega) (fun i hi j hj => by have := f4 i hi j hj; omega)
  go_wp2_with fail
  refine (hv3 _ hT1.below).mono ?_
  rintro e w5 ⟨vR, vS, ts, rfl, hOR, hss, hOS, hb5⟩
  clear hv3
  have hT5 := hT1.later hb5
  have htl : Hid (ts.length = sn) := by unfold Hid; rw [← hss.1]; exact hsl.out
  have hit : i < ts.length := by rw [htl.out]; exact hFA.isn
  have hsi := hss.2 i (by rw [hss.1]; exact hit)
  obtain ⟨hfS, hfl, hfc, hfm⟩ := (hOS.own i hit).fcs
  have hjn : j < (sbAt ts i).n := by rw [← hsi.2.2.2.1]; exact hFA.jn
  have hn8 : (sbAt ts i).n ≤ 8 := by rw [← hsi.2.2.2.1]; exact f3 i hFA.isn
  obtain ⟨xr, cr, rfl, -⟩ := hOR.rs
  obtain ⟨k, hk⟩ : ∃ k, Hid ((sbAt ts i).n = k + 1) := ⟨(sbAt ts i).n - 1, by unfold Hid; omega⟩
  have hjk : j ≤ k := by have := hk.out; omega
  obtain ⟨g, cap, hg5, cur, hgh, hvS⟩ : ∃ g cap, w1.heap.size ≤ g ∧ ∃ cur, w5.heap[g]? = some (.cells cur 78) ∧ vS = .slice (some ⟨g, 0, none⟩) ts.length cap := by
   obtain ⟨x2, c2, hv2, -⟩ := hOS.row.mem
   rcases hOS.row.2 with ⟨hv', -⟩ | ⟨g, cap, cur, hv', hg1, hg2, -⟩
   ·rw [hv'] at hv2; simp only [Value.slice.injEq] at hv2; omega
   ·exact ⟨g, cap, hg1, cur, hg2, hv'⟩
  subst hvS
  obtain ⟨gf, cf, hgf5, curf, hgfh, hcf1, hcf2, hvF⟩ : ∃ gf cf, w1.heap.size ≤ gf ∧ ∃ curf, w5.heap[gf]? = some (.cells curf 80) ∧ k + 1 ≤ cf ∧ cf ≤ 9223372036854775807 ∧ Hid (Value.slice (sbAt ts i).x (sbAt ts i).n (sbAt ts i).c = .slice (some ⟨gf, 0, none⟩) (k + 1) cf) := by
   have hkk := hk.out
   rcases (hOS.own i hit).row.2 with ⟨hv', -⟩ | ⟨gf, cf, curf, hv', hg1, hg2, -⟩
   ·simp only [Value.slice.injEq] at hv'; omega
   ·have h2 := hv'
    simp only [Value.slice.injEq] at h2
    exact ⟨gf, cf, hg1, curf, hg2, by omega, by omega, by unfold Hid; rw [hv', hfl, hkk]⟩
  have hgl : g < w5.heap.size := (zG hgh)
  have hgfl : gf < w5.heap.size := (zG hgfh)
  clear b0 b1 b2 s0 zs0 s1 zs1 s2 zs2
  go_upto_region 5 with fail
  obtain ⟨w6, hw6⟩ : ∃ w6, w6 = w5.alloc (dH vid (.slice xr rs.length cr) (.slice (some ⟨g, 0, none⟩) ts.length cap)) := ⟨_, rfl⟩
  rw [← hw6]
  have hb56 : Below w5.heap.size w5 w6 := by rw [hw6]; exact bl1 _ _
  have hn6 : w6.heap[w5.heap.size]? = some (dH vid (.slice xr rs.length cr) (.slice (some ⟨g, 0, none⟩) ts.length cap)) := by rw [hw6]; exact aB _ rfl
  clear hw6
  have hT6 := hT5.later hb56
  have hg6 := aA hb56 hgh
  have hgf6 := aA hb56 hgfh
  have hOR6 := bR.later hOR hb56
  have hOS6 := jC.later hOS hb56
  have hOF6 := (hOS6.own i hit).row
  rw [hvF.out] at hOF6
  have hx6 : Hid ((Value.slice (sbAt ts i).x (sbAt ts i).n (sbAt ts i).c).ownBlock = some gf) := by unfold Hid; rw [hvF.out]; rfl
  have n2 := aX hn6 2 rfl
  have d3 : w6.cell? ⟨g, i * 4 + 3, none⟩ = some (.slice (some ⟨gf, 0, none⟩) (k + 1) cf) := by
   obtain ⟨x2, c2, he2, -, -, -, hm'⟩ := hOS6.row.mem
   simp only [Value.slice.injEq] at he2
   obtain ⟨b2, o2, he3, -, -, -, c8⟩ := hm' i hit
   rw [← he2.1] at he3
   simp only [Option.some.injEq, Addr.mk.injEq] at he3
   obtain ⟨rfl, rfl, -⟩ := he3
   rw [hvF.out] at c8
   simpa using c8
  have i0 : (0 : Int) ≤ i := by omega
  have i1 : (i : Int) < ts.length := by omega
  have hne1 : g ≠ gf := fun e => by rw [e] at hg6; rw [hg6] at hgf6; simp at hgf6
  have hne2 : w5.heap.size ≠ gf := by omega
  have hfl' : Hid ((sbAt ts i).fs.length = k + 1) := by unfold Hid; rw [hfl, hk.out]
  have hdel := fun W h => FH w1.heap.size gf k cf j (j + 1) (sbAt ts i).fs W h hfl'.out hjk rfl (by have := hk.out; omega) hcf1 hcf2
  rw [show ((j + 1 : Nat) : Int) = (j : Int) + 1 by omega] at hdel
  have hwr : IntKind.i64.wrap ((j : Int) + 1) = (j : Int) + 1 := by rw [IntKind.wrap_i64]; omega
  have hsz1 : w.heap.size + 1 < w1.heap.size := (zG hT1.hs)
  have hq1 : w5.heap.size ≠ g := by omega
  have hq2 : w.heap.size + 1 ≠ g := by omega
  have hq3 : w.heap.size + 1 ≠ gf := by omega
  have hq4 : w.heap.size ≤ g := by omega
  have hq5 : w.heap.size ≤ gf := by omega
  have hgk : Hid (k = ((sbAt ts i).fs.take j ++ (sbAt ts i).fs.drop (j + 1)).length) := by
   unfold Hid
   rw [List.length_append, List.length_take, List.length_drop, hfl'.out]
   omega
  have hsub : ∀ f ∈ (sbAt ts i).fs.take j ++ (sbAt ts i).fs.drop (j + 1), f ∈ (sbAt ts i).fs := fun f hf => by
   rcases List.mem_append.1 hf with hf | hf
   ·exact List.mem_of_mem_take hf
   ·exact List.mem_of_mem_drop hf
  have hdel' := hdel w6.drew hOF6.drew
  clear hfS hfl hfc hfm hjn hn8 hsi hdel
  go_region_with (first | (go_at_call 156; refine hdel'.mono ?_; rintro e w7 ⟨rfl, hO7, hg7'⟩; obtain ⟨hg7, hn7, hrow7, e2, d7, df, hgg7⟩ := DK hg7' hn6 hOS6.row hgf6 hg6 hne1 hne2 d3) | fail)
  all_goals obtain ⟨w8, hw8⟩ : ∃ w8, w8 = w7.setCell ⟨g, i * 4 + 3, none⟩ (.slice (some ⟨gf, 0, none⟩) k cf) := ⟨_, rfl⟩
  all_goals rw [← hw8]
  all_goals have hn8 : w8.heap[w5.heap.size]? = some (dH vid (.slice xr rs.length cr) (.slice (some ⟨g, 0, none⟩) ts.length cap)) := by rw [hw8]; exact (zB hq1).trans hn7
  all_goals have hs8 : w8.heap[w.heap.size + 1]? = some (dH 0 (.slice none 0 0) (.slice none 0 0)) := by rw [hw8]; exact (zB hq2).trans (dD hg7 hq3 hT6.hs)
  all_goals have hB8 : Below w.heap.size w w8 := by rw [hw8]; exact (eP hT6.below hg7 (fun q e => by cases e; exact hq5)).setCell (p := ⟨g, i * 4 + 3, none⟩) hq4 _
  all_goals have hOR8 : bR w8 w1.heap.size (.slice xr rs.length cr) rs := by rw [hw8]; exact (hOR6.kept hg7 (fun q hq e => by subst e; exact hOR6.ne hgf6 (by decide) hq)).putBox hgg7 (by decide)
  all_goals have hrow8 : cE w8 w1.heap.size (.slice (some ⟨g, 0, none⟩) ts.length cap) (ts.set i (bQ (sbAt ts i) (some ⟨gf, 0, none⟩) k cf ((sbAt ts i).fs.take j ++ (sbAt ts i).fs.drop (j + 1)))) := by rw [hw8]; exact hrow7.set i hit _ _ _ _
  all_goals have hfa8 : wS w8 w1.heap.size (ts.set i (bQ (sbAt ts i) (some ⟨gf, 0, none⟩) k cf ((sbAt ts i).fs.take j ++ (sbAt ts i).fs.drop (j + 1)))) := by rw [hw8]; exact (hOS6.cut hit hg7 hgf6 hx6.out hO7 hsub).keptOf (aH _ _ _ _) hgg7 (by decide) (by decide)
  all_goals clear hw8 e2 d7 df
  all_goals obtain ⟨m0, m1, m2⟩ := bL hn8 rfl rfl rfl
  all_goals obtain ⟨s0, s1, s2⟩ := bL hs8 rfl rfl rfl
  all_goals obtain ⟨zs0, zs1, zs2⟩ := dS hs8
  all_goals go_wp2
  all_goals refine bodyPost_ret (v := .tuple #[.agg #[.int .i64 vid, .slice xr rs.length cr, .slice (some ⟨g, 0, none⟩) ts.length cap], .int .i64 0]) (by simp [results, Tryz.results104, go_sem, s0, s1, s2]) rfl ?_
  all_goals exact gM.ok rfl (((hB8.setCell (p := ⟨w.heap.size + 1, 0, none⟩) (zA) _).setCell (p := ⟨w.heap.size + 1, 1, none⟩) (zA) _).setCell (p := ⟨w.heap.size + 1, 2, none⟩) (zA) _) ⟨ts, i, j, _, k, _, hFA, hss, hgk.out, FU.mk (((hOR8.put hsz1).put hsz1).put hsz1) (by omega) (((hrow8.put hsz1).put hsz1).put hsz1) (by omega) (((hfa8.put hsz1).put hsz1).put hsz1) (by omega)⟩
 ·go_wp2_with fail
  refine hpl.mono ?_
  rintro e w1 ⟨i, j, rfl, hb1, hzz, -⟩
  obtain ⟨rfl, rfl⟩ := hzz hE
  have hT1 := hT0.later hb1
  clear b0 b1 b2 s0 zs0 s1 zs1 s2 zs2
  obtain ⟨b0, b1, b2⟩ := bL hT1.hb rfl rfl rfl
  obtain ⟨s0, s1, s2⟩ := bL hT1.hs rfl rfl rfl
  obtain ⟨zs0, zs1, zs2⟩ := dS hT1.hs
  go_wp2
  refine bodyPost_ret (v := .tuple #[.agg #[.int .i64 0, .slice none 0 0, .slice none 0 0], .int .i64 E]) (by simp [results, Tryz.results104, go_sem, s0, s1, s2]) rfl ?_
  exact gM.err ⟨rfl, hE⟩ (((hT1.below.setCell (p := ⟨w.heap.size + 1, 0, none⟩) (zA) _).setCell (p := ⟨w.heap.size + 1, 1, none⟩) (zA) _).setCell (p := ⟨w.heap.size + 1, 2, none⟩) (zA) _)
def O0 (e : Int) (n : Nat) (ps : List Int) (w : World) (r : Ending) (w' : World) : Prop :=
 ∃ v, r = .returned v ∧ Below w.heap.size w w' ∧ ∃ i, i ≤ n ∧ (∀ j, j < i → ¬ e < (bP ps j)) ∧ (i < n → e < (bP ps i)) ∧ gL w' w.heap.size v (ps.take i ++ [e] ++ ps.drop i)
theorem O1 (e : Int) (x : Option Addr) (n c : Nat) (ps : List Int) (bf k : Nat) (w : World) (hp : IS w x n ps) (hn : n ≤ 32) (hnc : n ≤ c) (hc63 : c ≤ 9223372036854775807) (hx : (x = none ∧ c = 0) ∨ ∃ b o, x = some ⟨b, o, none⟩)
  (hby : w.cell? ⟨bf, 0, none⟩ = some (.func (.func 155) #[] #[])) :
  Calls Tryz.prog 154 #[.slice x n c, .int .i64 e, .slice (some ⟨bf, 0, none⟩) 1 k] w (O0 e n ps w) := by
 have hB2 := cC w (.cells #[.int .i64 e] 3) (.cells #[.slice (some ⟨bf, 0, none⟩) 1 k] 243)
 refine (EM.2.2.2.2.2.1 _ _ VP e x n c bf 1 k (flatI ps) (fun i => decide (e < bP ps i)) w hp.rw (uR [e]) hn hnc hc63 hx (wI _ _ x n c ps _ _ (hp.later hB2) (by omega) (fun i hi W hW => ?_) jB.2.2.2.2.2.1.2)).mono ?_
 ·obtain ⟨v, hv, hd⟩ := rA e (bP ps i)
  exact (jB.2.2.2.2.2.1.1 e (bP ps i) v w.heap.size (w.heap.size + 1) bf 1 k W (fun i => (hW.cell (p := ⟨w.heap.size, i, none⟩) (by show w.heap.size < _; simp; omega)).trans (by simp)) (cell_later hW (by simp)) fun W9 h9 => vO e _ v hv bf k W9 (cell_later h9 (cell_later hW (cell_later hB2 hby)))).mono fun _ _ h => ⟨h.1.trans (congrArg (fun t => Ending.returned (.bool t)) hd.symm), h.2⟩
 ·rintro r w1 ⟨v, rfl, hb, i, hi, hlow, hup, ho⟩
  exact ⟨v, rfl, hb, i, hi, fun j hj => of_decide_eq_false (hlow j hj), fun h => of_decide_eq_true (hup h), kW flatI (fun es => (uQ es).trans (Nat.mul_one _).symm) LA hp.len hi ho⟩
end Go.Proofs.YtndpilfpejfloaaGreat
