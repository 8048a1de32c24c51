/- A part of the proof. -/
import Derived.Test.YtndpilfpejfloaaGreatMC14
set_option maxRecDepth 100000
set_option maxHeartbeats 20000000
namespace Go.Proofs.YtndpilfpejfloaaGreat
variable {w w' wr : World} {base n k bs c : Nat} {ps ps' rs qs : List Po} {vs us vs' : List Vn} {ls ls' ms : List (Int × Int)} {vB vV vK uB uV uK : Value} {v u : Vn} {x : Int × Int × Int × Int} {t' y t a l : Int} {f : Nat → Bool} {cd : Cd} {cs : List Cd}
open Go.RowKit Go.Shelf
abbrev rT (E a l n : Int) : Obj := .cells #[.int .i64 E, .int .i64 a, .int .i64 l, .int .i64 n] 61
abbrev RX (E a l n : Int) : Value := .agg #[.int .i64 E, .int .i64 a, .int .i64 l, .int .i64 n]
structure fJ where
 t : Int
 ps : List Po
 vs : List Vn
 ls : List (Int × Int)
def kR (s : fJ) (cd : Cd) (E n : Int) : Prop :=
 if cd.op = 1 then E = gD s.t s.ps cd.A cd.a cd.l cd.mn cd.mx cd.us cd.co else
 if cd.op = 2 then E = kB s.t s.ps cd.A cd.B cd.C cd.mn cd.mx cd.us cd.co else
 if cd.op = 3 then E = fO s.t s.ps cd.A else
 if cd.op = 4 then E = qL s.t s.ps cd.A else
 if cd.op = 5 then E = SY s.t s.ps s.vs cd.A cd.B cd.C else
 if cd.op = 6 then E = RT s.t s.ps s.vs cd.A cd.a cd.l else
 if cd.op = 7 then E = SZ s.ps s.vs s.ls cd.A else
 if cd.op = 8 then E = MV s.t s.ps s.vs s.ls cd.A cd.B cd.C else
 if cd.op = 9 then WO s.t s.ps s.vs cd.A cd.a cd.l E else
 if cd.op = 15 then E = lZ s.vs.length s.vs s.ls.length s.ls cd.A cd.B else
 if cd.op = 16 then E = vZ s.vs.length s.vs s.ls.length s.ls cd.A cd.B else
 if 10 ≤ cd.op ∧ cd.op ≤ 14 then (aI s.vs.length s.vs cd.A < 0 ∧ E = 5 ∧ n = 0) ∨ ∃ k : Nat, k < s.vs.length ∧ aI s.vs.length s.vs cd.A = k ∧ xJ (aC s.vs k) cd E n else E = 4
def mY (s : fJ) (cd : Cd) (a l n : Int) (r : fJ) : Prop :=
 if cd.op = 1 then a = 0 ∧ l = 0 ∧ n = 0 ∧ r.t = s.t ∧ r.vs = s.vs ∧ r.ls = s.ls ∧ ∃ qs, cD s.ps qs ∧ iN ⟨cd.A, 0, cd.a, cd.l, cd.mn, cd.mx, cd.us, cd.co, none, 0, 0, []⟩ qs r.ps else
 if cd.op = 2 then n = 0 ∧ r.t = s.t ∧ r.vs = s.vs ∧ r.ls = s.ls ∧ (a, l) = fP s.t s.ps cd.A cd.B cd.C ∧ uD s.ps ⟨cd.A, cd.B, a, l, cd.mn, cd.mx, cd.us, cd.co, none, 0, 0, []⟩ cd.B r.ps else
 if cd.op = 3 then a = 0 ∧ l = 0 ∧ n = 0 ∧ r.vs = s.vs ∧ r.ls = s.ls ∧ mL s.t s.ps cd.A r.t r.ps else
 if cd.op = 4 then a = 0 ∧ l = 0 ∧ n = 0 ∧ r.vs = s.vs ∧ r.ls = s.ls ∧ SM s.t s.ps cd.A r.t r.ps else
 if cd.op = 5 then n = 0 ∧ r.t = s.t ∧ r.vs = s.vs ∧ r.ls = s.ls ∧ rR s.ps cd.A cd.B cd.C a l r.ps else
 if cd.op = 6 then a = 0 ∧ l = 0 ∧ n = 0 ∧ r.vs = s.vs ∧ r.ls = s.ls ∧ sM s.t s.ps cd.A cd.a cd.l r.t r.ps else
 if cd.op = 7 then a = 0 ∧ l = 0 ∧ n = 0 ∧ r.t = s.t ∧ r.ps = s.ps ∧ F0 s.vs s.ls cd.A r.vs r.ls else
 if cd.op = 8 then n = 0 ∧ r.t = s.t ∧ rR s.ps cd.B cd.C cd.A a l r.ps ∧ uY s.vs.length s.vs s.ls cd.A ⟨a, l, cd.B⟩ r.vs r.ls else
 if cd.op = 9 then a = 0 ∧ l = 0 ∧ n = 0 ∧ r.ls = s.ls ∧ WP s.t s.ps s.vs cd.A cd.a cd.l r.t r.ps r.vs else
 if cd.op = 15 then a = 0 ∧ l = 0 ∧ n = 0 ∧ r.t = s.t ∧ r.ps = s.ps ∧ JK s.vs s.ls cd.A cd.B r.vs r.ls else
 if cd.op = 16 then a = 0 ∧ l = 0 ∧ n = 0 ∧ r.t = s.t ∧ r.ps = s.ps ∧ PA s.vs s.ls cd.A cd.B r.vs r.ls else
 a = 0 ∧ l = 0 ∧ r.t = s.t ∧ r.ps = s.ps ∧ r.ls = s.ls ∧ ∃ (k : Nat) (u : Vn), k < s.vs.length ∧ aI s.vs.length s.vs cd.A = k ∧ UT (aC s.vs k) cd n u ∧ r.vs = s.vs.set k u
def UW (base bs : Nat) (s : fJ) (cd : Cd) (w : World) (e : Ending) (w' : World) : Prop :=
 ∃ E a l n, e = .returned (RX E a l n) ∧ eZ base bs w w' ∧ kR s cd E n ∧ (E = 0 → ∃ r vB vV vK, kV w' base bs r.t r.ps r.vs r.ls vB vV vK ∧ mY s cd a l n r)
def V0 (base bs : Nat) (s : fJ) (cd : Cd) (w wd : World) : Prop :=
 ∃ E a l n, wd.heap[w.heap.size + 1]? = some (rT E a l n) ∧ eZ base bs w wd ∧ kR s cd E n ∧ (E = 0 → ∃ r vB vV vK, kV wd base bs r.t r.ps r.vs r.ls vB vV vK ∧ mY s cd a l n r)
theorem RY (base bs : Nat) (t : Int) (ps : List Po) (vs : List Vn) (ls : List (Int × Int)) (vB vV vK : Value) (cd : Cd) (w : World) (hS : kV w base bs t ps vs ls vB vV vK) (hB : aV t ps = 0) (hv6 : vs.length ≤ 6) (hcw : CA cd.A cd.a cd.l) :
  Calls Tryz.prog 28 #[.pointer (some ⟨bs, 0, none⟩), QJ cd] w (UW base bs ⟨t, ps, vs, ls⟩ cd w) := by
 have hbl : bs < w.heap.size := (zG hS.box)
 have hlow := hS.low
 obtain ⟨x, c, X, C, Y, D, rfl, rfl, rfl, hk, hvs, hvc, hv63, hps, hl63⟩ := hS.see hB
 obtain ⟨op, A, B, C0, a, l, mn, mx, us, co⟩ := cd
 go_enter Tryz.func28, Tryz.ntmps28
 go_upto_region 1 with fail
 obtain ⟨w0, hw0⟩ : ∃ w0, w0 = (w.alloc (A7 ⟨op, A, B, C0, a, l, mn, mx, us, co⟩)).alloc (rT 0 0 0 0) := ⟨_, rfl⟩
 rw [← hw0]
 have hB0 : Below w.heap.size w w0 := by rw [hw0]; exact cC w _ _
 have hq0 : w0.heap[w.heap.size]? = some (A7 ⟨op, A, B, C0, a, l, mn, mx, us, co⟩) := by rw [hw0]; exact aF _ (aB _ rfl)
 have hq1 : w0.heap[w.heap.size + 1]? = some (rT 0 0 0 0) := by rw [hw0]; exact aB _ (by simp)
 have hS0 := hS.later hB0
 clear hw0
 have hT0 : eZ base bs w w0 := eZ.of hB0 (by omega)
 have ne1 : bs ≠ w.heap.size + 1 := by omega
 have ne4 : w.heap.size + 1 ≠ bs := by omega
 have hlo0 : base ≤ w0.heap.size := Nat.le_trans (by omega) hB0.size
 have k0 := aX hq0 0 rfl
 go_upto_block 0 with fail
 clear k0
 go_cut [4] (fun p wd => p = .pointer (some ⟨w.heap.size + 1, 0, none⟩) ∧ V0 base bs ⟨t, ps, vs, ls⟩ ⟨op, A, B, C0, a, l, mn, mx, us, co⟩ w wd)
 case first =>
  by_cases h1 : op = 1
  ·subst h1
   go_upto_region 4 with fail
   have s0 := Ws.here (aX hS0.box 0 rfl)
   have s1 := Ws.here (aX hS0.box 1 rfl)
   have k1 := Ws.here (aX hq0 1 rfl)
   have k4 := Ws.here (aX hq0 4 rfl)
   have k5 := Ws.here (aX hq0 5 rfl)
   have k6 := Ws.here (aX hq0 6 rfl)
   have k7 := Ws.here (aX hq0 7 rfl)
   have k8 := Ws.here (aX hq0 8 rfl)
   have k9 := Ws.here (aX hq0 9 rfl)
   refine aW [0, 1, 2, 3, 4, 5, 6, 7, 8, 9, 10] 11 [12, 13, 14, 15, 16] [17, 18, 19] (by kernel_rfl) (by kernel_rfl) (fun d _ _ _ _ h => by cases d <;> exact h) ?_
   simp only [zK, zM, zI, zJ]
   repeat (go_big_quiet_step (fail))
   refine wpQuiet_nil ?_
   clear s0 s1 k1 k4 k5 k6 k7 k8 k9
   intro K hK
   go_wp2_with fail
   refine (NY t x ps.length c ps A a l mn mx us co w0.drew ((hk.later hB0).later (zD).drew)).mono ?_
   rintro e w1 ⟨v, rs, t', rfl, hb1, hO1, hE0, hE2⟩
   have hB1 : Below w0.heap.size w0 w1 := ⟨hb1.os, hb1.tape, hb1.output, hb1.size, hb1.block⟩
   obtain ⟨x1, c1, hv1, -⟩ := hO1.row.mem
   subst hv1
   go_wp2_with fail
   refine aD (hK.out _ _ hB1 ?_)
   clear hK K
   repeat (go_big_quiet_step (fail))
   refine wpQuiet_nil ?_
   have hS1 := hS0.later hB1
   have hy1 := aA hB1 hq1
   have hT1 : eZ base bs w w1 := hT0.trans (eZ.of hB1 hlo0)
   have hO2 : dR w1 base (.slice x1 rs.length c1) rs rs.length := hO1.low hlo0
   have hbx : kQ w1 (w.heap.size + 1) 61 := ⟨_, hy1⟩
   clear hb1 hO1
   obtain ⟨g0, g1, g2, g3⟩ := dN hS1.box rfl rfl rfl rfl
   obtain ⟨gz0, gz1, gz2, gz3⟩ := iH hS1.box
   obtain ⟨q0, q1, q2, q3⟩ := dN hy1 rfl rfl rfl rfl
   obtain ⟨qz0, qz1, qz2, qz3⟩ := iH hy1
   go_wp2_with fail
   go_meet
   case rel =>
    refine ⟨rfl, gD t ps A a l mn mx us co, 0, 0, 0, zC ((zB ne4).trans ((zB ne4).trans (hy1))), ((hT1.set hlow).set hlow).put (by omega) (by omega), ?_, fun h => ?_⟩
    ·unfold kR; rw [if_pos rfl]
    ·obtain ⟨rfl, hq⟩ := hE2 h
     refine ⟨⟨t', rs, vs, ls⟩, _, _, _, (hS1.putB hO2).put hbx.put.put (by decide) ne1, ?_⟩
     unfold mY; rw [if_pos rfl]
     exact ⟨rfl, rfl, rfl, rfl, rfl, rfl, hq⟩
  have n1 : (op == 1) = false := by simpa using h1
  by_cases h2 : op = 2
  ·subst h2
   go_upto_region 6 with fail
   have s0 := Ws.here (aX hS0.box 0 rfl)
   have s1 := Ws.here (aX hS0.box 1 rfl)
   have k1 := Ws.here (aX hq0 1 rfl)
   have k2 := Ws.here (aX hq0 2 rfl)
   have k3 := Ws.here (aX hq0 3 rfl)
   have k6 := Ws.here (aX hq0 6 rfl)
   have k7 := Ws.here (aX hq0 7 rfl)
   have k8 := Ws.here (aX hq0 8 rfl)
   have k9 := Ws.here (aX hq0 9 rfl)
   refine aW [0, 1, 2, 3, 4, 5, 6, 7, 8, 9, 10, 11, 12] 13 [14, 15, 16, 17, 18, 19] [20, 21, 22, 23, 24] (by kernel_rfl) (by kernel_rfl) (fun d _ _ _ _ h => by cases d <;> exact h) ?_
   simp only [zK, zM, zI, zJ]
   repeat (go_big_quiet_step (fail))
   refine wpQuiet_nil ?_
   clear s0 s1 k1 k2 k3 k6 k7 k8 k9
   intro K hK
   go_wp2_with fail
   refine (N9 t x ps.length c ps A B C0 mn mx us co w0.drew ((hk.later hB0).later (zD).drew)).mono ?_
   rintro e w1 ⟨v, rs, t', a', l', rfl, hb1, hO1, hE0, hE2⟩
   have hB1 : Below w0.heap.size w0 w1 := ⟨hb1.os, hb1.tape, hb1.output, hb1.size, hb1.block⟩
   obtain ⟨x1, c1, hv1, -⟩ := hO1.row.mem
   subst hv1
   go_wp2_with fail
   refine aD (hK.out _ _ hB1 ?_)
   clear hK K
   repeat (go_big_quiet_step (fail))
   refine wpQuiet_nil ?_
   have hS1 := hS0.later hB1
   have hy1 := aA hB1 hq1
   have hT1 : eZ base bs w w1 := hT0.trans (eZ.of hB1 hlo0)
   have hO2 : dR w1 base (.slice x1 rs.length c1) rs rs.length := hO1.low hlo0
   have hbx : kQ w1 (w.heap.size + 1) 61 := ⟨_, hy1⟩
   clear hb1 hO1
   obtain ⟨g0, g1, g2, g3⟩ := dN hS1.box rfl rfl rfl rfl
   obtain ⟨gz0, gz1, gz2, gz3⟩ := iH hS1.box
   obtain ⟨q0, q1, q2, q3⟩ := dN hy1 rfl rfl rfl rfl
   obtain ⟨qz0, qz1, qz2, qz3⟩ := iH hy1
   go_wp2_with fail
   go_meet
   case rel =>
    refine ⟨rfl, kB t ps A B C0 mn mx us co, a', l', 0, zC (zC (zC ((zB ne4).trans ((zB ne4).trans (hy1))))), ((((hT1.set hlow).set hlow).put (by omega) (by omega)).put (by omega) (by omega)).put (by omega) (by omega), ?_, fun h => ?_⟩
    ·unfold kR; rw [if_neg (by simp), if_pos rfl]
    ·obtain ⟨rfl, hal, hq⟩ := hE2 h
     refine ⟨⟨t', rs, vs, ls⟩, _, _, _, (((hS1.putB hO2).put hbx.put.put (by decide) ne1).put hbx.put.put.put (by decide) ne1).put hbx.put.put.put.put (by decide) ne1, ?_⟩
     unfold mY; rw [if_neg (by simp), if_pos rfl]
     exact ⟨rfl, rfl, rfl, rfl, hal, hq⟩
  have n2 : (op == 2) = false := by simpa using h2
  by_cases h3 : op = 3
  ·subst h3
   go_upto_region 8 with fail
   have s0 := Ws.here (aX hS0.box 0 rfl)
   have s1 := Ws.here (aX hS0.box 1 rfl)
   have k1 := Ws.here (aX hq0 1 rfl)
   refine aW [0, 1, 2, 3, 4, 5, 6] 7 [8, 9, 10, 11, 12] [13, 14, 15] (by kernel_rfl) (by kernel_rfl) (fun d _ _ _ _ h => by cases d <;> exact h) ?_
   simp only [zK, zM, zI, zJ]
   repeat (go_big_quiet_step (fail))
   refine wpQuiet_nil ?_
   clear s0 s1 k1
   intro K hK
   go_wp2_with fail
   refine (KU t x ps.length c ps A w0.drew ((hk.later hB0).later (zD).drew)).mono ?_
   rintro e w1 ⟨v, rs, t', rfl, hb1, hO1, hE0, hE2⟩
   have hB1 : Below w0.heap.size w0 w1 := ⟨hb1.os, hb1.tape, hb1.output, hb1.size, hb1.block⟩
   obtain ⟨x1, c1, hv1, -⟩ := hO1.row.mem
   subst hv1
   go_wp2_with fail
   refine aD (hK.out _ _ hB1 ?_)
   clear hK K
   repeat (go_big_quiet_step (fail))
   refine wpQuiet_nil ?_
   have hS1 := hS0.later hB1
   have hy1 := aA hB1 hq1
   have hT1 : eZ base bs w w1 := hT0.trans (eZ.of hB1 hlo0)
   have hO2 : dR w1 base (.slice x1 rs.length c1) rs rs.length := hO1.low hlo0
   have hbx : kQ w1 (w.heap.size + 1) 61 := ⟨_, hy1⟩
   clear hb1 hO1
   obtain ⟨g0, g1, g2, g3⟩ := dN hS1.box rfl rfl rfl rfl
   obtain ⟨gz0, gz1, gz2, gz3⟩ := iH hS1.box
   obtain ⟨q0, q1, q2, q3⟩ := dN hy1 rfl rfl rfl rfl
   obtain ⟨qz0, qz1, qz2, qz3⟩ := iH hy1
   go_wp2_with fail
   go_meet
   case rel =>
    refine ⟨rfl, fO t ps A, 0, 0, 0, zC ((zB ne4).trans ((zB ne4).trans (hy1))), ((hT1.set hlow).set hlow).put (by omega) (by omega), ?_, fun h => ?_⟩
    ·unfold kR; rw [if_neg (by simp), if_neg (by simp), if_pos rfl]
    ·refine ⟨⟨t', rs, vs, ls⟩, _, _, _, (hS1.putB hO2).put hbx.put.put (by decide) ne1, ?_⟩
     unfold mY; rw [if_neg (by simp), if_neg (by simp), if_pos rfl]
     exact ⟨rfl, rfl, rfl, rfl, rfl, hE2 h⟩
  have n3 : (op == 3) = false := by simpa using h3
  by_cases h4 : op = 4
  ·subst h4
   go_upto_region 10 with fail
   have s0 := Ws.here (aX hS0.box 0 rfl)
   have s1 := Ws.here (aX hS0.box 1 rfl)
   have k1 := Ws.here (aX hq0 1 rfl)
   refine aW [0, 1, 2, 3, 4, 5, 6] 7 [8, 9, 10, 11, 12] [13, 14, 15] (by kernel_rfl) (by kernel_rfl) (fun d _ _ _ _ h => by cases d <;> exact h) ?_
   simp only [zK, zM, zI, zJ]
   repeat (go_big_quiet_step (fail))
   refine wpQuiet_nil ?_
   clear s0 s1 k1
   intro K hK
   go_wp2_with fail
   refine (N7 t x ps.length c ps A w0.drew ((hk.later hB0).later (zD).drew)).mono ?_
   rintro e w1 ⟨v, rs, t', rfl, hb1, hO1, hE0, hE2⟩
   have hB1 : Below w0.heap.size w0 w1 := ⟨hb1.os, hb1.tape, hb1.output, hb1.size, hb1.block⟩
   obtain ⟨x1, c1, hv1, -⟩ := hO1.row.mem
   subst hv1
   go_wp2_with fail
   refine aD (hK.out _ _ hB1 ?_)
   clear hK K
   repeat (go_big_quiet_step (fail))
   refine wpQuiet_nil ?_
   have hS1 := hS0.later hB1
   have hy1 := aA hB1 hq1
   have hT1 : eZ base bs w w1 := hT0.trans (eZ.of hB1 hlo0)
   have hO2 : dR w1 base (.slice x1 rs.length c1) rs rs.length := hO1.low hlo0
   have hbx : kQ w1 (w.heap.size + 1) 61 := ⟨_, hy1⟩
   clear hb1 hO1
   obtain ⟨g0, g1, g2, g3⟩ := dN hS1.box rfl rfl rfl rfl
   obtain ⟨gz0, gz1, gz2, gz3⟩ := iH hS1.box
   obtain ⟨q0, q1, q2, q3⟩ := dN hy1 rfl rfl rfl rfl
   obtain ⟨qz0, qz1, qz2, qz3⟩ := iH hy1
   go_wp2_with fail
   go_meet
   case rel =>
    refine ⟨rfl, qL t ps A, 0, 0, 0, zC ((zB ne4).trans ((zB ne4).trans (hy1))), ((hT1.set hlow).set hlow).put (by omega) (by omega), ?_, fun h => ?_⟩
    ·unfold kR; (iterate 3 rw [if_neg (by simp)]); rw [if_pos rfl]
    ·refine ⟨⟨t', rs, vs, ls⟩, _, _, _, (hS1.putB hO2).put hbx.put.put (by decide) ne1, ?_⟩
     unfold mY; (iterate 3 rw [if_neg (by simp)]); rw [if_pos rfl]
     exact ⟨rfl, rfl, rfl, rfl, rfl, hE2 h⟩
  have n4 : (op == 4) = false := by simpa using h4
  by_cases h5 : op = 5
  ·subst h5
   obtain ⟨k0, k1, k2, k3, k4, k5, k6, k7, k8, k9⟩ := tW hq0 rfl rfl rfl rfl rfl rfl rfl rfl rfl rfl
   go_wp2_with fail
   refine (MI base bs t ps vs ls _ _ _ ⟨5, A, B, C0, a, l, mn, mx, us, co⟩ w0 hS0 hB hv6).mono ?_
   rintro e w1 ⟨a', l', rfl, hTi, hE2⟩
   have hy1 := hTi.box _ _ _ ne4 (by decide) hq1
   have hT1 : eZ base bs w w1 := hT0.trans hTi
   have hbx : kQ w1 (w.heap.size + 1) 61 := ⟨_, hy1⟩
   clear k0 k1 k2 k3 k4 k5 k6 k7 k8 k9
   obtain ⟨q0, q1, q2, q3⟩ := dN hy1 rfl rfl rfl rfl
   obtain ⟨qz0, qz1, qz2, qz3⟩ := iH hy1
   go_wp2_with fail
   go_meet
   case rel =>
    refine ⟨rfl, SY t ps vs A B C0, a', l', 0, zC (zC (zC (hy1))), (((hT1).put (by omega) (by omega)).put (by omega) (by omega)).put (by omega) (by omega), ?_, fun h => ?_⟩
    ·unfold kR; (iterate 4 rw [if_neg (by simp)]); rw [if_pos rfl]
    ·obtain ⟨rs, vB, vV, vK, hSr, hR⟩ := hE2 h
     refine ⟨⟨t, rs, vs, ls⟩, vB, vV, vK, (((hSr).put hbx (by decide) ne1).put hbx.put (by decide) ne1).put hbx.put.put (by decide) ne1, ?_⟩
     unfold mY; (iterate 4 rw [if_neg (by simp)]); rw [if_pos rfl]
     exact ⟨rfl, rfl, rfl, rfl, hR⟩
  have n5 : (op == 5) = false := by simpa using h5
  by_cases h6 : op = 6
  ·subst h6
   obtain ⟨k0, k1, k2, k3, k4, k5, k6, k7, k8, k9⟩ := tW hq0 rfl rfl rfl rfl rfl rfl rfl rfl rfl rfl
   go_wp2_with fail
   refine (MJ base bs t ps vs ls _ _ _ ⟨6, A, B, C0, a, l, mn, mx, us, co⟩ w0 hS0 hB hv6 hcw).mono ?_
   rintro e w1 ⟨rfl, hTi, hE2⟩
   have hy1 := hTi.box _ _ _ ne4 (by decide) hq1
   have hT1 : eZ base bs w w1 := hT0.trans hTi
   have hbx : kQ w1 (w.heap.size + 1) 61 := ⟨_, hy1⟩
   clear k0 k1 k2 k3 k4 k5 k6 k7 k8 k9
   obtain ⟨q0, q1, q2, q3⟩ := dN hy1 rfl rfl rfl rfl
   obtain ⟨qz0, qz1, qz2, qz3⟩ := iH hy1
   go_wp2_with fail
   go_meet
   case rel =>
    refine ⟨rfl, RT t ps vs A a l, 0, 0, 0, zC (hy1), (hT1).put (by omega) (by omega), ?_, fun h => ?_⟩
    ·unfold kR; (iterate 5 rw [if_neg (by simp)]); rw [if_pos rfl]
    ·obtain ⟨t', rs, vB, vV, vK, hSr, hR⟩ := hE2 h
     refine ⟨⟨t', rs, vs, ls⟩, vB, vV, vK, (hSr).put hbx (by decide) ne1, ?_⟩
     unfold mY; (iterate 5 rw [if_neg (by simp)]); rw [if_pos rfl]
     exact ⟨rfl, rfl, rfl, rfl, rfl, hR⟩
  have n6 : (op == 6) = false := by simpa using h6
  by_cases h7 : op = 7
  ·subst h7
   obtain ⟨k0, k1, k2, k3, k4, k5, k6, k7, k8, k9⟩ := tW hq0 rfl rfl rfl rfl rfl rfl rfl rfl rfl rfl
   go_wp2_with fail
   refine (IZ base bs t ps vs ls _ _ _ ⟨7, A, B, C0, a, l, mn, mx, us, co⟩ w0 hS0 hB).mono ?_
   rintro e w1 ⟨rfl, hTi, hE2⟩
   have hy1 := hTi.box _ _ _ ne4 (by decide) hq1
   have hT1 : eZ base bs w w1 := hT0.trans hTi
   have hbx : kQ w1 (w.heap.size + 1) 61 := ⟨_, hy1⟩
   clear k0 k1 k2 k3 k4 k5 k6 k7 k8 k9
   obtain ⟨q0, q1, q2, q3⟩ := dN hy1 rfl rfl rfl rfl
   obtain ⟨qz0, qz1, qz2, qz3⟩ := iH hy1
   go_wp2_with fail
   go_meet
   case rel =>
    refine ⟨rfl, SZ ps vs ls A, 0, 0, 0, zC (hy1), (hT1).put (by omega) (by omega), ?_, fun h => ?_⟩
    ·unfold kR; (iterate 6 rw [if_neg (by simp)]); rw [if_pos rfl]
    ·obtain ⟨us', ms, vB, vV, vK, hSr, hR⟩ := hE2 h
     refine ⟨⟨t, ps, us', ms⟩, vB, vV, vK, (hSr).put hbx (by decide) ne1, ?_⟩
     unfold mY; (iterate 6 rw [if_neg (by simp)]); rw [if_pos rfl]
     exact ⟨rfl, rfl, rfl, rfl, rfl, hR⟩
  have n7 : (op == 7) = false := by simpa using h7
  by_cases h8 : op = 8
  ·subst h8
   obtain ⟨k0, k1, k2, k3, k4, k5, k6, k7, k8, k9⟩ := tW hq0 rfl rfl rfl rfl rfl rfl rfl rfl rfl rfl
   go_wp2_with fail
   refine (MK base bs t ps vs ls _ _ _ ⟨8, A, B, C0, a, l, mn, mx, us, co⟩ w0 hS0 hB hv6).mono ?_
   rintro e w1 ⟨a', l', rfl, hTi, hE2⟩
   have hy1 := hTi.box _ _ _ ne4 (by decide) hq1
   have hT1 : eZ base bs w w1 := hT0.trans hTi
   have hbx : kQ w1 (w.heap.size + 1) 61 := ⟨_, hy1⟩
   clear k0 k1 k2 k3 k4 k5 k6 k7 k8 k9
   obtain ⟨q0, q1, q2, q3⟩ := dN hy1 rfl rfl rfl rfl
   obtain ⟨qz0, qz1, qz2, qz3⟩ := iH hy1
   go_wp2_with fail
   go_meet
   case rel =>
    refine ⟨rfl, MV t ps vs ls A B C0, a', l', 0, zC (zC (zC (hy1))), (((hT1).put (by omega) (by omega)).put (by omega) (by omega)).put (by omega) (by omega), ?_, fun h => ?_⟩
    ·unfold kR; (iterate 7 rw [if_neg (by simp)]); rw [if_pos rfl]
    ·obtain ⟨rs, us', ms, vB, vV, vK, hSr, hR, hR2⟩ := hE2 h
     refine ⟨⟨t, rs, us', ms⟩, vB, vV, vK, (((hSr).put hbx (by decide) ne1).put hbx.put (by decide) ne1).put hbx.put.put (by decide) ne1, ?_⟩
     unfold mY; (iterate 7 rw [if_neg (by simp)]); rw [if_pos rfl]
     exact ⟨rfl, rfl, hR, hR2⟩
  have n8 : (op == 8) = false := by simpa using h8
  by_cases h9 : op = 9
  ·subst h9
   obtain ⟨k0, k1, k2, k3, k4, k5, k6, k7, k8, k9⟩ := tW hq0 rfl rfl rfl rfl rfl rfl rfl rfl rfl rfl
   go_wp2_with fail
   refine (ML base bs t ps vs ls _ _ _ ⟨9, A, B, C0, a, l, mn, mx, us, co⟩ w0 hS0 hB hv6).mono ?_
   rintro e w1 ⟨E, rfl, hTi, hA, hE2⟩
   have hy1 := hTi.box _ _ _ ne4 (by decide) hq1
   have hT1 : eZ base bs w w1 := hT0.trans hTi
   have hbx : kQ w1 (w.heap.size + 1) 61 := ⟨_, hy1⟩
   clear k0 k1 k2 k3 k4 k5 k6 k7 k8 k9
   obtain ⟨q0, q1, q2, q3⟩ := dN hy1 rfl rfl rfl rfl
   obtain ⟨qz0, qz1, qz2, qz3⟩ := iH hy1
   go_wp2_with fail
   go_meet
   case rel =>
    refine ⟨rfl, E, 0, 0, 0, zC (hy1), (hT1).put (by omega) (by omega), ?_, fun h => ?_⟩
    ·unfold kR; (iterate 8 rw [if_neg (by simp)]); rw [if_pos rfl]; exact hA
    ·obtain ⟨t', rs, us', vB, vV, vK, hSr, hR⟩ := hE2 h
     refine ⟨⟨t', rs, us', ls⟩, vB, vV, vK, (hSr).put hbx (by decide) ne1, ?_⟩
     unfold mY; (iterate 8 rw [if_neg (by simp)]); rw [if_pos rfl]
     exact ⟨rfl, rfl, rfl, rfl, hR⟩
  have n9 : (op == 9) = false := by simpa using h9
  by_cases h10 : op = 10
  ·subst h10
   obtain ⟨k0, k1, k2, k3, k4, k5, k6, k7, k8, k9⟩ := tW hq0 rfl rfl rfl rfl rfl rfl rfl rfl rfl rfl
   go_wp2_with fail
   refine (iW base bs t ps vs ls _ _ _ ⟨10, A, B, C0, a, l, mn, mx, us, co⟩ w0 hS0 hB hv6).mono ?_
   rintro e w1 ⟨E, n, rfl, hTi, hA, hE2⟩
   have hy1 := hTi.box _ _ _ ne4 (by decide) hq1
   have hT1 : eZ base bs w w1 := hT0.trans hTi
   have hbx : kQ w1 (w.heap.size + 1) 61 := ⟨_, hy1⟩
   clear k0 k1 k2 k3 k4 k5 k6 k7 k8 k9
   obtain ⟨q0, q1, q2, q3⟩ := dN hy1 rfl rfl rfl rfl
   obtain ⟨qz0, qz1, qz2, qz3⟩ := iH hy1
   go_wp2_with fail
   go_meet
   case rel =>
    refine ⟨rfl, E, 0, 0, n, zC (zC (hy1)), ((hT1).put (by omega) (by omega)).put (by omega) (by omega), ?_, fun h => ?_⟩
    ·unfold kR; (iterate 11 rw [if_neg (by simp)]); rw [if_pos (show (10 : Int) ≤ 10 ∧ (10 : Int) ≤ 14 by decide)]; exact hA
    ·obtain ⟨k, u, vB, vV, vK, hk1, hk2, hR, hSr⟩ := hE2 h
     refine ⟨⟨t, ps, vs.set k u, ls⟩, vB, vV, vK, ((hSr).put hbx (by decide) ne1).put hbx.put (by decide) ne1, ?_⟩
     unfold mY; (iterate 11 rw [if_neg (by simp)])
     exact ⟨rfl, rfl, rfl, rfl, rfl, k, u, hk1, hk2, hR, rfl⟩
  have n10 : (op == 10) = false := by simpa using h10
  by_cases h11 : op = 11
  ·subst h11
   obtain ⟨k0, k1, k2, k3, k4, k5, k6, k7, k8, k9⟩ := tW hq0 rfl rfl rfl rfl rfl rfl rfl rfl rfl rfl
   go_wp2_with fail
   refine (iW base bs t ps vs ls _ _ _ ⟨11, A, B, C0, a, l, mn, mx, us, co⟩ w0 hS0 hB hv6).mono ?_
   rintro e w1 ⟨E, n, rfl, hTi, hA, hE2⟩
   have hy1 := hTi.box _ _ _ ne4 (by decide) hq1
   have hT1 : eZ base bs w w1 := hT0.trans hTi
   have hbx : kQ w1 (w.heap.size + 1) 61 := ⟨_, hy1⟩
   clear k0 k1 k2 k3 k4 k5 k6 k7 k8 k9
   obtain ⟨q0, q1, q2, q3⟩ := dN hy1 rfl rfl rfl rfl
   obtain ⟨qz0, qz1, qz2, qz3⟩ := iH hy1
   go_wp2_with fail
   go_meet
   case rel =>
    refine ⟨rfl, E, 0, 0, n, zC (zC (hy1)), ((hT1).put (by omega) (by omega)).put (by omega) (by omega), ?_, fun h => ?_⟩
    ·unfold kR; (iterate 11 rw [if_neg (by simp)]); rw [if_pos (show (10 : Int) ≤ 11 ∧ (11 : Int) ≤ 14 by decide)]; exact hA
    ·obtain ⟨k, u, vB, vV, vK, hk1, hk2, hR, hSr⟩ := hE2 h
     refine ⟨⟨t, ps, vs.set k u, ls⟩, vB, vV, vK, ((hSr).put hbx (by decide) ne1).put hbx.put (by decide) ne1, ?_⟩
     unfold mY; (iterate 11 rw [if_neg (by simp)])
     exact ⟨rfl, rfl, rfl, rfl, rfl, k, u, hk1, hk2, hR, rfl⟩
  have n11 : (op == 11) = false := by simpa using h11
  by_cases h12 : op = 12
  ·subst h12
   obtain ⟨k0, k1, k2, k3, k4, k5, k6, k7, k8, k9⟩ := tW hq0 rfl rfl rfl rfl rfl rfl rfl rfl rfl rfl
   go_wp2_with fail
   refine (iW base bs t ps vs ls _ _ _ ⟨12, A, B, C0, a, l, mn, mx, us, co⟩ w0 hS0 hB hv6).mono ?_
   rintro e w1 ⟨E, n, rfl, hTi, hA, hE2⟩
   have hy1 := hTi.box _ _ _ ne4 (by decide) hq1
   have hT1 : eZ base bs w w1 := hT0.trans hTi
   have hbx : kQ w1 (w.heap.size + 1) 61 := ⟨_, hy1⟩
   clear k0 k1 k2 k3 k4 k5 k6 k7 k8 k9
   obtain ⟨q0, q1, q2, q3⟩ := dN hy1 rfl rfl rfl rfl
   obtain ⟨qz0, qz1, qz2, qz3⟩ := iH hy1
   go_wp2_with fail
   go_meet
   case rel =>
    refine ⟨rfl, E, 0, 0, n, zC (zC (hy1)), ((hT1).put (by omega) (by omega)).put (by omega) (by omega), ?_, fun h => ?_⟩
    ·unfold kR; (iterate 11 rw [if_neg (by simp)]); rw [if_pos (show (10 : Int) ≤ 12 ∧ (12 : Int) ≤ 14 by decide)]; exact hA
    ·obtain ⟨k, u, vB, vV, vK, hk1, hk2, hR, hSr⟩ := hE2 h
     refine ⟨⟨t, ps, vs.set k u, ls⟩, vB, vV, vK, ((hSr).put hbx (by decide) ne1).put hbx.put (by decide) ne1, ?_⟩
     unfold mY; (iterate 11 rw [if_neg (by simp)])
     exact ⟨rfl, rfl, rfl, rfl, rfl, k, u, hk1, hk2, hR, rfl⟩
  have n12 : (op == 12) = false := by simpa using h12
  by_cases h13 : op = 13
  ·subst h13
   obtain ⟨k0, k1, k2, k3, k4, k5, k6, k7, k8, k9⟩ := tW hq0 rfl rfl rfl rfl rfl rfl rfl rfl rfl rfl
   go_wp2_with fail
   refine (iW base bs t ps vs ls _ _ _ ⟨13, A, B, C0, a, l, mn, mx, us, co⟩ w0 hS0 hB hv6).mono ?_
   rintro e w1 ⟨E, n, rfl, hTi, hA, hE2⟩
   have hy1 := hTi.box _ _ _ ne4 (by decide) hq1
   have hT1 : eZ base bs w w1 := hT0.trans hTi
   have hbx : kQ w1 (w.heap.size + 1) 61 := ⟨_, hy1⟩
   clear k0 k1 k2 k3 k4 k5 k6 k7 k8 k9
   obtain ⟨q0, q1, q2, q3⟩ := dN hy1 rfl rfl rfl rfl
   obtain ⟨qz0, qz1, qz2, qz3⟩ := iH hy1
   go_wp2_with fail
   go_meet
   case rel =>
    refine ⟨rfl, E, 0, 0, n, zC (zC (hy1)), ((hT1).put (by omega) (by omega)).put (by omega) (by omega), ?_, fun h => ?_⟩
    ·unfold kR; (iterate 11 rw [if_neg (by simp)]); rw [if_pos (show (10 : Int) ≤ 13 ∧ (13 : Int) ≤ 14 by decide)]; exact hA
    ·obtain ⟨k, u, vB, vV, vK, hk1, hk2, hR, hSr⟩ := hE2 h
     refine ⟨⟨t, ps, vs.set k u, ls⟩, vB, vV, vK, ((hSr).put hbx (by decide) ne1).put hbx.put (by decide) ne1, ?_⟩
     unfold mY; (iterate 11 rw [if_neg (by simp)])
     exact ⟨rfl, rfl, rfl, rfl, rfl, k, u, hk1, hk2, hR, rfl⟩
  have n13 : (op == 13) = false := by simpa using h13
  by_cases h14 : op = 14
  ·subst h14
   obtain ⟨k0, k1, k2, k3, k4, k5, k6, k7, k8, k9⟩ := tW hq0 rfl rfl rfl rfl rfl rfl rfl rfl rfl rfl
   go_wp2_with fail
   refine (iW base bs t ps vs ls _ _ _ ⟨14, A, B, C0, a, l, mn, mx, us, co⟩ w0 hS0 hB hv6).mono ?_
   rintro e w1 ⟨E, n, rfl, hTi, hA, hE2⟩
   have hy1 := hTi.box _ _ _ ne4 (by decide) hq1
   have hT1 : eZ base bs w w1 := hT0.trans hTi
   have hbx : kQ w1 (w.heap.size + 1) 61 := ⟨_, hy1⟩
   clear k0 k1 k2 k3 k4 k5 k6 k7 k8 k9
   obtain ⟨q0, q1, q2, q3⟩ := dN hy1 rfl rfl rfl rfl
   obtain ⟨qz0, qz1, qz2, qz3⟩ := iH hy1
   go_wp2_with fail
   go_meet
   case rel =>
    refine ⟨rfl, E, 0, 0, n, zC (zC (hy1)), ((hT1).put (by omega) (by omega)).put (by omega) (by omega), ?_, fun h => ?_⟩
    ·unfold kR; (iterate 11 rw [if_neg (by simp)]); rw [if_pos (show (10 : Int) ≤ 14 ∧ (14 : Int) ≤ 14 by decide)]; exact hA
    ·obtain ⟨k, u, vB, vV, vK, hk1, hk2, hR, hSr⟩ := hE2 h
     refine ⟨⟨t, ps, vs.set k u, ls⟩, vB, vV, vK, ((hSr).put hbx (by decide) ne1).put hbx.put (by decide) ne1, ?_⟩
     unfold mY; (iterate 11 rw [if_neg (by simp)])
     exact ⟨rfl, rfl, rfl, rfl, rfl, k, u, hk1, hk2, hR, rfl⟩
  have n14 : (op == 14) = false := by simpa using h14
  by_cases h15 : op = 15
  ·subst h15
   go_upto_region 28 with fail
   have s2 := Ws.here (aX hS0.box 2 rfl)
   have s3 := Ws.here (aX hS0.box 3 rfl)
   have k1 := Ws.here (aX hq0 1 rfl)
   have k2 := Ws.here (aX hq0 2 rfl)
   refine aW [0, 1, 2, 3, 4, 5, 6, 7, 8] 9 [10, 11, 12, 13, 14] [15, 16, 17] (by kernel_rfl) (by kernel_rfl) (fun d _ _ _ _ h => by cases d <;> exact h) ?_
   simp only [zK, zM, zI, zJ]
   repeat (go_big_quiet_step (fail))
   refine wpQuiet_nil ?_
   clear s2 s3 k1 k2
   intro K hK
   go_wp2_with fail
   refine (PE X vs.length C vs Y ls.length D ls A B w0.drew ((hvs.later hB0).later (zD).drew) hv63 hvc ((hps.later hB0).later (zD).drew) hl63).mono ?_
   rintro e w1 ⟨V, rfl, hb3, hV0, hV1⟩
   have hB1 : Below w0.heap.size w0 w1 := ⟨hb3.os, hb3.tape, hb3.output, hb3.size, hb3.block⟩
   obtain ⟨y1, m1, d1, y2, m2, d2, rfl⟩ := qC hV0 hV1
   clear hV0
   go_wp2_with fail
   refine aD (hK.out _ _ hB1 ?_)
   clear hK K
   repeat (go_big_quiet_step (fail))
   refine wpQuiet_nil ?_
   have hS1 := hS0.later hB1
   have hy1 := aA hB1 hq1
   have hT1 : eZ base bs w w1 := hT0.trans (eZ.of hB1 hlo0)
   have hbx : kQ w1 (w.heap.size + 1) 61 := ⟨_, hy1⟩
   obtain ⟨g0, g1, g2, g3⟩ := dN hS1.box rfl rfl rfl rfl
   obtain ⟨gz0, gz1, gz2, gz3⟩ := iH hS1.box
   obtain ⟨q0, q1, q2, q3⟩ := dN hy1 rfl rfl rfl rfl
   obtain ⟨qz0, qz1, qz2, qz3⟩ := iH hy1
   go_wp2_with fail
   go_meet
   case rel =>
    refine ⟨rfl, lZ vs.length vs ls.length ls A B, 0, 0, 0, zC ((zB ne4).trans ((zB ne4).trans (hy1))), ((hT1.set hlow).set hlow).put (by omega) (by omega), ?_, fun h => ?_⟩
    ·unfold kR; (iterate 9 rw [if_neg (by simp)]); rw [if_pos rfl]
    ·obtain ⟨us', ms, ⟨v', k', e', hOV, hVo, hOK⟩, hR⟩ := hV1 h
     cases e'
     have hlo : base ≤ w0.drew.heap.size := hlo0
     refine ⟨⟨t, ps, us', ms⟩, _, _, _, (hS1.putN (hOV.low hlo) (fun u hu => ((hVo u hu).low hlo).vty) (hOK.low hlo)).put hbx.put.put (by decide) ne1, ?_⟩
     unfold mY; (iterate 9 rw [if_neg (by simp)]); rw [if_pos rfl]
     exact ⟨rfl, rfl, rfl, rfl, rfl, hR⟩
  have n15 : (op == 15) = false := by simpa using h15
  by_cases h16 : op = 16
  ·subst h16
   go_upto_region 30 with fail
   have s2 := Ws.here (aX hS0.box 2 rfl)
   have s3 := Ws.here (aX hS0.box 3 rfl)
   have k1 := Ws.here (aX hq0 1 rfl)
   have k2 := Ws.here (aX hq0 2 rfl)
   refine aW [0, 1, 2, 3, 4, 5, 6, 7, 8] 9 [10, 11, 12, 13, 14] [15, 16, 17] (by kernel_rfl) (by kernel_rfl) (fun d _ _ _ _ h => by cases d <;> exact h) ?_
   simp only [zK, zM, zI, zJ]
   repeat (go_big_quiet_step (fail))
   refine wpQuiet_nil ?_
   clear s2 s3 k1 k2
   intro K hK
   go_wp2_with fail
   refine (PB X vs.length C vs Y ls.length D ls A B w0.drew ((hvs.later hB0).later (zD).drew) hv63 hvc ((hps.later hB0).later (zD).drew) hl63).mono ?_
   rintro e w1 ⟨V, rfl, hb3, hV0, hV1⟩
   have hB1 : Below w0.heap.size w0 w1 := ⟨hb3.os, hb3.tape, hb3.output, hb3.size, hb3.block⟩
   obtain ⟨y1, m1, d1, y2, m2, d2, rfl⟩ := qC hV0 hV1
   clear hV0
   go_wp2_with fail
   refine aD (hK.out _ _ hB1 ?_)
   clear hK K
   repeat (go_big_quiet_step (fail))
   refine wpQuiet_nil ?_
   have hS1 := hS0.later hB1
   have hy1 := aA hB1 hq1
   have hT1 : eZ base bs w w1 := hT0.trans (eZ.of hB1 hlo0)
   have hbx : kQ w1 (w.heap.size + 1) 61 := ⟨_, hy1⟩
   obtain ⟨g0, g1, g2, g3⟩ := dN hS1.box rfl rfl rfl rfl
   obtain ⟨gz0, gz1, gz2, gz3⟩ := iH hS1.box
   obtain ⟨q0, q1, q2, q3⟩ := dN hy1 rfl rfl rfl rfl
   obtain ⟨qz0, qz1, qz2, qz3⟩ := iH hy1
   go_wp2_with fail
   go_meet
   case rel =>
    refine ⟨rfl, vZ vs.length vs ls.length ls A B, 0, 0, 0, zC ((zB ne4).trans ((zB ne4).trans (hy1))), ((hT1.set hlow).set hlow).put (by omega) (by omega), ?_, fun h => ?_⟩
    ·unfold kR; (iterate 10 rw [if_neg (by simp)]); rw [if_pos rfl]
    ·obtain ⟨us', ms, ⟨v', k', e', hOV, hVo, hOK⟩, hR⟩ := hV1 h
     cases e'
     have hlo : base ≤ w0.drew.heap.size := hlo0
     refine ⟨⟨t, ps, us', ms⟩, _, _, _, (hS1.putN (hOV.low hlo) (fun u hu => ((hVo u hu).low hlo).vty) (hOK.low hlo)).put hbx.put.put (by decide) ne1, ?_⟩
     unfold mY; (iterate 10 rw [if_neg (by simp)]); rw [if_pos rfl]
     exact ⟨rfl, rfl, rfl, rfl, rfl, hR⟩
  have n16 : (op == 16) = false := by simpa using h16
  obtain ⟨q0, q1, q2, q3⟩ := dN hq1 rfl rfl rfl rfl
  obtain ⟨qz0, qz1, qz2, qz3⟩ := iH hq1
  go_wp2_with fail
  go_meet
  case rel =>
   refine ⟨rfl, 4, 0, 0, 0, zC hq1, hT0.put (by omega) (by omega), ?_, fun h => absurd h (by decide)⟩
   unfold kR
   rw [if_neg h1, if_neg h2, if_neg h3, if_neg h4, if_neg h5, if_neg h6, if_neg h7, if_neg h8, if_neg h9, if_neg h15, if_neg h16, if_neg (show ¬ (10 ≤ op ∧ op ≤ 14) by omega)]
 case rest =>
  obtain ⟨rfl, E, a', l', n, hy, hTc, hE, hR⟩ := hcut
  have hbx : kQ wc (w.heap.size + 1) 61 := ⟨_, hy⟩
  obtain ⟨q0, q1, q2, q3⟩ := dN hy rfl rfl rfl rfl
  obtain ⟨qz0, qz1, qz2, qz3⟩ := iH hy
  go_wp2
  refine bodyPost_ret (v := RX E a' l' n) (by simp [results, Tryz.results28, go_sem, q0, q1, q2, q3]) rfl ?_
  refine ⟨E, a', l', n, rfl, (((hTc.put (by omega) (by omega)).put (by omega) (by omega)).put (by omega) (by omega)).put (by omega) (by omega), hE, fun h => ?_⟩
  obtain ⟨r, vB, vV, vK, hSr, hr⟩ := hR h
  exact ⟨r, vB, vV, vK, (((hSr.put hbx (by decide) ne1).put hbx.put (by decide) ne1).put hbx.put.put (by decide) ne1).put hbx.put.put.put (by decide) ne1, hr⟩
def kO (s q : fJ) : Prop := q.t = s.t ∧ cD s.ps q.ps ∧ cI s.vs q.vs ∧ q.ls = s.ls
def rU (s : fJ) (cd : Cd) (E a l n : Int) (r : fJ) : Prop := ∃ q, kO s q ∧ ((E ≠ 0 ∧ (∃ n', kR q cd E n') ∧ a = 0 ∧ l = 0 ∧ n = 0 ∧ kO s r) ∨ (E = 0 ∧ kR q cd 0 n ∧ mY q cd a l n r))
def UX (s : fJ) (cd : Cd) (w : World) (e : Ending) (w' : World) : Prop :=
 ∃ E a l n r vB vV vK, e = .returned (.tuple #[IY r.t vB vV vK, RX E a l n]) ∧ Below w.heap.size w w' ∧ SO w' w.heap.size r.ps r.vs r.ls vB vV vK ∧ rU s cd E a l n r
structure wC (w : World) (b c : Nat) : Type where
 val : World
 p1 : val.heap[b]? = w.heap[b]?
 p2 : val.heap[c]? = w.heap[c]?
@[simp] theorem wC.all_const (w : World) (b c : Nat) (p : Prop) : (wC w b c → p) ↔ p := ⟨fun h => h ⟨w, rfl, rfl⟩, fun h _ => h⟩
theorem SO.slices (h : SO w base ps vs ls vB vV vK) : ∃ x c X C Y D, vB = .slice x ps.length c ∧ vV = .slice X vs.length C ∧ vK = .slice Y ls.length D := by
 obtain ⟨x, c, h1, -⟩ := h.bk.row.mem
 obtain ⟨X, C, h2, -⟩ := h.row.mem
 obtain ⟨Y, D, h3, -⟩ := h.lks.mem
 exact ⟨x, c, X, C, Y, D, h1, h2, h3⟩
theorem GJ (t : Int) (x : Option Addr) (n c : Nat) (ps : List Po) (X : Option Addr) (vn C : Nat) (vs : List Vn) (Y : Option Addr) (ln D : Nat) (ls : List (Int × Int)) (cd : Cd) (w : World) (hs : Si w x n c ps X vn C vs Y ln ls) (hB : aV t ps = 0) (hN : bU vn vs ln ls = 0) (hcw : CA cd.A cd.a cd.l) :
  Calls Tryz.prog 16 #[IY t (.slice x n c) (.slice X vn C) (.slice Y ln D), QJ cd] w (UX ⟨t, ps, vs, ls⟩ cd w) := by
 obtain ⟨-, h6, -, -⟩ := GI hs.bk.full hB hN
 have hvl : Hid (vs.length = vn) := hs.vps.len
 go_enter Tryz.func16, Tryz.ntmps16
 go_upto_region 1 with fail
 obtain ⟨w0, hw0⟩ : ∃ w0, w0 = (((w.alloc (kP t (.slice x n c) (.slice X vn C) (.slice Y ln D))).alloc (A7 cd)).alloc (kP 0 (.slice none 0 0) (.slice none 0 0) (.slice none 0 0))).alloc (rT 0 0 0 0) := ⟨_, rfl⟩
 rw [← hw0]
 have hB0 : Below w.heap.size w w0 := by rw [hw0]; exact ((cC w _ _).alloc (by simp; omega) _).alloc (by simp; omega) _
 have hq0 : w0.heap[w.heap.size]? = some (kP t (.slice x n c) (.slice X vn C) (.slice Y ln D)) := by rw [hw0]; exact aF _ (aF _ (aF _ (aB _ rfl)))
 have hq1 : w0.heap[w.heap.size + 1]? = some (A7 cd) := by rw [hw0]; exact aF _ (aF _ (aB _ (by simp)))
 have hq2 : w0.heap[w.heap.size + 2]? = some (kP 0 (.slice none 0 0) (.slice none 0 0) (.slice none 0 0)) := by rw [hw0]; exact aF _ (aB _ (by simp))
 have hq3 : w0.heap[w.heap.size + 3]? = some (rT 0 0 0 0) := by rw [hw0]; exact aB _ (by simp)
 clear hw0
 have hz3 : w.heap.size + 3 < w0.heap.size := (zG hq3)
 obtain ⟨s0, s1, s2, s3⟩ := dN hq0 rfl rfl rfl rfl
 go_wp2_with fail
 refine (CE t x n c ps X vn C vs Y ln D ls w0 (hs.later hB0) hB hN).mono ?_
 rintro e w1 ⟨vB, vV, vK, qs, us, rfl, hb1, hO1, hsq, hsu⟩
 obtain ⟨x1, c1, X1, C1, Y1, D1, rfl, rfl, rfl⟩ := hO1.slices
 clear s0 s1 s2 s3
 go_upto_region 2 with fail
 obtain ⟨w2, hw2⟩ : ∃ w2, w2 = w1.alloc (kP t (.slice x1 qs.length c1) (.slice X1 us.length C1) (.slice Y1 ls.length D1)) := ⟨_, rfl⟩
 rw [← hw2]
 have hb2 : Below w1.heap.size w1 w2 := by rw [hw2]; exact bl1 w1 _
 have hbx2 : w2.heap[w1.heap.size]? = some (kP t (.slice x1 qs.length c1) (.slice X1 us.length C1) (.slice Y1 ls.length D1)) := by rw [hw2]; exact aB _ rfl
 clear hw2
 have hz1 := hb1.size
 have hS2 : kV w2 w.heap.size w1.heap.size t qs us ls (.slice x1 qs.length c1) (.slice X1 us.length C1) (.slice Y1 ls.length D1) := ⟨hbx2, by omega, (hO1.low hB0.size).later hb2⟩
 have hB2 : Below w0.heap.size w0 w2 := hb1.trans (hb2.mono hz1)
 have hp1 := aA hB2 hq1
 have hqB : aV t qs = 0 := (oK hs.bk.full hsq hB).1
 have hu6 : us.length ≤ 6 := by rw [← hsu.1, hvl.out]; exact h6
 obtain ⟨k0, k1, k2, k3, k4, k5, k6, k7, k8, k9⟩ := tW hp1 rfl rfl rfl rfl rfl rfl rfl rfl rfl rfl
 go_wp2_with fail
 refine (RY w.heap.size w1.heap.size t qs us ls _ _ _ cd w2 hS2 hqB hu6 hcw).mono ?_
 rintro e w3 ⟨E, a, l, n', rfl, hT3, hE, hR⟩
 clear k0 k1 k2 k3 k4 k5 k6 k7 k8 k9
 have hn : ∀ k, k < w0.heap.size → k ≠ w1.heap.size := fun k hk => by omega
 have h30 := hT3.box _ _ _ (hn _ (by omega)) (by decide) (aA hB2 hq0)
 have h32 := hT3.box _ _ _ (hn _ (by omega)) (by decide) (aA hB2 hq2)
 have h33 := hT3.box _ _ _ (hn _ (by omega)) (by decide) (aA hB2 hq3)
 have h3x : w1.heap.size < w3.heap.size := Nat.lt_of_lt_of_le (zG hbx2) hT3.below.size
 have hBw3 : Below w.heap.size w w3 := (hB0.trans (hB2.mono hB0.size)).trans hT3.below
 go_upto_region 3 with fail
 obtain ⟨w4, hw4⟩ : ∃ w4, w4 = w3.alloc (rT E a l n') := ⟨_, rfl⟩
 rw [← hw4]
 have hb4 : Below w3.heap.size w3 w4 := by rw [hw4]; exact bl1 w3 _
 have h4a : w4.heap[w3.heap.size]? = some (rT E a l n') := by rw [hw4]; exact aB _ rfl
 clear hw4
 have h40 := aA hb4 h30
 have h42 := aA hb4 h32
 have h43 := aA hb4 h33
 have hBw4 : Below w.heap.size w w4 := hBw3.trans (hb4.mono hBw3.size)
 have hsq' : Hid (kO ⟨t, ps, vs, ls⟩ ⟨t, qs, us, ls⟩) := ⟨rfl, hsq, hsu, rfl⟩
 have hE' : Hid (kR ⟨t, qs, us, ls⟩ cd E n') := hE
 have e0 := aX h4a 0 rfl
 clear hE h30 h32 h33 hsq hsu hbx2 hp1 hq0 hq1 hq2 hq3
 by_cases h0 : E = 0
 ·subst h0
  obtain ⟨r, vB, vV, vK, hSr, hRr⟩ := hR rfl
  have hR' : Hid (mY ⟨t, qs, us, ls⟩ cd a l n' r) := hRr
  clear hRr hR
  obtain ⟨x5, c5, X5, C5, Y5, D5, rfl, rfl, rfl⟩ := hSr.own.slices
  have hS4 := hSr.later hb4
  go_upto_region 5 with fail
  clear e0
  have s0 : ∀ u : wC w4 w1.heap.size w3.heap.size, u.val.cell? ⟨w1.heap.size, 0, none⟩ = some (.int .i64 r.t) := fun u => (aE (u.p1.trans hS4.box)).1 0
  have s1 : ∀ u : wC w4 w1.heap.size w3.heap.size, u.val.cell? ⟨w1.heap.size, 1, none⟩ = some (.slice x5 r.ps.length c5) := fun u => (aE (u.p1.trans hS4.box)).1 1
  have s2 : ∀ u : wC w4 w1.heap.size w3.heap.size, u.val.cell? ⟨w1.heap.size, 2, none⟩ = some (.slice X5 r.vs.length C5) := fun u => (aE (u.p1.trans hS4.box)).1 2
  have s3 : ∀ u : wC w4 w1.heap.size w3.heap.size, u.val.cell? ⟨w1.heap.size, 3, none⟩ = some (.slice Y5 r.ls.length D5) := fun u => (aE (u.p1.trans hS4.box)).1 3
  have a0 : ∀ u : wC w4 w1.heap.size w3.heap.size, u.val.cell? ⟨w3.heap.size, 0, none⟩ = some (.int .i64 0) := fun u => (aE (u.p2.trans h4a)).1 0
  have a1 : ∀ u : wC w4 w1.heap.size w3.heap.size, u.val.cell? ⟨w3.heap.size, 1, none⟩ = some (.int .i64 a) := fun u => (aE (u.p2.trans h4a)).1 1
  have a2 : ∀ u : wC w4 w1.heap.size w3.heap.size, u.val.cell? ⟨w3.heap.size, 2, none⟩ = some (.int .i64 l) := fun u => (aE (u.p2.trans h4a)).1 2
  have a3 : ∀ u : wC w4 w1.heap.size w3.heap.size, u.val.cell? ⟨w3.heap.size, 3, none⟩ = some (.int .i64 n') := fun u => (aE (u.p2.trans h4a)).1 3
  refine bG (fun w' => ∃ u : wC w4 w1.heap.size w3.heap.size, w' = u.val) (fun j => decide (j < 3)) 4 _ (by kernel_rfl) rfl rfl ?_
  refine aY 2 [0, 1] rfl _ rfl (by kernel_rfl) (fun d _ _ _ _ h => by cases d <;> exact h) ⟨⟨w4.drew, rfl, rfl⟩, rfl⟩ ?_
  simp only [zK, zM, zI, zJ]
  repeat (go_big_quiet_step (fail))
  refine wpQuiet_nil ?_
  clear s0 s1 s2 s3 a0 a1 a2 a3
  have b2 : kQ w4 (w.heap.size + 2) 31 := ⟨_, h42⟩
  have hO5 := hS4.own
  obtain ⟨p0, p1, p2, p3⟩ := dN h42 rfl rfl rfl rfl
  obtain ⟨pz0, pz1, pz2, pz3⟩ := iH h42
  refine aS 2 _ _ (by kernel_rfl) (by kernel_rfl) rfl rfl ?_
  intro K hK
  simp only [zI, zJ]
  go_wp2_with fail
  obtain ⟨w6, hw6⟩ : ∃ w6, w6 = ((((w4.setCell ⟨w.heap.size + 2, 0, none⟩ (.int .i64 r.t)).setCell ⟨w.heap.size + 2, 1, none⟩ (.slice x5 r.ps.length c5)).setCell ⟨w.heap.size + 2, 2, none⟩ (.slice X5 r.vs.length C5)).setCell ⟨w.heap.size + 2, 3, none⟩ (.slice Y5 r.ls.length D5)).drew := ⟨_, rfl⟩
  rw [← hw6]
  have hoth : ∀ k, k ≠ w.heap.size + 2 → w6.heap[k]? = w4.heap[k]? := fun k hk => by rw [hw6]; exact (zB hk).trans ((zB hk).trans ((zB hk).trans (zB hk)))
  have h62 : w6.heap[w.heap.size + 2]? = some (kP r.t (.slice x5 r.ps.length c5) (.slice X5 r.vs.length C5) (.slice Y5 r.ls.length D5)) := by rw [hw6]; exact zC (zC (zC (zC h42)))
  have hB6 : Below w.heap.size w w6 := by rw [hw6]; exact (((((hBw4).setCell (p := ⟨w.heap.size + 2, 0, none⟩) (zA) _).setCell (p := ⟨w.heap.size + 2, 1, none⟩) (zA) _).setCell (p := ⟨w.heap.size + 2, 2, none⟩) (zA) _).setCell (p := ⟨w.heap.size + 2, 3, none⟩) (zA) _).drew
  have hO7 : SO w6 w.heap.size r.ps r.vs r.ls (.slice x5 r.ps.length c5) (.slice X5 r.vs.length C5) (.slice Y5 r.ls.length D5) := by rw [hw6]; exact (((((hO5).put b2 (by decide)).put b2.put (by decide)).put b2.put.put (by decide)).put b2.put.put.put (by decide)).later (zD).drew
  have h63 := (hoth _ (by omega)).trans h43
  have h3w : w3.heap.size ≠ w.heap.size + 2 := by omega
  refine aD (hK.out _ _ ⟨⟨w6, hoth _ (by omega), hoth _ h3w⟩, rfl⟩ ?_)
  clear hK K hw6 p0 p1 p2 p3 pz0 pz1 pz2 pz3 hoth h42 h43 hO5 b2
  refine aU [3] rfl (by kernel_rfl) ?_
  simp only [zK, zM, zI, zJ]
  have b3 : kQ w6 (w.heap.size + 3) 61 := ⟨_, h63⟩
  obtain ⟨p0, p1, p2, p3⟩ := dN h62 rfl rfl rfl rfl
  obtain ⟨pz0, pz1, pz2, pz3⟩ := iH h62
  obtain ⟨q0, q1, q2, q3⟩ := dN h63 rfl rfl rfl rfl
  obtain ⟨qz0, qz1, qz2, qz3⟩ := iH h63
  go_wp2
  refine bodyPost_ret (v := .tuple #[IY r.t (.slice x5 r.ps.length c5) (.slice X5 r.vs.length C5) (.slice Y5 r.ls.length D5), RX 0 a l n']) (by simp [results, Tryz.results16, go_sem, p0, p1, p2, p3, q0, q1, q2, q3]) rfl ?_
  exact ⟨0, a, l, n', r, _, _, _, rfl, ((((hB6).setCell (p := ⟨w.heap.size + 3, 0, none⟩) (zA) _).setCell (p := ⟨w.heap.size + 3, 1, none⟩) (zA) _).setCell (p := ⟨w.heap.size + 3, 2, none⟩) (zA) _).setCell (p := ⟨w.heap.size + 3, 3, none⟩) (zA) _, ((((hO7).put b3 (by decide)).put b3.put (by decide)).put b3.put.put (by decide)).put b3.put.put.put (by decide), ⟨t, qs, us, ls⟩, hsq'.out, .inr ⟨rfl, hE'.out, hR'.out⟩⟩
 ·have hne : (E != 0) = true := by simpa using h0
  have h0' : Hid (E ≠ 0) := h0
  clear hR h0
  go_upto_region 4 with fail
  clear e0 hne
  have s0 : ∀ u : wC w4 w.heap.size w3.heap.size, u.val.cell? ⟨w.heap.size, 0, none⟩ = some (.int .i64 t) := fun u => (aE (u.p1.trans h40)).1 0
  have s1 : ∀ u : wC w4 w.heap.size w3.heap.size, u.val.cell? ⟨w.heap.size, 1, none⟩ = some (.slice x n c) := fun u => (aE (u.p1.trans h40)).1 1
  have s2 : ∀ u : wC w4 w.heap.size w3.heap.size, u.val.cell? ⟨w.heap.size, 2, none⟩ = some (.slice X vn C) := fun u => (aE (u.p1.trans h40)).1 2
  have s3 : ∀ u : wC w4 w.heap.size w3.heap.size, u.val.cell? ⟨w.heap.size, 3, none⟩ = some (.slice Y ln D) := fun u => (aE (u.p1.trans h40)).1 3
  have a0 : ∀ u : wC w4 w.heap.size w3.heap.size, u.val.cell? ⟨w3.heap.size, 0, none⟩ = some (.int .i64 E) := fun u => (aE (u.p2.trans h4a)).1 0
  have hl3 : w3.heap.size < w4.heap.size := (zG h4a)
  have hl0 : w.heap.size < w4.heap.size := (zG h40)
  refine bG (fun w' => ∃ u : wC w4 w.heap.size w3.heap.size, w' = u.val) (fun j => decide (j < 6)) 7 _ (by kernel_rfl) rfl rfl ?_
  refine aY 3 [0, 2, 3, 4] rfl _ rfl (by kernel_rfl) (fun d _ _ _ _ h => by cases d <;> exact h) ⟨⟨w4.drew, rfl, rfl⟩, rfl⟩ ?_
  simp only [zK, zM, zI, zJ]
  repeat (go_big_quiet_step (fail))
  refine wpQuiet_nil ?_
  clear s0 s1 s2 s3 a0
  refine aS 1 _ _ (by kernel_rfl) (by kernel_rfl) rfl rfl ?_
  intro K hK
  simp only [zI, zJ]
  go_wp2_with fail
  refine (CE t x n c ps X vn C vs Y ln D ls w4.drew ((hs.later hBw4).later (zD).drew) hB hN).mono ?_
  rintro e w5 ⟨vB, vV, vK, qs2, us2, rfl, hb5, hO5, hsq2, hsu2⟩
  have hB1 : Below w4.heap.size w4 w5 := ⟨hb5.os, hb5.tape, hb5.output, hb5.size, hb5.block⟩
  obtain ⟨x5, c5, X5, C5, Y5, D5, rfl, rfl, rfl⟩ := hO5.slices
  go_wp2_with fail
  refine aD (hK.out _ _ ⟨⟨w5, hB1.block _ hl0, hB1.block _ hl3⟩, rfl⟩ ?_)
  clear hK K
  have h52 := aA hB1 h42
  have h53 := aA hB1 h43
  have hB5 : Below w.heap.size w w5 := hBw4.trans (hB1.mono hBw4.size)
  have hO6 : SO w5 w.heap.size qs2 us2 ls (.slice x5 qs2.length c5) (.slice X5 us2.length C5) (.slice Y5 ls.length D5) := hO5.low hBw4.size
  have b2 : kQ w5 (w.heap.size + 2) 31 := ⟨_, h52⟩
  have b3 : kQ w5 (w.heap.size + 3) 61 := ⟨_, h53⟩
  have hsT : Hid (kO ⟨t, ps, vs, ls⟩ ⟨t, qs2, us2, ls⟩) := ⟨rfl, hsq2, hsu2, rfl⟩
  clear hb5 hO5 hsq2 hsu2
  obtain ⟨p0, p1, p2, p3⟩ := dN h52 rfl rfl rfl rfl
  obtain ⟨pz0, pz1, pz2, pz3⟩ := iH h52
  refine aS 5 _ _ (by kernel_rfl) (by kernel_rfl) rfl rfl ?_
  intro K hK
  simp only [zI, zJ]
  go_wp2_with fail
  obtain ⟨w6, hw6⟩ : ∃ w6, w6 = (((w5.setCell ⟨w.heap.size + 2, 0, none⟩ (.int .i64 t)).setCell ⟨w.heap.size + 2, 1, none⟩ (.slice x5 qs2.length c5)).setCell ⟨w.heap.size + 2, 2, none⟩ (.slice X5 us2.length C5)).setCell ⟨w.heap.size + 2, 3, none⟩ (.slice Y5 ls.length D5) := ⟨_, rfl⟩
  rw [← hw6]
  have hoth : ∀ k, k ≠ w.heap.size + 2 → w6.heap[k]? = w5.heap[k]? := fun k hk => by rw [hw6]; exact (zB hk).trans ((zB hk).trans ((zB hk).trans (zB hk)))
  have h62 : w6.heap[w.heap.size + 2]? = some (kP t (.slice x5 qs2.length c5) (.slice X5 us2.length C5) (.slice Y5 ls.length D5)) := by rw [hw6]; exact zC (zC (zC (zC h52)))
  have hB6 : Below w.heap.size w w6 := by rw [hw6]; exact ((((hB5).setCell (p := ⟨w.heap.size + 2, 0, none⟩) (zA) _).setCell (p := ⟨w.heap.size + 2, 1, none⟩) (zA) _).setCell (p := ⟨w.heap.size + 2, 2, none⟩) (zA) _).setCell (p := ⟨w.heap.size + 2, 3, none⟩) (zA) _
  have hO7 : SO w6 w.heap.size qs2 us2 ls (.slice x5 qs2.length c5) (.slice X5 us2.length C5) (.slice Y5 ls.length D5) := by rw [hw6]; exact ((((hO6).put b2 (by decide)).put b2.put (by decide)).put b2.put.put (by decide)).put b2.put.put.put (by decide)
  have h63 := (hoth _ (by omega)).trans h53
  have h3w : w3.heap.size ≠ w.heap.size + 2 := by omega
  refine aD (hK.out _ _ ⟨⟨w6, (hoth _ (by omega)).trans (hB1.block _ hl0), (hoth _ h3w).trans (hB1.block _ hl3)⟩, rfl⟩ ?_)
  clear hK K hw6 p0 p1 p2 p3 pz0 pz1 pz2 pz3 hoth h52 h53 hO6 hB5 b2 b3
  refine aU [6] rfl (by kernel_rfl) ?_
  simp only [zK, zM, zI, zJ]
  have b3 : kQ w6 (w.heap.size + 3) 61 := ⟨_, h63⟩
  obtain ⟨p0, p1, p2, p3⟩ := dN h62 rfl rfl rfl rfl
  obtain ⟨pz0, pz1, pz2, pz3⟩ := iH h62
  obtain ⟨q0, q1, q2, q3⟩ := dN h63 rfl rfl rfl rfl
  obtain ⟨qz0, qz1, qz2, qz3⟩ := iH h63
  go_wp2
  refine bodyPost_ret (v := .tuple #[IY t (.slice x5 qs2.length c5) (.slice X5 us2.length C5) (.slice Y5 ls.length D5), RX E 0 0 0]) (by simp [results, Tryz.results16, go_sem, p0, p1, p2, p3, q0, q1, q2, q3]) rfl ?_
  exact ⟨E, 0, 0, 0, ⟨t, qs2, us2, ls⟩, _, _, _, rfl, ((((hB6).setCell (p := ⟨w.heap.size + 3, 0, none⟩) (zA) _).setCell (p := ⟨w.heap.size + 3, 1, none⟩) (zA) _).setCell (p := ⟨w.heap.size + 3, 2, none⟩) (zA) _).setCell (p := ⟨w.heap.size + 3, 3, none⟩) (zA) _, ((((hO7).put b3 (by decide)).put b3.put (by decide)).put b3.put.put (by decide)).put b3.put.put.put (by decide), ⟨t, qs, us, ls⟩, hsq'.out, .inl ⟨h0'.out, ⟨n', hE'.out⟩, rfl, rfl, rfl, hsT.out⟩⟩
structure nJ (v : Vn) : Prop where
 rl : v.rs.length = v.rn
 sl : PT v.sn v.ss
theorem lI.full (h : lI w v) : nJ v := ⟨h.2.2.2.ranges.len, h.2.2.2.lens⟩
theorem nJ.same (h : nJ v) (hs : nI v u) : nJ u := by
 obtain ⟨-, h2, h3, h4, h5⟩ := hs
 refine ⟨by rw [← h3, ← h2]; exact h.rl, ?_⟩
 have hl := h.sl.subs
 rw [← h4]
 refine ⟨by rw [← h5.1]; exact hl, fun i hi => ?_, fun i hi j hj => ?_⟩
 ·obtain ⟨-, -, -, g4, g5⟩ := h5.2 i (by omega)
  rw [← g5.1, ← g4]
  exact h.sl.fcs i hi
 ·obtain ⟨-, -, -, g4, g5⟩ := h5.2 i (by omega)
  obtain ⟨-, k2, k3⟩ := g5.2 j (by rw [h.sl.fcs i hi, g4]; exact hj)
  rw [← k3, ← k2]
  exact h.sl.ads i hi j (by rw [g4]; exact hj)
structure bF (s : fJ) : Prop where
 bk : aV s.t s.ps = 0
 full : bX s.ps
 net : bU s.vs.length s.vs s.ls.length s.ls = 0
 fullV : ∀ v ∈ s.vs, nJ v
 agr : tM s.ps (netR s.vs)
theorem tK (vs : List Vn) : netR (vs.map dK) = netR vs := by
 unfold netR
 rw [List.map_map]
 rfl
theorem eN {x : Int × List (Int × Int × Int)} : x ∈ netR vs ↔ ∃ i, i < vs.length ∧ x = ((aC vs i).id, (aC vs i).rs.map GC) := by
 unfold netR
 rw [List.mem_map]
 constructor
 ·rintro ⟨v, hv, rfl⟩
  obtain ⟨i, hi, rfl⟩ := dX hv
  exact ⟨i, hi, rfl⟩
 ·rintro ⟨i, hi, rfl⟩
  exact ⟨_, cX hi, rfl⟩
theorem qD (h : cI vs us) : bU us.length us n ls = bU vs.length vs n ls := by
 rw [← kK us.length us, ← kK vs.length vs, ← h.can, h.1]
theorem qE (h : cI vs us) : netR us = netR vs := by rw [← tK us, ← tK vs, h.can]
theorem bF.same {s q : fJ} (h : bF s) (hq : kO s q) : bF q := by
 obtain ⟨qt, qps, qvs, qls⟩ := q
 obtain ⟨h1, h2, h3, h4⟩ := hq
 simp only at h1 h2 h3 h4
 subst h1
 subst h4
 obtain ⟨g1, g2⟩ := oK h.full h2 h.bk
 refine ⟨g1, g2, (qD h3).trans h.net, fun v hv => ?_, ?_⟩
 ·obtain ⟨i, hi, rfl⟩ := dX hv
  have hi' : i < s.vs.length := by rw [h3.1]; exact hi
  exact (h.fullV _ (cX hi')).same (h3.2 i hi')
 ·show tM qps (netR qvs)
  rw [qE h3]
  exact h.agr.same (fun i a l o => DS h2)
theorem bF.book {s : fJ} (h : bF s) (hc : aV t' ps' = 0 ∧ bX ps') (ha : tM ps' (netR s.vs)) : bF ⟨t', ps', s.vs, s.ls⟩ := ⟨hc.1, hc.2, h.net, h.fullV, ha⟩
theorem bF.nets {s : fJ} (h : bF s) (hN : bU vs'.length vs' ls'.length ls' = 0) (hf : ∀ v ∈ vs', nJ v) (ha : tM s.ps (netR vs')) : bF ⟨s.t, s.ps, vs', ls'⟩ := ⟨h.bk, h.full, hN, hf, ha⟩
theorem UY (h : aI vs.length vs y < 0) : ∀ v ∈ netR vs, v.1 ≠ y := fun v hv e => by
 obtain ⟨i, hi, rfl⟩ := eN.1 hv
 exact absurd h (fT.2 ⟨i, hi, e⟩)
theorem bF.ids {s : fJ} (h : bF s) : (∀ i, i < s.vs.length → (aC s.vs i).id ≠ 0) ∧ ∀ i j, i < j → j < s.vs.length → (aC s.vs i).id < (aC s.vs j).id := by
 obtain ⟨-, -, hr, hc⟩ := eT h.net
 constructor
 ·intro i hi e
  have := (kJ (hc i hi)).1
  rw [e] at this
  exact absurd this (by decide)
 ·exact fun i j hij hj => DN hr i j hij hj
theorem AJ (hf : nJ v) (hc : aZ v.id v.rn v.rs v.sn v.ss = 0) : (v.rs.map GC).Nodup := by
 have hR := JN hf.rl hf.sl.subs hc
 unfold List.Nodup
 rw [List.pairwise_iff_getElem]
 intro i j hi hj hij e
 rw [List.length_map] at hi hj
 rw [List.getElem_map, List.getElem_map, ← oS hi, ← oS hj] at e
 have h1 := hR.ri j i hij (by rw [← hf.rl]; exact hj)
 have h2 : (aJ v.rs i).a = (aJ v.rs j).a := by
  unfold GC at e
  simp only [Prod.mk.injEq] at e
  exact e.2.1
 omega
theorem bF.chk {s : fJ} (h : bF s) : IW s.t s.ps s.vs.length s.vs s.ls.length s.ls = 0 := by
 obtain ⟨-, -, -, hc⟩ := eT h.net
 unfold IW
 rw [if_neg (by rw [h.bk]; decide), if_neg (by rw [h.net]; decide), if_pos]
 rw [RR (gH h.full h.bk)]
 ·exact h.agr
 ·intro v hv
  obtain ⟨i, hi, rfl⟩ := eN.1 hv
  exact ⟨h.ids.1 i hi, AJ (h.fullV _ (cX hi)) (hc i hi)⟩
 ·unfold netR
  rw [List.pairwise_map, List.pairwise_iff_getElem]
  intro i j hi hj hij e
  have := h.ids.2 i j hij hj
  have e1 : aC s.vs i = s.vs[i] := by unfold aC; rw [zF, List.getElem?_eq_getElem hi]; rfl
  have e2 : aC s.vs j = s.vs[j] := by unfold aC; rw [zF, List.getElem?_eq_getElem hj]; rfl
  rw [e1, e2] at this
  simp only at e
  omega
theorem AK {id z ow : Int} (hF : bX ps) (hE : cZ t ps id z ow = 0) (hT : rR ps id z ow a l rs) : (aV t rs = 0 ∧ bX rs) ∧ ∀ j b m o, UL rs j b m o ↔ UL ps j b m o ∨ (j = id ∧ b = a ∧ m = l ∧ o = ow) := by
 have hnn : ¬ aP ps id < 0 := fun h => by
  unfold cZ at hE
  split at hE
  ·rename_i g; exact g hE
  ·exact absurd hE (by decide)
 obtain ⟨i, hi, hat, hid⟩ := aQ hnn
 obtain ⟨hal, qs, x', c', ls', hs, hp, rfl⟩ := hT
 rw [hat, Int.toNat_natCast] at hal hp ⊢
 obtain ⟨g1, g2, -, -⟩ := HK (x' := x') (c' := c') hF hE hat hi hal hs hp
 refine ⟨⟨g1, g2⟩, fun j b m o => ?_⟩
 rw [RP hF hi hs hp, hid]
theorem bF.turn {s : fJ} (h : bF s) (hk : k < s.vs.length) (hid : u.id = (aC s.vs k).id) (hrs : u.rs = (aC s.vs k).rs) (hrn : u.rn = (aC s.vs k).rs.length) (hc : aZ u.id u.rn u.rs u.sn u.ss = 0) (hf : ∀ v ∈ s.vs.set k u, nJ v) : bF ⟨s.t, s.ps, s.vs.set k u, s.ls⟩ := by
 refine h.nets ?_ hf ?_
 ·rw [List.length_set]
  exact F6 rfl hk h.net hid hc (fun q hq => ⟨q, by rw [← (h.fullV _ (cX hk)).rl, ← hrn]; exact hq, by rw [hrs]⟩)
 ·refine h.agr.turn (fun x hx => ?_)
  obtain ⟨i, hi, rfl⟩ := eN.1 hx
  rw [List.length_set] at hi
  refine ⟨_, eN.2 ⟨i, hi, rfl⟩, ?_⟩
  rw [cH hk]
  split
  ·rename_i e
   subst e
   exact ⟨hid.symm, fun k => by rw [hrs]⟩
  ·exact ⟨rfl, fun k => Iff.rfl⟩
theorem UZ (h : ¬ 0 ≤ fstAt n f) : ∀ i, i < n → f i = false := by
 rcases fstAt_cases n f with ⟨i, hi, -, -, e⟩ | ⟨hn, -⟩
 ·rw [e] at h
  omega
 ·exact hn
theorem P9 (hf : nJ v) (h : aZ v.id v.rn v.rs v.sn v.ss = 0) (hA : xJ v cd 0 y) (hR : UT v cd y u) : aZ u.id u.rn u.rs u.sn u.ss = 0 := by
 obtain ⟨g1, g2, g3, g4, g5⟩ := hR
 have hV := JN hf.rl hf.sl.subs h
 rw [g1, g2, g3, hf.rl]
 unfold xJ at hA
 unfold QK at g4
 by_cases o1 : cd.op = 10
 ·rw [if_pos o1] at hA g4
  obtain ⟨ts, hs, hp⟩ := g4
  have hE := hA.1.symm
  unfold rN at hE
  rw [if_neg (by rw [h]; decide)] at hE
  split at hE
  ·exact absurd hE (by decide)
  rename_i e1
  split at hE
  ·exact absurd hE (by decide)
  rename_i e2
  split at hE
  ·exact absurd hE (by decide)
  rename_i e3
  rw [not_or] at e2
  have hV2 := hV.same hf.sl.subs hs hf.sl.fcs
  have htl : ts.length = v.sn := by rw [← hs.1]; exact hf.sl.subs
  have hul : u.ss.length = v.sn + 1 := by
   obtain ⟨i, hi, -, -, e⟩ := hp
   rw [e]
   simp only [List.length_append, List.length_take, List.length_drop, List.length_singleton]
   omega
  rw [g5, hul]
  refine (hV2.sub htl hp e3 (by simpa using e1) (fun i hi => ?_) (fun i hi => ?_)).chk hf.rl hul
  ·have := UZ e2.1 i hi
   rw [← (hs.2 i (by rw [hf.sl.subs]; exact hi)).1]
   simpa using this
  ·have := cG.1 (by simpa using e2.2) i hi
   obtain ⟨-, k2, k3, -⟩ := hs.2 i (by rw [hf.sl.subs]; exact hi)
   rw [← k2, ← k3]
   exact this
 ·rw [if_neg o1] at hA g4
  by_cases o2 : cd.op = 11
  ·rw [if_pos o2] at hA g4
   obtain ⟨ts, i, hs, hi, -, -, e⟩ := g4
   have hV2 := hV.unsub hf.sl.subs hs hi hf.sl.fcs
   have htl : ts.length = v.sn := by rw [← hs.1]; exact hf.sl.subs
   have hul : u.ss.length = v.sn - 1 := by
    rw [e]
    simp only [List.length_append, List.length_take, List.length_drop]
    omega
   rw [g5, hul]
   rw [← e] at hV2
   exact hV2.chk hf.rl hul
  ·rw [if_neg o2] at hA g4
   by_cases o3 : cd.op = 12
   ·rw [if_pos o3] at hA g4
    obtain ⟨ts, i, x, n, c, fx, gs, k1, k2, k3, k4, k5, k6⟩ := g4
    have htl : ts.length = v.sn := by rw [← k3.1]; exact hf.sl.subs
    have hK : xH v.id v.rn v.rs v.sn v.ss cd.B cd.C 0 y v.id v.rs u.ss := ⟨hA, fun e => absurd rfl e, fun _ => ⟨rfl, rfl, ts, i, x, n, c, fx, gs, k1, by rw [htl]; exact k1.isn, k3, k4, k5, k6⟩⟩
    obtain ⟨-, -, m3, -, -, -, m7, -⟩ := xH.right hf.sl hK
    rw [g5, m3]
    exact m7
   ·rw [if_neg o3] at hA g4
    by_cases o4 : cd.op = 13
    ·rw [if_pos o4] at hA g4
     obtain ⟨ts, i, j, x, c, ns, k1, k2, k3, k4, k5⟩ := g4
     have htl : ts.length = v.sn := by rw [← k3.1]; exact hf.sl.subs
     have hK : xI v.id v.rn v.rs v.sn v.ss cd.B cd.C 0 y v.id v.rs u.ss := ⟨hA, fun e => absurd rfl e, fun _ => ⟨rfl, rfl, ts, i, j, x, c, ns, k1, by rw [htl]; exact k1.isn, by
      obtain ⟨-, -, -, m4, m5⟩ := k3.2 i (by rw [hf.sl.subs]; exact k1.isn)
      rw [← m5.1, hf.sl.fcs i k1.isn]
      exact k1.jn, k3, k4, k5⟩⟩
     obtain ⟨-, -, m3, -, -, m6⟩ := xI.right hf.sl hK h
     rw [g5, m3]
     exact m6
    ·rw [if_neg o4] at hA g4
     obtain ⟨ts, i, j, x, n, c, k1, k2, k3, k4⟩ := g4
     have htl : ts.length = v.sn := by rw [← k2.1]; exact hf.sl.subs
     have hV2 := hV.same hf.sl.subs k2 hf.sl.fcs
     have hl2 : ∀ i, i < v.sn → (sbAt ts i).fs.length = (sbAt ts i).n := fun i hi => by
      obtain ⟨-, -, -, m4, m5⟩ := k2.2 i (by rw [hf.sl.subs]; exact hi)
      rw [← m5.1, ← m4]
      exact hf.sl.fcs i hi
     have hjn : j < (sbAt ts i).n := by
      obtain ⟨-, -, -, m4, -⟩ := k2.2 i (by rw [hf.sl.subs]; exact k1.isn)
      rw [← m4]
      exact k1.jn
     have hV3 := hV2.unface (x := x) (c := c) htl hl2 k1.isn hjn k3
     rw [← k4] at hV3
     have hul : u.ss.length = v.sn := by rw [k4, List.length_set]; exact htl
     rw [g5, hul]
     exact hV3.chk hf.rl hul
theorem MN {α : Type} {l : List α} {i : Nat} (hi : i < l.length) (h : l.Nodup) {q : α} : q ∈ l.take i ++ l.drop (i + 1) ↔ q ∈ l ∧ q ≠ l[i] := by
 have hl : l = l.take i ++ l[i] :: l.drop (i + 1) := by rw [← List.drop_eq_getElem_cons hi, List.take_append_drop]
 have hp : l.Perm (l[i] :: (l.take i ++ l.drop (i + 1))) := by
  conv => lhs; rw [hl]
  exact List.perm_middle
 have hn := (List.nodup_cons.1 (hp.nodup_iff.1 h)).1
 rw [hp.mem_iff, List.mem_cons]
 constructor
 ·exact fun g => ⟨.inr g, fun e => hn (e ▸ g)⟩
 ·exact fun g => g.1.resolve_left g.2
theorem MO {s r : fJ} {n : Int} (h : bF s) (hE : kR s cd 0 n) (hR : mY s cd a l n r) (hf : ∀ v ∈ r.vs, nJ v) : bF r := by
 obtain ⟨rt', rps, rvs, rls⟩ := r
 unfold kR at hE
 unfold mY at hR
 by_cases o1 : cd.op = 1
 ·rw [if_pos o1] at hE hR
  obtain ⟨-, -, -, e1, e2, e3, qs, hs, hp⟩ := hR
  simp only at e1 e2 e3 hp
  subst e1
  subst e2
  subst e3
  exact h.book (HL h.full hE.symm hs hp) (h.agr.same fun _ _ _ _ => RM hs hp)
 rw [if_neg o1] at hE hR
 by_cases o2 : cd.op = 2
 ·rw [if_pos o2] at hE hR
  obtain ⟨-, e1, e2, e3, hal, hN⟩ := hR
  simp only at e1 e2 e3 hN
  subst e1
  subst e2
  subst e3
  refine h.book (HN h.full hE.symm hal hN) (h.agr.same fun _ _ _ _ => RN rfl (fun hn => ?_) hN)
  have h1 := hE.symm
  unfold kB at h1
  split at h1
  ·rename_i g; exact g h1
  rename_i g
  have g0 : bW s.t s.ps cd.A cd.B cd.C = 0 := by simpa using g
  unfold bW at g0
  split at g0
  ·rename_i k; exact k g0
  split at g0
  ·exact absurd g0 (by decide)
  ·exact absurd g0 (by decide)
 rw [if_neg o2] at hE hR
 by_cases o3 : cd.op = 3
 ·rw [if_pos o3] at hE hR
  obtain ⟨-, -, -, e2, e3, hC⟩ := hR
  simp only at e2 e3 hC
  subst e2
  subst e3
  obtain ⟨e1, g1, g2⟩ := vJ h.full hE.symm hC
  subst e1
  exact h.book ⟨g1, g2⟩ (h.agr.same fun _ _ _ _ => P3 h.full hE.symm hC)
 rw [if_neg o3] at hE hR
 by_cases o4 : cd.op = 4
 ·rw [if_pos o4] at hE hR
  obtain ⟨-, -, -, e2, e3, e1, qs, hs, hp⟩ := hR
  simp only at e1 e2 e3 hp
  subst e1
  subst e2
  subst e3
  have h1 := hE.symm
  unfold qL at h1
  rw [if_neg (by rw [h.bk]; decide)] at h1
  split at h1
  ·exact absurd h1 (by decide)
  rename_i g
  obtain ⟨k1, -, k3, -⟩ := rF h.bk h.full (by omega) (by omega) hs hp
  exact h.book ⟨k1, k3⟩ (h.agr.same fun _ _ _ _ => RO h.bk h.full (by omega) (by omega) hs hp)
 rw [if_neg o4] at hE hR
 by_cases o5 : cd.op = 5
 ·rw [if_pos o5] at hE hR
  obtain ⟨-, e1, e2, e3, hT⟩ := hR
  simp only at e1 e2 e3 hT
  subst e1
  subst e2
  subst e3
  have h1 := hE.symm
  unfold SY at h1
  split at h1
  ·exact absurd h1 (by decide)
  rename_i g
  obtain ⟨k1, k2⟩ := AK h.full h1 hT
  exact h.book k1 (h.agr.take k2 (UY (by omega)))
 rw [if_neg o5] at hE hR
 by_cases o6 : cd.op = 6
 ·rw [if_pos o6] at hE hR
  obtain ⟨-, -, -, e2, e3, hG⟩ := hR
  simp only at e2 e3 hG
  subst e2
  subst e3
  have h1 := hE.symm
  unfold RT at h1
  split at h1
  ·exact absurd h1 (by decide)
  rename_i g
  obtain ⟨e1, k1, k2⟩ := mO h.full h1 hG
  subst e1
  refine h.book ⟨k1, k2⟩ (h.agr.give (fun _ _ _ _ => JT h.full h1 hG) (fun v hv hu => ?_))
  have hO := tI (gH h.full h.bk)
  obtain ⟨i, hi, rfl⟩ := eN.1 hv
  have := (tH hO (k := (cd.A, cd.a, cd.l)) (h.ids.1 i hi)).2 (iF.2 hu)
  simp only at this
  rw [this] at g
  exact (fT (n := s.vs.length) (vs := s.vs) (y := (aC s.vs i).id)).2 ⟨i, hi, rfl⟩ (by omega)
 rw [if_neg o6] at hE hR
 by_cases o7 : cd.op = 7
 ·rw [if_pos o7] at hE hR
  obtain ⟨-, -, -, e1, e2, hM⟩ := hR
  simp only at e1 e2 hM
  subst e1
  subst e2
  have h1 := hE.symm
  unfold SZ at h1
  split at h1
  ·exact absurd h1 (by decide)
  rename_i g
  obtain ⟨hP, e3⟩ := hM
  subst e3
  have hc := hP.can
  rw [← B5] at hc
  have hl : rvs.length = s.vs.length + 1 := by
   have := congrArg List.length hc
   rw [List.length_map, List.length_map] at this
   rw [this]
   obtain ⟨p1, -⟩ := zZ cd.A s.vs
   unfold oV
   simp only [List.length_append, List.length_take, List.length_drop, List.length_singleton]
   omega
  refine h.nets ?_ hf ?_
  ·rw [← kK, hc, kK, hl]
   exact L0 rfl rfl h1
  ·rw [← tK, hc, tK]
   refine h.agr.make (id := cd.A) (fun x => ?_) (fun i a l hu => ?_)
   ·unfold netR oV
    rw [List.map_append, List.map_append, List.mem_append, List.mem_append, zK, zM, List.mem_singleton]
    conv => rhs; rw [← List.take_append_drop (iU cd.A s.vs) s.vs, List.map_append, List.mem_append]
    constructor
    ·rintro ((k | k) | k)
     ·exact .inr (.inl k)
     ·exact .inl k
     ·exact .inr (.inr k)
    ·rintro (k | k | k)
     ·exact .inl (.inr k)
     ·exact .inl (.inl k)
     ·exact .inr k
   ·have hO := tI (gH h.full h.bk)
    have h0 : cd.A ≠ 0 := fun e => hO.pos _ (iF.2 hu) e
    exact g ((GB hO h0).2 ⟨_, iF.2 hu⟩)
 rw [if_neg o7] at hE hR
 by_cases o8 : cd.op = 8
 ·rw [if_pos o8] at hE hR
  obtain ⟨-, e1, hT, hG, e3⟩ := hR
  simp only at e1 hT hG e3
  subst e1
  subst e3
  have h1 := hE.symm
  unfold MV at h1
  split at h1
  ·exact absurd h1 (by decide)
  rename_i g
  split at h1
  ·rename_i ht
   have hgr : UP s.ps cd.B cd.C = ⟨a, l, cd.B⟩ := by unfold UP; rw [← hT.1]
   rw [hgr] at h1
   obtain ⟨k1, k2⟩ := AK h.full ht hT
   obtain ⟨i, hi, hid, hpl⟩ : ∃ i : Nat, i < s.vs.length ∧ (aC s.vs i).id = cd.A ∧ aI s.vs.length s.vs cd.A = i := by
    rcases vplace_cases s.vs.length s.vs cd.A with k | k
    ·exact k
    ·rw [k] at g; exact absurd (by decide) g
   unfold iZ at h1
   rw [if_pos h.net, hpl, Int.toNat_natCast, if_neg (by omega)] at h1
   rw [hpl, Int.toNat_natCast] at hG
   split at h1
   ·rename_i hg
    split at h1
    ·exact absurd h1 (by decide)
    rename_i hap
    have hfi := h.fullV _ (cX hi)
    have hgl : (growVs s.vs i ⟨a, l, cd.B⟩).length = s.vs.length := by unfold growVs; rw [List.length_set]
    refine ⟨k1.1, k1.2, ?_, hf, ?_⟩
    ·show bU rvs.length rvs _ s.ls = 0
     rw [qD hG, hgl, LZ rfl hi hfi.rl h.net hg, if_pos (by simpa using hap)]
    ·show tM rps (netR rvs)
     rw [qE hG]
     refine h.agr.grow (id := cd.A) k2 (fun x hx => ?_)
     obtain ⟨j, hj, rfl⟩ := eN.1 hx
     rw [hgl] at hj
     refine ⟨_, eN.2 ⟨j, hj, rfl⟩, ?_⟩
     unfold growVs
     rw [cH hi]
     split
     ·rename_i e
      subst e
      refine ⟨rfl, fun k => ?_⟩
      simp only [zV, gV, List.map_append, zK, zM, List.mem_append, List.mem_singleton, hid, true_and]
      conv => rhs; lhs; rw [← List.take_append_drop (posRg ⟨a, l, cd.B⟩ (aC s.vs i).rs) (aC s.vs i).rs, List.map_append, List.mem_append]
      constructor
      ·rintro ((k | k) | k)
       ·exact .inl (.inl k)
       ·exact .inr k
       ·exact .inl (.inr k)
      ·rintro ((k | k) | k)
       ·exact .inl (.inl k)
       ·exact .inr k
       ·exact .inl (.inr k)
     ·rename_i e
      refine ⟨rfl, fun k => ⟨.inl, fun g => g.resolve_right fun g => e ?_⟩⟩
      have hA := g.1
      simp only at hA
      rcases Nat.lt_trichotomy i j with q | q | q
      ·have := h.ids.2 i j q hj
       omega
      ·exact q
      ·have := h.ids.2 j i q hi
       omega
   ·rename_i hg
    exact absurd h1 hg
  ·rename_i ht
   exact absurd h1 ht
 rw [if_neg o8] at hE hR
 by_cases o9 : cd.op = 9
 ·rw [if_pos o9] at hE hR
  obtain ⟨-, -, -, e3, k, i, u, hk, hpl, hd, hI, hus, hu1, hu2, hu3, hu4, hu5, hG⟩ := hR
  simp only at e3 hus hG
  subst e3
  subst hus
  have hfk := h.fullV _ (cX hk)
  have hid : (aC s.vs k).id = cd.A := by
   rcases vplace_cases s.vs.length s.vs cd.A with ⟨j, -, k2, k3⟩ | k3
   ·rw [k3] at hpl
    have : j = k := by omega
    rw [← this]
    exact k2
   ·rw [k3] at hpl
    omega
  have h1 := hd
  unfold gU at h1
  split at h1
  ·rename_i g; exact absurd h1 g
  rename_i g
  split at h1
  ·exact absurd h1 (by decide)
  split at h1
  ·exact absurd h1 (by decide)
  rename_i g3
  have hV := JN hfk.rl hfk.sl.subs (by simpa using g)
  have hrg : (aJ (aC s.vs k).rs i).a = cd.a ∧ (aJ (aC s.vs k).rs i).l = cd.l := by
   have := hI.yes
   unfold rpB at this
   simpa using this
  have hV2 := (hV.drop hfk.rl hI.lt (fun q hq => by
   have := cG.1 (by simpa using g3) q hq
   unfold UA at this
   rw [hrg.1, hrg.2]
   exact this)).same hfk.sl.subs hu4 hfk.sl.fcs
  have hrl : ((aC s.vs k).rs.take i ++ (aC s.vs k).rs.drop (i + 1)).length = (aC s.vs k).rn - 1 := by
   have := hfk.rl
   have := hI.lt
   simp only [List.length_append, List.length_take, List.length_drop]
   omega
  have hsl : u.ss.length = (aC s.vs k).sn := by rw [← hu4.1]; exact hfk.sl.subs
  have hcu : aZ u.id u.rn u.rs u.sn u.ss = 0 := by
   rw [hu1, hu3, hu2, hrl, hu5, hsl]
   exact hV2.chk hrl hsl
  have hge : fB s.t s.ps (aJ (aC s.vs k).rs i).p (aJ (aC s.vs k).rs i).a (aJ (aC s.vs k).rs i).l = 0 := by
   rcases hE with ⟨hn, -⟩ | ⟨k', -, hp', hE⟩
   ·rw [hpl] at hn
    omega
   ·have : k' = k := by omega
    subst this
    rcases hE with ⟨hn, -⟩ | ⟨-, i', hI', hE⟩
    ·exact absurd hd hn
    ·have : i' = i := by
      rcases Nat.lt_trichotomy i' i with q | q | q
      ·exact absurd (hI'.yes.symm.trans (hI.no i' q)) (by decide)
      ·exact q
      ·exact absurd (hI.yes.symm.trans (hI'.no i q)) (by decide)
     subst this
     exact hE.symm
  obtain ⟨e1, m1, m2⟩ := mO h.full hge hG
  subst e1
  refine ⟨m1, m2, ?_, hf, ?_⟩
  ·show bU (s.vs.set k u).length (s.vs.set k u) _ s.ls = 0
   rw [List.length_set]
   exact F6 rfl hk h.net hu1 hcu (fun q hq => ⟨if q < i then q else q + 1, by
    rw [hu3, hu2, hrl] at hq
    have := hI.lt
    split <;> omega, by rw [hu2, iV (by rw [hfk.rl]; exact hI.lt)]⟩)
  ·show tM rps (netR (s.vs.set k u))
   refine h.agr.drop (id := cd.A) (gH h.full h.bk) ?_ (fun _ _ _ _ => JT h.full hge hG) (fun x hx => ?_)
   ·rw [← hid]
    refine (h.agr _ (eN.2 ⟨k, hk, rfl⟩) _ _ _).2 ?_
    rw [oS (by rw [hfk.rl]; exact hI.lt)]
    exact List.mem_map.2 ⟨_, List.getElem_mem _, rfl⟩
   ·obtain ⟨j, hj, rfl⟩ := eN.1 hx
    rw [List.length_set] at hj
    refine ⟨_, eN.2 ⟨j, hj, rfl⟩, ?_⟩
    rw [cH hk]
    split
    ·rename_i e
     subst e
     refine ⟨hu1.symm, fun q => ?_⟩
     rw [hu2, List.map_append, List.map_take, List.map_drop, MN (i := i) (by rw [List.length_map, hfk.rl]; exact hI.lt) (AJ hfk (by simpa using g)), List.getElem_map, ← oS]
     constructor
     ·exact fun m => ⟨m.1, fun m2 => m.2 m2.2⟩
     ·exact fun m => ⟨m.1, fun m2 => m.2 ⟨hu1.trans hid, m2⟩⟩
    ·rename_i e
     refine ⟨rfl, fun q => ⟨fun g => ⟨g, fun g2 => e ?_⟩, fun g => g.1⟩⟩
     have hA := g2.1
     simp only at hA
     rcases Nat.lt_trichotomy k j with q | q | q
     ·have := h.ids.2 k j q hj
      omega
     ·exact q
     ·have := h.ids.2 j k q hk
      omega
 rw [if_neg o9] at hE hR
 by_cases o15 : cd.op = 15
 ·rw [if_pos o15] at hE hR
  obtain ⟨-, -, -, e1, e2, hJ, e3⟩ := hR
  simp only at e1 e2 hJ e3
  subst e1
  subst e2
  subst e3
  refine h.nets ?_ hf (by rw [qE hJ]; exact h.agr)
  have hlen : (dO (min cd.A cd.B, max cd.A cd.B) s.ls).length = s.ls.length + 1 := by
   have := (zX (min cd.A cd.B, max cd.A cd.B) s.ls).1
   unfold dO
   simp only [List.length_append, List.length_take, List.length_drop, List.length_singleton]
   omega
  rw [qD hJ, hlen]
  exact IP rfl rfl hE.symm
 rw [if_neg o15] at hE hR
 by_cases o16 : cd.op = 16
 ·rw [if_pos o16] at hE hR
  obtain ⟨-, -, -, e1, e2, hJ, hC⟩ := hR
  simp only at e1 e2 hJ hC
  subst e1
  subst e2
  refine h.nets ?_ hf (by rw [qE hJ]; exact h.agr)
  obtain ⟨-, -, -, hlk, -⟩ := eR h.net
  unfold dC at hlk
  rw [zH] at hlk
  rw [qD hJ, RJ hlk.1 hC]
  exact L1 rfl rfl h.net
 rw [if_neg o16] at hE hR
 obtain ⟨-, -, e1, e2, e3, k, u, hk, hpl, hV, hus⟩ := hR
 simp only at e1 e2 e3 hus
 subst e1
 subst e2
 subst e3
 subst hus
 split at hE
 ·rcases hE with ⟨hn, -⟩ | ⟨k', -, hp', hA⟩
  ·rw [hpl] at hn
   omega
  ·have : k' = k := by omega
   subst this
   obtain ⟨-, -, -, hc⟩ := eT h.net
   exact h.turn hk hV.1 hV.2.1 hV.2.2.1 (P9 (h.fullV _ (cX hk)) (hc k' hk) hA hV) hf
 ·exact absurd hE (by decide)
theorem rU.right {s r : fJ} {E n : Int} (h : bF s) (hR : rU s cd E a l n r) (hf : ∀ v ∈ r.vs, nJ v) : bF r := by
 obtain ⟨q, hq, ⟨-, -, -, -, -, hr⟩ | ⟨-, hE, hr⟩⟩ := hR
 ·exact h.same hr
 ·exact MO (h.same hq) hE hr hf
theorem SO.fullV (h : SO w base ps vs ls vB vV vK) : ∀ v ∈ vs, nJ v := fun v hv => (h.net v hv).ok.full
def cdAt (cs : List Cd) (i : Nat) : Cd := cs.getD i ⟨0, 0, 0, 0, 0, 0, 0, 0, 0, 0⟩
structure S0 (w : World) (x : Option Addr) (n : Nat) (cs : List Cd) : Prop where
 len : cs.length = n
 wf : ∀ i, i < n → CA (cdAt cs i).A (cdAt cs i).a (cdAt cs i).l
 cells : ∀ i, i < n → ∃ b o, x = some ⟨b, o, none⟩ ∧ w.cell? ⟨b, o + i * 10, none⟩ = some (.int .i64 (cdAt cs i).op) ∧ w.cell? ⟨b, o + i * 10 + 1, none⟩ = some (.int .i64 (cdAt cs i).A) ∧ w.cell? ⟨b, o + i * 10 + 2, none⟩ = some (.int .i64 (cdAt cs i).B) ∧ w.cell? ⟨b, o + i * 10 + 3, none⟩ = some (.int .i64 (cdAt cs i).C) ∧ w.cell? ⟨b, o + i * 10 + 4, none⟩ = some (.int .i64 (cdAt cs i).a) ∧ w.cell? ⟨b, o + i * 10 + 5, none⟩ = some (.int .i64 (cdAt cs i).l) ∧ w.cell? ⟨b, o + i * 10 + 6, none⟩ = some (.int .i64 (cdAt cs i).mn) ∧ w.cell? ⟨b, o + i * 10 + 7, none⟩ = some (.int .i64 (cdAt cs i).mx) ∧ w.cell? ⟨b, o + i * 10 + 8, none⟩ = some (.int .i64 (cdAt cs i).us) ∧ w.cell? ⟨b, o + i * 10 + 9, none⟩ = some (.int .i64 (cdAt cs i).co)
theorem S0.later {x : Option Addr} (h : S0 w x n cs) (hb : Below w.heap.size w w') : S0 w' x n cs where
 len := h.len
 wf := h.wf
 cells := fun i hi => by
  obtain ⟨b, o, hx, c0, c1, c2, c3, c4, c5, c6, c7, c8, c9⟩ := h.cells i hi
  exact ⟨b, o, hx, cell_later hb c0, cell_later hb c1, cell_later hb c2, cell_later hb c3, cell_later hb c4, cell_later hb c5, cell_later hb c6, cell_later hb c7, cell_later hb c8, cell_later hb c9⟩
def WF (x : Int × Int × Int × Int) : Nat → Int
 | 0 => x.1
 | 1 => x.2.1
 | 2 => x.2.2.1
 | _ => x.2.2.2
def U0 (g : Nat → Int × Int × Int × Int) (k c : Nat) : Value := .int .i64 (if c < k * 4 then WF (g (c / 4)) (c % 4) else 0)
structure CF (cs : List Cd) (f : Nat → fJ) (g : Nat → Int × Int × Int × Int) (k : Nat) : Prop where
 first : f 0 = ⟨0, [], [], []⟩
 right : ∀ j, j ≤ k → bF (f j)
 steps : ∀ j, j < k → rU (f j) (cdAt cs j) (g j).1 (g j).2.1 (g j).2.2.1 (g j).2.2.2 (f (j + 1))
theorem CF.snoc {f : Nat → fJ} {g : Nat → Int × Int × Int × Int} {r : fJ} (h : CF cs f g k) (hr : bF r) (hN : rU (f k) (cdAt cs k) x.1 x.2.1 x.2.2.1 x.2.2.2 r) :
  CF cs (fun j => if j ≤ k then f j else r) (fun j => if j < k then g j else x) (k + 1) := by
 refine ⟨by simp only [Nat.zero_le, if_true]; exact h.first, fun j hj => ?_, fun j hj => ?_⟩
 ·split
  ·exact h.right j (by omega)
  ·exact hr
 ·by_cases e : j < k
  ·rw [if_pos e, if_pos (by omega), if_pos (by omega)]
   exact h.steps j e
  ·obtain rfl : j = k := by omega
   rw [if_neg e, if_pos (zE), if_neg (by omega)]
   exact hN
theorem GK : bF ⟨0, [], [], []⟩ := by
 refine ⟨by decide +kernel, fun i hi => absurd hi (Nat.not_lt_zero _), by decide +kernel, fun v hv => absurd hv (by simp), fun v hv => absurd hv (by simp [netR])⟩
structure U1 (w : World) (n : Nat) (cs : List Cd) (k : Nat) (f : Nat → fJ) (g : Nat → Int × Int × Int × Int) (vB vV vK : Value) (wr : World) : Prop where
 below : Below w.heap.size w wr
 res : wr.heap[w.heap.size]? = some (kP 0 (.slice none 0 0) (.slice none 0 0) (.slice none 0 0))
 site : kV wr w.heap.size (w.heap.size + 1) (f k).t (f k).ps (f k).vs (f k).ls vB vV vK
 row : wr.rowIs (w.heap.size + 1 + 1) 61 (n * 4) (U0 g k)
 plays : CF cs f g k
theorem U1.later {f : Nat → fJ} {g : Nat → Int × Int × Int × Int} (h : U1 w n cs k f g vB vV vK wr) (hb : Below wr.heap.size wr w') : U1 w n cs k f g vB vV vK w' :=
 ⟨h.below.trans (hb.mono h.below.size), aA hb h.res, h.site.later hb, h.row.of_block (hb.block _ h.row.lt), h.plays⟩
def U2 (n : Nat) (cs : List Cd) (w : World) (e : Ending) (w' : World) : Prop :=
 (200 < n → e = .returned (.tuple #[IY 0 (.slice none 0 0) (.slice none 0 0) (.slice none 0 0), .slice none 0 0, .int .i64 2]) ∧ Below w.heap.size w w') ∧
 (n ≤ 200 → ∃ f g vB vV vK ba, e = .returned (.tuple #[IY (f n).t vB vV vK, .slice (some ⟨ba, 0, none⟩) n n, .int .i64 0]) ∧ Below w.heap.size w w' ∧ SO w' w.heap.size (f n).ps (f n).vs (f n).ls vB vV vK ∧ w'.rowIs ba 61 (n * 4) (U0 g n) ∧ CF cs f g n)
theorem RZ : (Tryz.prog.info? 61).map (fun i => (i.zero, i.size, i.bytes)) = some (some (.agg #[.int .i64 0, .int .i64 0, .int .i64 0, .int .i64 0]), 4, 32) := by kernel_rfl
theorem QA : Tryz.prog.underlying 32 = some (.slice 61) := by kernel_rfl
theorem R0 (n : Nat) (h : n ≤ 200) (w : World) : (Instr.makeSlice 32 (.int .i64 (n : Int)) (.int .i64 (n : Int))).run Tryz.prog w = .ok (.slice (some ⟨w.heap.size, 0, none⟩) n n) (w.alloc (.cells (madeCells #[.int .i64 0, .int .i64 0, .int .i64 0, .int .i64 0] (n * 4)) 61)) := by
 obtain ⟨i, hi, hzz⟩ := Option.map_eq_some_iff.1 RZ
 simp only [Prod.mk.injEq] at hzz
 obtain ⟨hz, hs, hb⟩ := hzz
 have hr := run_makeSlice (P := Tryz.prog) w _ _ i _ QA hi hz .i64 .i64 n n (by omega) (Int.le_refl _) (by rw [hs]; omega) (by rw [hb]; omega) (by omega)
 simp only [Int.toNat_natCast, hs] at hr
 exact hr
theorem U3 (w : World) (n : Nat) : (w.alloc (.cells (madeCells #[.int .i64 0, .int .i64 0, .int .i64 0, .int .i64 0] (n * 4)) 61)).rowIs w.heap.size 61 (n * 4) (fun _ => .int .i64 0) := by
 refine ⟨_, aB _ rfl, size_madeCells _ _, fun i hi => ?_⟩
 have h4 : i % 4 = 0 ∨ i % 4 = 1 ∨ i % 4 = 2 ∨ i % 4 = 3 := by omega
 rcases h4 with h | h | h | h <;> simp [madeCells, hi, h]
theorem kV.all (h : kV w base bs t ps vs ls vB vV vK) (g : SO w base qs us ms uB uV uK) :
  kV ((((w.setCell ⟨bs, 0, none⟩ (.int .i64 t')).setCell ⟨bs, 1, none⟩ uB).setCell ⟨bs, 2, none⟩ uV).setCell ⟨bs, 3, none⟩ uK) base bs t' qs us ms uB uV uK :=
 have hb : kQ w bs 31 := ⟨_, h.box⟩
 ⟨zC (zC (zC (zC h.box))), h.low, (((g.put hb (by decide)).put hb.put (by decide)).put hb.put.put (by decide)).put hb.put.put.put (by decide)⟩
theorem R1 (w : World) (base : Nat) : SO w base [] [] [] (.slice none 0 0) (.slice none 0 0) (.slice none 0 0) :=
 ⟨⟨World.ownsRow_nil _ _ _ _, fun i hi => absurd hi (Nat.not_lt_zero _), fun i _ hi => absurd hi (Nat.not_lt_zero _), fun i j hi => absurd hi (Nat.not_lt_zero _)⟩, World.ownsRow_nil _ _ _ _, fun u hu => absurd hu (by simp), World.ownsRow_nil _ _ _ _⟩
theorem QB {g : Nat → Int × Int × Int × Int} : (if c = k * 4 + 3 then .int .i64 x.2.2.2 else if c = k * 4 + 2 then .int .i64 x.2.2.1 else if c = k * 4 + 1 then .int .i64 x.2.1 else if c = k * 4 then .int .i64 x.1 else U0 g k c) = U0 (fun j => if j < k then g j else x) (k + 1) c := by
 unfold U0
 by_cases h1 : c < k * 4
 ·rw [if_neg (by omega), if_neg (by omega), if_neg (by omega), if_neg (by omega), if_pos h1, if_pos (by omega), show (fun j => if j < k then g j else x) (c / 4) = g (c / 4) from if_pos (by omega)]
 ·by_cases h2 : c < k * 4 + 4
  ·have hd : c / 4 = k := by omega
   rw [if_pos (show c < (k + 1) * 4 by omega), hd, show (fun j => if j < k then g j else x) k = x from if_neg (Nat.lt_irrefl k)]
   by_cases e3 : c = k * 4 + 3
   ·rw [if_pos e3, show c % 4 = 3 by omega]; rfl
   rw [if_neg e3]
   by_cases e2 : c = k * 4 + 2
   ·rw [if_pos e2, show c % 4 = 2 by omega]; rfl
   rw [if_neg e2]
   by_cases e1 : c = k * 4 + 1
   ·rw [if_pos e1, show c % 4 = 1 by omega]; rfl
   rw [if_neg e1, if_pos (by omega), show c % 4 = 0 by omega]; rfl
  ·rw [if_neg (by omega), if_neg (by omega), if_neg (by omega), if_neg (by omega), if_neg h1, if_neg (by omega)]
theorem R2 {f : Nat → fJ} {g : Nat → Int × Int × Int × Int} {r : fJ} (h : U1 w n cs k f g vB vV vK wr) (hO : SO wr w.heap.size r.ps r.vs r.ls uB uV uK) (hr : bF r) (hN : rU (f k) (cdAt cs k) x.1 x.2.1 x.2.2.1 x.2.2.2 r) :
  U1 w n cs (k + 1) (fun j => if j ≤ k then f j else r) (fun j => if j < k then g j else x) uB uV uK ((((((((wr.setCell ⟨w.heap.size + 1, 0, none⟩ (.int .i64 r.t)).setCell ⟨w.heap.size + 1, 1, none⟩ uB).setCell ⟨w.heap.size + 1, 2, none⟩ uV).setCell ⟨w.heap.size + 1, 3, none⟩ uK).setCell ⟨w.heap.size + 1 + 1, k * 4, none⟩ (.int .i64 x.1)).setCell ⟨w.heap.size + 1 + 1, k * 4 + 1, none⟩ (.int .i64 x.2.1)).setCell ⟨w.heap.size + 1 + 1, k * 4 + 2, none⟩ (.int .i64 x.2.2.1)).setCell ⟨w.heap.size + 1 + 1, k * 4 + 3, none⟩ (.int .i64 x.2.2.2)) := by
 have hS := h.site.all (t' := r.t) hO
 have h1 : w.heap.size ≤ w.heap.size + 1 := Nat.le_succ _
 have h2 : w.heap.size ≤ w.heap.size + 1 + 1 := by omega
 have hne : w.heap.size + 1 + 1 ≠ w.heap.size + 1 := by omega
 have ho : ∀ (V : World) (o : Nat) (v : Value), (V.setCell ⟨w.heap.size + 1, o, none⟩ v).heap[w.heap.size]? = V.heap[w.heap.size]? := fun V o v => zB (by show w.heap.size ≠ w.heap.size + 1; omega)
 have ho2 : ∀ (V : World) (o : Nat) (v : Value), (V.setCell ⟨w.heap.size + 1 + 1, o, none⟩ v).heap[w.heap.size]? = V.heap[w.heap.size]? := fun V o v => zB (by show w.heap.size ≠ w.heap.size + 1 + 1; omega)
 have hrow := ((((((((h.row.setOther (a := ⟨w.heap.size + 1, 0, none⟩) hne (.int .i64 r.t)).setOther (a := ⟨w.heap.size + 1, 1, none⟩) hne uB).setOther (a := ⟨w.heap.size + 1, 2, none⟩) hne uV).setOther (a := ⟨w.heap.size + 1, 3, none⟩) hne uK).set (k * 4) (.int .i64 x.1)).set (k * 4 + 1) (.int .i64 x.2.1)).set (k * 4 + 2) (.int .i64 x.2.2.1)).set (k * 4 + 3) (.int .i64 x.2.2.2))
 have hbt : kQ wr (w.heap.size + 1 + 1) 61 := by
  obtain ⟨c, hb, -⟩ := h.row
  exact ⟨c, hb⟩
 refine ⟨(((((((h.below.setCell (p := ⟨w.heap.size + 1, 0, none⟩) h1 _).setCell (p := ⟨w.heap.size + 1, 1, none⟩) h1 _).setCell (p := ⟨w.heap.size + 1, 2, none⟩) h1 _).setCell (p := ⟨w.heap.size + 1, 3, none⟩) h1 _).setCell (p := ⟨w.heap.size + 1 + 1, k * 4, none⟩) h2 _).setCell (p := ⟨w.heap.size + 1 + 1, k * 4 + 1, none⟩) h2 _).setCell (p := ⟨w.heap.size + 1 + 1, k * 4 + 2, none⟩) h2 _).setCell (p := ⟨w.heap.size + 1 + 1, k * 4 + 3, none⟩) h2 _, ?_, ?_, hrow.congr fun i _ => QB, h.plays.snoc hr hN⟩
 ·rw [ho2, ho2, ho2, ho2, ho, ho, ho, ho]
  exact h.res
 ·rw [if_neg (show ¬ k + 1 ≤ k by omega)]
  exact (((hS.put hbt.put.put.put.put (by decide) hne.symm).put hbt.put.put.put.put.put (by decide) hne.symm).put hbt.put.put.put.put.put.put (by decide) hne.symm).put hbt.put.put.put.put.put.put.put (by decide) hne.symm
theorem GL (x : Option Addr) (n c : Nat) (cs : List Cd) (w : World) (hc : S0 w x n cs) (hn63 : n ≤ 9223372036854775807) :
  Calls Tryz.prog 5 #[.slice x n c] w (U2 n cs w) := by
 go_enter Tryz.func5, Tryz.ntmps5
 by_cases h200 : 200 < n
 ·have hg : decide ((n : Int) > 200) = true := by simp; omega
  go_wp2
  refine bodyPost_ret (v := .tuple #[IY 0 (.slice none 0 0) (.slice none 0 0) (.slice none 0 0), .slice none 0 0, .int .i64 2]) (by simp [results, Tryz.results5, go_sem]) rfl ?_
  exact ⟨fun _ => ⟨rfl, bl1 w _⟩, fun h => absurd h200 (by omega)⟩
 ·have hg : decide ((n : Int) > 200) = false := by simp; omega
  have hmk := R0 n (by omega)
  go_upto_region 5 with fail
  obtain ⟨w1, hw1⟩ : ∃ w1, w1 = ((w.alloc (kP 0 (.slice none 0 0) (.slice none 0 0) (.slice none 0 0))).alloc (kP 0 (.slice none 0 0) (.slice none 0 0) (.slice none 0 0))).alloc (.cells (madeCells #[.int .i64 0, .int .i64 0, .int .i64 0, .int .i64 0] (n * 4)) 61) := ⟨_, rfl⟩
  rw [← hw1]
  have hP0 : U1 w n cs 0 (fun _ => ⟨0, [], [], []⟩) (fun _ => (0, 0, 0, 0)) (.slice none 0 0) (.slice none 0 0) (.slice none 0 0) w1 := by
   have hr := U3 ((w.alloc (kP 0 (.slice none 0 0) (.slice none 0 0) (.slice none 0 0))).alloc (kP 0 (.slice none 0 0) (.slice none 0 0) (.slice none 0 0))) n
   rw [← hw1, show ((w.alloc (kP 0 (.slice none 0 0) (.slice none 0 0) (.slice none 0 0))).alloc (kP 0 (.slice none 0 0) (.slice none 0 0) (.slice none 0 0))).heap.size = w.heap.size + 1 + 1 by simp] at hr
   refine ⟨by rw [hw1]; exact (cC w _ _).alloc (by simp; omega) _, by rw [hw1]; exact aF _ (aF _ (aB _ rfl)), ⟨by rw [hw1]; exact aF _ (aB _ (by simp)), Nat.le_succ _, R1 _ _⟩, hr.congr fun i _ => by simp [U0], ⟨rfl, fun j _ => GK, fun j hj => absurd hj (Nat.not_lt_zero _)⟩⟩
  clear hw1 hmk hg
  go_wp2
  go_loopw [18] (fun i wr => ∃ (k : Nat) (f : Nat → fJ) (g : Nat → Int × Int × Int × Int) (vB vV vK : Value), k ≤ n ∧ i = .int .i64 k ∧ U1 w n cs k f g vB vV vK wr) (fun i _ => n - (intOf i).toNat)
  case atStart => exact ⟨0, _, _, _, _, _, Nat.zero_le _, rfl, hP0⟩
  case round =>
   obtain ⟨k, f, g, vB, vV, vK, hk, rfl, hP⟩ := hrel
   clear hP0
   obtain ⟨x1, c1, X1, C1, Y1, D1, rfl, rfl, rfl⟩ := hP.site.own.slices
   by_cases hlt : k < n
   ·obtain ⟨b, o, hx, d0, d1, d2, d3, d4, d5, d6, d7, d8, d9⟩ := (hc.later hP.below).cells k hlt
    have hw3 := hc.wf k hlt
    subst hx
    have hlt' : Hid (k < n) := hlt
    have hi1 : (k : Int) < n := by omega
    have hi2 : (0 : Int) ≤ k := by omega
    go_upto_region 8 with fail
    clear d0 d1 d2 d3 d4 d5 d6 d7 d8 d9
    obtain ⟨w2, hw2⟩ : ∃ w2, w2 = wr.alloc (A7 (cdAt cs k)) := ⟨_, rfl⟩
    rw [← hw2]
    have hb2 : Below wr.heap.size wr w2 := by rw [hw2]; exact bl1 wr _
    have hq2 : w2.heap[wr.heap.size]? = some (A7 (cdAt cs k)) := by rw [hw2]; exact aB _ rfl
    clear hw2
    have hP2 := hP.later hb2
    clear hP hb2
    have hRk := hP2.plays.right k (zE)
    obtain ⟨x', c', X', C', Y', D', e1, e2, e3, hbk, hvs, hvc, hv63, hps, hl63⟩ := hP2.site.see hRk.bk
    simp only [Value.slice.injEq] at e1 e2 e3
    obtain ⟨rfl, -, rfl⟩ := e1
    obtain ⟨rfl, -, rfl⟩ := e2
    obtain ⟨rfl, -, rfl⟩ := e3
    obtain ⟨k0, k1, k2, k3, k4, k5, k6, k7, k8, k9⟩ := tW hq2 rfl rfl rfl rfl rfl rfl rfl rfl rfl rfl
    obtain ⟨s0, s1, s2, s3⟩ := dN hP2.site.box rfl rfl rfl rfl
    have hnx := GJ (f k).t x1 (f k).ps.length c1 (f k).ps X1 (f k).vs.length C1 (f k).vs Y1 (f k).ls.length D1 (f k).ls (cdAt cs k) w2 ⟨hbk, hvs, hvc, hv63, hps, hl63⟩ hRk.bk hRk.net hw3
    go_wp2_with fail
    refine hnx.mono ?_
    rintro e w3 ⟨E, a, l, n', r, uB, uV, uK, rfl, hb3, hO3, hN⟩
    obtain ⟨x3, c3, X3, C3, Y3, D3, rfl, rfl, rfl⟩ := hO3.slices
    clear hnx k0 k1 k2 k3 k4 k5 k6 k7 k8 k9 s0 s1 s2 s3 hbk hvs hvc hv63 hps hl63 hq2 hw3
    have hP3 := hP2.later hb3
    have hO4 : SO w3 w.heap.size r.ps r.vs r.ls (.slice x3 r.ps.length c3) (.slice X3 r.vs.length C3) (.slice Y3 r.ls.length D3) := hO3.low hP2.below.size
    have hrr : Hid (bF r) := rU.right hRk hN hO3.fullV
    have hN' : Hid (rU (f k) (cdAt cs k) E a l n' r) := hN
    have hlt2 := hlt'.out
    clear hP2 hb3 hO3 hRk hN hlt'
    obtain ⟨s0, s1, s2, s3⟩ := dN hP3.site.box rfl rfl rfl rfl
    obtain ⟨z0, z1, z2, z3⟩ := iH hP3.site.box
    have m0 := hP3.row.cell (i := k * 4) (by omega)
    have m1 := hP3.row.cell (i := k * 4 + 1) (by omega)
    have m2 := hP3.row.cell (i := k * 4 + 2) (by omega)
    have m3 := hP3.row.cell (i := k * 4 + 3) (by omega)
    have y0 := hP3.row.frozen (k * 4)
    have y1 := hP3.row.frozen (k * 4 + 1)
    have y2 := hP3.row.frozen (k * 4 + 2)
    have y3 := hP3.row.frozen (k * 4 + 3)
    go_wp2
    go_roundw
    case rel =>
     exact ⟨k + 1, _, _, _, _, _, hlt2, by go_num, R2 (x := (E, a, l, n')) hP3 hO4 hrr.out hN'.out⟩
    case measure => simp [intOf]; omega
   ·obtain rfl : k = n := by omega
    have hO := hP.site.own
    obtain ⟨s0, s1, s2, s3⟩ := dN hP.site.box rfl rfl rfl rfl
    obtain ⟨p0, p1, p2, p3⟩ := dN hP.res rfl rfl rfl rfl
    obtain ⟨pz0, pz1, pz2, pz3⟩ := iH hP.res
    have hbt : kQ wr w.heap.size 31 := ⟨_, hP.res⟩
    have hne : w.heap.size + 1 + 1 ≠ w.heap.size := by omega
    go_wp2
    refine bodyPost_ret (v := .tuple #[IY (f k).t (.slice x1 (f k).ps.length c1) (.slice X1 (f k).vs.length C1) (.slice Y1 (f k).ls.length D1), .slice (some ⟨w.heap.size + 1 + 1, 0, none⟩) k k, .int .i64 0]) (by simp [results, Tryz.results5, go_sem, p0, p1, p2, p3]) rfl ?_
    exact ⟨fun h => absurd h h200, fun _ => ⟨f, g, _, _, _, w.heap.size + 1 + 1, rfl, ((((hP.below).setCell (p := ⟨w.heap.size, 0, none⟩) (zE) _).setCell (p := ⟨w.heap.size, 1, none⟩) (zE) _).setCell (p := ⟨w.heap.size, 2, none⟩) (zE) _).setCell (p := ⟨w.heap.size, 3, none⟩) (zE) _, ((((hO).put hbt (by decide)).put hbt.put (by decide)).put hbt.put.put (by decide)).put hbt.put.put.put (by decide), ((((hP.row).setOther (a := ⟨w.heap.size, 0, none⟩) hne _).setOther (a := ⟨w.heap.size, 1, none⟩) hne _).setOther (a := ⟨w.heap.size, 2, none⟩) hne _).setOther (a := ⟨w.heap.size, 3, none⟩) hne _, hP.plays⟩⟩
end Go.Proofs.YtndpilfpejfloaaGreat
