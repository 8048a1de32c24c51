/- SiteRight: whatever is asked, the site stays right; the law holds, whatever the input. -/
import Derived.Test.YtndpilfpejfloaaGreatMS13
set_option maxRecDepth 100000
set_option maxHeartbeats 3200000
namespace Go.Proofs.YtndpilfpejfloaaGreat
variable {p q : Po} {qs ps : List Po} {x X Y : Option Addr} {c k j0 bs D base i b0 : Nat} {ls ls' m : List Le} {V vs : List Vn} {L : List (Int × Int)} {s r : gL} {cd : Cd} {E a l n A B C a0 l0 mn mx us co vid y t : Int} {e : Le} {rs : List Rg} {g : Rg} {G es : List Int} {fs : List Fc} {w w' : World} {v : Value} {cs : List Value}
open Go.RowKit Go.Shelf
abbrev H9 (x : Option Addr) (c : Nat) (ls : List Le) : Po := ⟨7, 0, 256, 8, 8, 16, 12, 3, x, ls.length, c, ls⟩
structure C7 (ls : List Le) (V : List Vn) (L : List (Int × Int)) (s : gL) : Prop where
 t0 : s.t = 0
 ps : ∃ x c, s.ps = [H9 x c ls]
 vs : s.vs.map dI = V
 lk : s.ls = L
theorem uS (h : cT [p] qs) : ∃ q, qs = [q] ∧ sB p q := by
 match qs, h with
 | [], h => exact absurd h.1 (by simp)
 | [q], h => exact ⟨q, rfl, h.2 0 (by simp)⟩
 | _ :: _ :: _, h => exact absurd h.1 (by simp)
theorem zK (h : sB (H9 x c ls) q) : q = H9 q.x q.c ls := by
 obtain ⟨id, up, a, l, mn, mx, us, co, x', n, c', ls'⟩ := q
 obtain ⟨h1, h2, h3, h4, h5, h6, h7, h8, h9, h10⟩ := h
 simp only at h1 h2 h3 h4 h5 h6 h7 h8 h9 h10
 subst h1 h2 h3 h4 h5 h6 h7 h8 h9 h10
 rfl
theorem C7.same {q : gL} (h : C7 ls V L s) (hq : lA s q) : C7 ls V L q := by
 obtain ⟨h1, h2, h3, h4⟩ := hq
 obtain ⟨x, c, hp⟩ := h.ps
 rw [hp] at h2
 obtain ⟨p, hp', hs⟩ := uS h2
 refine ⟨h1.trans h.t0, ⟨p.x, p.c, by rw [hp', ← zK hs]⟩, by rw [← h3.can]; exact h.vs, h4.trans h.lk⟩
theorem zL (h : FU s cd E a l n r) (hz : ∀ q E n, lA s q → kZ q cd E n → E = 0) : E = 0 ∧ ∃ q, lA s q ∧ kZ q cd 0 n ∧ nJ q cd a l n r := by
 obtain ⟨q, hq, ⟨h0, ⟨n', hE⟩, -⟩ | ⟨h0, hE, hR⟩⟩ := h
 ·exact absurd (hz q E n' hq hE) h0
 ·exact ⟨h0, q, hq, hE, hR⟩
theorem RI (h : iM e [] ls') : ls' = [e] := by
 obtain ⟨i, hi, -, -, rfl⟩ := h
 simp
theorem VC : kZ s ⟨1, A, B, C, a0, l0, mn, mx, us, co⟩ E n ↔ (E = fT s.t s.ps A a0 l0 mn mx us co) := by unfold kZ; simp
theorem VD : nJ s ⟨1, A, B, C, a0, l0, mn, mx, us, co⟩ a l n r ↔ (a = 0 ∧ l = 0 ∧ n = 0 ∧ r.t = s.t ∧ r.vs = s.vs ∧ r.ls = s.ls ∧ ∃ qs, cT s.ps qs ∧ jB ⟨A, 0, a0, l0, mn, mx, us, co, none, 0, 0, []⟩ qs r.ps) := by unfold nJ; simp
theorem VE : kZ s ⟨6, A, B, C, a0, l0, mn, mx, us, co⟩ E n ↔ (E = SB s.t s.ps s.vs A a0 l0) := by unfold kZ; simp
theorem VF : kZ s ⟨7, A, B, C, a0, l0, mn, mx, us, co⟩ E n ↔ (E = SA s.ps s.vs s.ls A) := by unfold kZ; simp
theorem VG : nJ s ⟨7, A, B, C, a0, l0, mn, mx, us, co⟩ a l n r ↔ (a = 0 ∧ l = 0 ∧ n = 0 ∧ r.t = s.t ∧ r.ps = s.ps ∧ FA s.vs s.ls A r.vs r.ls) := by unfold nJ; simp
theorem VH : kZ s ⟨8, A, B, C, a0, l0, mn, mx, us, co⟩ E n ↔ (E = PN s.t s.ps s.vs s.ls A B C) := by unfold kZ; simp
theorem VI : nJ s ⟨8, A, B, C, a0, l0, mn, mx, us, co⟩ a l n r ↔ (n = 0 ∧ r.t = s.t ∧ uR s.ps B C A a l r.ps ∧ uN s.vs.length s.vs s.ls A ⟨a, l, B⟩ r.vs r.ls) := by unfold nJ; simp
theorem VJ : kZ s ⟨9, A, B, C, a0, l0, mn, mx, us, co⟩ E n ↔ (V1 s.t s.ps s.vs A a0 l0 E) := by unfold kZ; simp
theorem VK : nJ s ⟨9, A, B, C, a0, l0, mn, mx, us, co⟩ a l n r ↔ (a = 0 ∧ l = 0 ∧ n = 0 ∧ r.ls = s.ls ∧ V4 s.t s.ps s.vs A a0 l0 r.t r.ps r.vs) := by unfold nJ; simp
theorem UG : kZ s ⟨15, A, B, C, a0, l0, mn, mx, us, co⟩ E n ↔ (E = lY s.vs.length s.vs s.ls.length s.ls A B) := by unfold kZ; simp
theorem UH : nJ s ⟨15, A, B, C, a0, l0, mn, mx, us, co⟩ a l n r ↔ (a = 0 ∧ l = 0 ∧ n = 0 ∧ r.t = s.t ∧ r.ps = s.ps ∧ IU s.vs s.ls A B r.vs r.ls) := by unfold nJ; simp
theorem UI : kZ s ⟨10, A, B, C, a0, l0, mn, mx, us, co⟩ E n ↔ ((aG s.vs.length s.vs A < 0 ∧ E = 5 ∧ n = 0) ∨ ∃ k : Nat, k < s.vs.length ∧ aG s.vs.length s.vs A = k ∧ wY (vnAt s.vs k) ⟨10, A, B, C, a0, l0, mn, mx, us, co⟩ E n) := by unfold kZ; simp
theorem UJ : nJ s ⟨10, A, B, C, a0, l0, mn, mx, us, co⟩ a l n r ↔ (a = 0 ∧ l = 0 ∧ r.t = s.t ∧ r.ps = s.ps ∧ r.ls = s.ls ∧ ∃ (k : Nat) (u : Vn), k < s.vs.length ∧ aG s.vs.length s.vs A = k ∧ T2 (vnAt s.vs k) ⟨10, A, B, C, a0, l0, mn, mx, us, co⟩ n u ∧ r.vs = s.vs.set k u) := by unfold nJ; simp
theorem UK : kZ s ⟨12, A, B, C, a0, l0, mn, mx, us, co⟩ E n ↔ ((aG s.vs.length s.vs A < 0 ∧ E = 5 ∧ n = 0) ∨ ∃ k : Nat, k < s.vs.length ∧ aG s.vs.length s.vs A = k ∧ wY (vnAt s.vs k) ⟨12, A, B, C, a0, l0, mn, mx, us, co⟩ E n) := by unfold kZ; simp
theorem UM : nJ s ⟨12, A, B, C, a0, l0, mn, mx, us, co⟩ a l n r ↔ (a = 0 ∧ l = 0 ∧ r.t = s.t ∧ r.ps = s.ps ∧ r.ls = s.ls ∧ ∃ (k : Nat) (u : Vn), k < s.vs.length ∧ aG s.vs.length s.vs A = k ∧ T2 (vnAt s.vs k) ⟨12, A, B, C, a0, l0, mn, mx, us, co⟩ n u ∧ r.vs = s.vs.set k u) := by unfold nJ; simp
theorem RJ (h : FU ⟨0, [], [], []⟩ ⟨1, 7, 0, 0, 256, 8, 8, 16, 12, 3⟩ E a l n r) : C7 [] [] [] r := by
 have hz : ∀ q, lA ⟨0, [], [], []⟩ q → q.t = 0 ∧ q.ps = [] ∧ q.vs = [] ∧ q.ls = [] := fun q hq => ⟨hq.1, List.eq_nil_of_length_eq_zero hq.2.1.1.symm, List.eq_nil_of_length_eq_zero hq.2.2.1.1.symm, hq.2.2.2⟩
 obtain ⟨-, q, hq, -, hR⟩ := zL h (fun q E n hq hE => by
  obtain ⟨h1, h2, h3, h4⟩ := hz q hq
  rw [VC, h1, h2] at hE
  rw [hE]
  kernel_rfl)
 obtain ⟨h1, h2, h3, h4⟩ := hz q hq
 rw [VD, h1, h2, h3, h4] at hR
 obtain ⟨-, -, -, g1, g2, g3, qs, g4, i, hi, -, -, g5⟩ := hR
 obtain rfl : qs = [] := List.eq_nil_of_length_eq_zero g4.1.symm
 refine ⟨g1, ⟨none, 0, ?_⟩, by rw [g2]; rfl, g3⟩
 rw [g5]
 simp
theorem eE (h : vs.map dI = V) : vs.length = V.length := by rw [← h, List.length_map]
theorem I6 {id : Int} (hS : C7 [] V [] s) (hE : iR V.length V 0 [] id = 0) (h : FU s ⟨7, id, 0, 0, 0, 0, 0, 0, 0, 0⟩ E a l n r) : C7 [] (oR id V) [] r := by
 obtain ⟨-, q, hq, -, hR⟩ := zL h (fun q E n hq hE' => by
  have hQ := hS.same hq
  obtain ⟨x, c, hp⟩ := hQ.ps
  rw [VF] at hE'
  unfold SA at hE'
  rw [hp, if_neg (by show ¬ uP (bT [H9 x c []]) id = true; rw [show uP (bT [H9 x c []]) id = false by rfl]; decide), ← K4, hQ.vs, eE hQ.vs, hQ.lk] at hE'
  rw [hE']
  exact hE)
 have hQ := hS.same hq
 rw [VG] at hR
 obtain ⟨-, -, -, g1, g2, g3, g4⟩ := hR
 exact ⟨g1.trans hQ.t0, by rw [g2]; exact hQ.ps, by rw [g3.can, hQ.vs], g4.trans hQ.lk⟩
theorem VT (x : Option Addr) (c : Nat) (ls : List Le) : aN [H9 x c ls] 7 = 0 := nQ (i := 0) (by simp) rfl (fun j hj => absurd hj (Nat.not_lt_zero _))
theorem V6 (x : Option Addr) (c : Nat) (ls : List Le) : poAt [H9 x c ls] (0 : Int).toNat = H9 x c ls := rfl
theorem I7 {z : Int} (hS : C7 ls V [] s) (htk : ∀ x c, cX 0 [H9 x c ls] 7 z A = 0) (hpf : ∀ x c, eK (H9 x c ls) (mU (H9 x c ls) z) = (a0, l0)) (hng : iY V.length V 0 [] A ⟨a0, l0, 7⟩ = 0) (hpl : aG V.length V A = k) (hput : ∀ m, iM ⟨a0, l0, 1, A, 0⟩ ls m → m = ls')
  (h : FU s ⟨8, A, 7, z, 0, 0, 0, 0, 0, 0⟩ E a l n r) : (E, a, l, n) = (0, a0, l0, 0) ∧ C7 ls' (growVs V k ⟨a0, l0, 7⟩) [] r := by
 obtain ⟨h0, q, hq, -, hR⟩ := zL h (fun q E n hq hE' => by
  have hQ := hS.same hq
  obtain ⟨x, c, hp⟩ := hQ.ps
  rw [VH] at hE'
  unfold PN TY at hE'
  rw [← bP, hQ.vs, eE hQ.vs, hpl, if_neg (by omega), hQ.t0, hp, htk, if_pos rfl, VT, V6, hpf, ← HW, hQ.vs, hQ.lk] at hE'
  rw [hE']
  exact hng)
 have hQ := hS.same hq
 obtain ⟨x, c, hp⟩ := hQ.ps
 rw [VI] at hR
 obtain ⟨g1, g2, ⟨g3, qs, x', c', m, g4, g5, g6⟩, g7, g8⟩ := hR
 rw [hp, VT, V6] at g3 g5
 rw [hp] at g4
 rw [hpf] at g3
 simp only [Prod.mk.injEq] at g3
 obtain ⟨rfl, rfl⟩ := g3
 obtain rfl := hput m g5
 obtain ⟨p, rfl, hs⟩ := uS g4
 refine ⟨by rw [h0, g1], g2.trans hQ.t0, ⟨x', c', ?_⟩, ?_, g8.trans hQ.lk⟩
 ·rw [g6, hp, VT, zK hs]
  rfl
 ·rw [← g7.can, yW, hQ.vs, ← bP, hQ.vs, eE hQ.vs, hpl, Int.toNat_natCast]
theorem RK (hS : C7 ls V [] s) (hj : lY V.length V 0 [] A B = 0) (h : FU s ⟨15, A, B, 0, 0, 0, 0, 0, 0, 0⟩ E a l n r) : C7 ls V (dK (min A B, max A B) []) r := by
 obtain ⟨-, q, hq, -, hR⟩ := zL h (fun q E n hq hE' => by
  have hQ := hS.same hq
  rw [UG, ← K5, hQ.vs, eE hQ.vs, hQ.lk] at hE'
  rw [hE']
  exact hj)
 have hQ := hS.same hq
 rw [UH] at hR
 obtain ⟨-, -, -, g1, g2, g3, g4⟩ := hR
 exact ⟨g1.trans hQ.t0, by rw [g2]; exact hQ.ps, by rw [← g3.can]; exact hQ.vs, by rw [g4, hQ.lk]⟩
theorem IA (h : vs.map dI = V) : dI (vnAt vs k) = vnAt V k := by rw [← h, eU]
theorem UN {id c m : Int} (hS : C7 ls V L s) (hpl : aG V.length V A = k) (hv : vnAt V k = ⟨vid, none, rs.length, 0, rs, none, 0, 0, []⟩) (hE : rK vid rs.length rs 0 [] id c m = 0)
  (h : FU s ⟨10, A, id, 0, c, m, 0, 0, 0, 0⟩ E a l n r) : C7 ls (V.set k ⟨vid, none, rs.length, 0, rs, none, 1, 0, [⟨id, c, m, none, 0, 0, []⟩]⟩) L r := by
 have key : ∀ q, lA s q → ∀ k' : Nat, aG q.vs.length q.vs A = k' → k' = k ∧ (vnAt q.vs k).id = vid ∧ (vnAt q.vs k).rn = rs.length ∧ (vnAt q.vs k).rs = rs ∧ (vnAt q.vs k).sn = 0 ∧ (vnAt q.vs k).ss = [] := fun q hq k' hk' => by
  have hQ := hS.same hq
  rw [← bP, hQ.vs, eE hQ.vs, hpl] at hk'
  have hc := IA (k := k) hQ.vs
  rw [hv] at hc
  unfold dI at hc
  simp only [Vn.mk.injEq, true_and] at hc
  exact ⟨by omega, hc.1, hc.2.1, hc.2.2.1, hc.2.2.2.1, by simpa using hc.2.2.2.2⟩
 obtain ⟨-, q, hq, -, hR⟩ := zL h (fun q E n hq hE' => by
  have hQ := hS.same hq
  rw [UI] at hE'
  rcases hE' with ⟨hn, -⟩ | ⟨k', -, hk', hW⟩
  ·rw [← bP, hQ.vs, eE hQ.vs, hpl] at hn
   omega
  ·obtain ⟨rfl, e1, e2, e3, e4, e5⟩ := key q hq k' hk'
   unfold wY at hW
   rw [if_pos rfl, e1, e2, e3, e4, e5] at hW
   rw [hW.1]
   exact hE)
 have hQ := hS.same hq
 rw [UJ] at hR
 obtain ⟨-, -, g1, g2, g3, k', u, -, hk', ⟨u1, u2, u3, u4, u5⟩, g4⟩ := hR
 obtain ⟨rfl, e1, e2, e3, e4, e5⟩ := key q hq k' hk'
 unfold P0 at u4
 rw [if_pos rfl, e5] at u4
 obtain ⟨ts, hts, i, hi, -, -, hus⟩ := u4
 obtain rfl : ts = [] := List.eq_nil_of_length_eq_zero hts.1.symm
 have hss : u.ss = [⟨id, c, m, none, 0, 0, []⟩] := by rw [hus]; simp
 refine ⟨g1.trans hQ.t0, by rw [g2]; exact hQ.ps, ?_, g3.trans hQ.lk⟩
 rw [g4, List.map_set, hQ.vs]
 congr 1
 unfold dI
 rw [u1, u2, u3, u5, hss, e1, e3]
 rfl
theorem RL {id sub c m y0 : Int} (hS : C7 ls V L s) (hpl : aG V.length V A = k) (hv : vnAt V k = ⟨vid, none, rs.length, 0, rs, none, 1, 0, [⟨sub, c, m, none, 0, 0, []⟩]⟩)
  (hch : ∀ x d, aV vid rs.length rs 1 [⟨sub, c, m, x, 0, d, []⟩] = 0) (hf0 : ∀ x d, lD ⟨sub, c, m, x, 0, d, []⟩ id = 0) (hL : ∀ x d, mY ⟨sub, c, m, x, 0, d, []⟩ y0)
  (h : FU s ⟨12, A, sub, id, 0, 0, 0, 0, 0, 0⟩ E a l n r) : (E, a, l, n) = (0, 0, 0, y0) ∧ C7 ls (V.set k ⟨vid, none, rs.length, 0, rs, none, 1, 0, [⟨sub, c, m, none, 1, 0, [⟨id, none, 1, 0, [y0]⟩]⟩]⟩) L r := by
 have key : ∀ q, lA s q → ∀ k' : Nat, aG q.vs.length q.vs A = k' → k' = k ∧ (vnAt q.vs k).id = vid ∧ (vnAt q.vs k).rn = rs.length ∧ (vnAt q.vs k).rs = rs ∧ (vnAt q.vs k).sn = 1 ∧ ∃ x d, (vnAt q.vs k).ss = [⟨sub, c, m, x, 0, d, []⟩] := fun q hq k' hk' => by
  have hQ := hS.same hq
  rw [← bP, hQ.vs, eE hQ.vs, hpl] at hk'
  have hc := IA (k := k) hQ.vs
  rw [hv] at hc
  unfold dI at hc
  simp only [Vn.mk.injEq, true_and] at hc
  refine ⟨by omega, hc.1, hc.2.1, hc.2.2.1, hc.2.2.2.1, ?_⟩
  obtain ⟨t, ht, e⟩ := List.map_eq_singleton_iff.1 hc.2.2.2.2
  obtain ⟨i1, i2, i3, i4, i5, i6, i7⟩ := t
  unfold oP at e
  simp only [Sb.mk.injEq, true_and, List.map_eq_nil_iff] at e
  obtain ⟨rfl, rfl, rfl, rfl, rfl⟩ := e
  exact ⟨i4, i6, ht⟩
 have one : ∀ q, lA s q → ∀ E n, kZ q ⟨12, A, sub, id, 0, 0, 0, 0, 0, 0⟩ E n → E = 0 ∧ n = y0 := fun q hq E n hE' => by
  have hQ := hS.same hq
  rw [UK] at hE'
  rcases hE' with ⟨hn, -⟩ | ⟨k', -, hk', hW⟩
  ·rw [← bP, hQ.vs, eE hQ.vs, hpl] at hn
   omega
  ·obtain ⟨rfl, e1, e2, e3, e4, x, d, e5⟩ := key q hq k' hk'
   unfold wY at hW
   rw [if_neg (show ¬ (12 : Int) = 10 by decide), if_neg (show ¬ (12 : Int) = 11 by decide), if_pos rfl, e1, e2, e3, e4, e5] at hW
   unfold nA at hW
   rw [if_neg (by rw [hch]; decide)] at hW
   rcases hW with ⟨hn, -⟩ | ⟨i, hi, hF⟩
   ·exact absurd rfl (hn 0 (by omega))
   ·obtain rfl : i = 0 := by have := hi.isn; omega
    exact (hF.2 (hf0 x d)).one (.inl ⟨rfl, hL x d⟩)
 obtain ⟨h0, q, hq, hE, hR⟩ := zL h (fun q E n hq hE' => (one q hq E n hE').1)
 have hn := (one q hq _ _ hE).2
 have hQ := hS.same hq
 rw [UM] at hR
 obtain ⟨ga, gl, g1, g2, g3, k', u, -, hk', ⟨u1, u2, u3, u4, u5⟩, g4⟩ := hR
 obtain ⟨rfl, e1, e2, e3, e4, x, d, e5⟩ := key q hq k' hk'
 unfold P0 at u4
 rw [if_neg (show ¬ (12 : Int) = 10 by decide), if_neg (show ¬ (12 : Int) = 11 by decide), if_pos rfl, e4, e5] at u4
 obtain ⟨ts, i, x', n', c', fx, gs, k1, -, k3, k4, k5, k6⟩ := u4
 obtain rfl : i = 0 := by have := k1.isn; omega
 have hts : ts.map oP = [⟨sub, c, m, none, 0, 0, []⟩] := k3.can.symm
 obtain ⟨t, rfl, e⟩ := List.map_eq_singleton_iff.1 hts
 obtain ⟨i1, i2, i3, i4, i5, i6, i7⟩ := t
 unfold oP at e
 simp only [Sb.mk.injEq, true_and, List.map_eq_nil_iff] at e
 obtain ⟨rfl, rfl, rfl, rfl, rfl⟩ := e
 obtain ⟨p, hp, -, -, hgs⟩ := k4
 have hg1 : gs = [⟨id, fx, 1, 1, [n]⟩] := by rw [hgs]; simp [sbAt]
 subst hg1
 subst k5
 refine ⟨by rw [h0, ga, gl, hn], g1.trans hQ.t0, by rw [g2]; exact hQ.ps, ?_, g3.trans hQ.lk⟩
 rw [g4, List.map_set, hQ.vs]
 congr 1
 unfold dI
 rw [u1, u2, u3, u5, k6, e1, e3, hn]
 rfl
theorem RM {c m : Int} (hS : C7 ls V L s) (hpl : aG V.length V A = k) (hv : vnAt V k = ⟨vid, none, 1, 0, [g], none, 0, 0, []⟩) (hd : gJ vid 1 [g] 0 [] c m = 0) (hg7 : g.p = 7)
  (hge : ∀ x d, jC 0 [H9 x d ls] 7 g.a g.l = 0) (hfi : ∀ x d, bM (H9 x d ls).n (tW ls g.a g.l) = j0) (hcl : ∀ x d, cD (H9 x d ls) j0 0 = ls')
  (h : FU s ⟨9, A, 0, 0, c, m, 0, 0, 0, 0⟩ E a l n r) : E = 0 ∧ C7 ls' (V.set k ⟨vid, none, 0, 0, [], none, 0, 0, []⟩) L r := by
 have key : ∀ q, lA s q → ∀ k' : Nat, aG q.vs.length q.vs A = k' → k' = k ∧ (vnAt q.vs k).id = vid ∧ (vnAt q.vs k).rn = 1 ∧ (vnAt q.vs k).rs = [g] ∧ (vnAt q.vs k).sn = 0 ∧ (vnAt q.vs k).ss = [] := fun q hq k' hk' => by
  have hQ := hS.same hq
  rw [← bP, hQ.vs, eE hQ.vs, hpl] at hk'
  have hc := IA (k := k) hQ.vs
  rw [hv] at hc
  unfold dI at hc
  simp only [Vn.mk.injEq, true_and] at hc
  exact ⟨by omega, hc.1, hc.2.1, hc.2.2.1, hc.2.2.2.1, by simpa using hc.2.2.2.2⟩
 obtain ⟨h0, q, hq, -, hR⟩ := zL h (fun q E n hq hE' => by
  have hQ := hS.same hq
  obtain ⟨x, d, hp⟩ := hQ.ps
  rw [VJ] at hE'
  rcases hE' with ⟨hn, -⟩ | ⟨k', -, hk', hW⟩
  ·rw [← bP, hQ.vs, eE hQ.vs, hpl] at hn
   omega
  ·obtain ⟨rfl, e1, e2, e3, e4, e5⟩ := key q hq k' hk'
   rw [e1, e2, e3, e4, e5, hd] at hW
   rcases hW with ⟨hn, -⟩ | ⟨-, i, hi, hE⟩
   ·exact absurd rfl hn
   ·have hi1 := hi.lt
    rw [e2] at hi1
    obtain rfl : i = 0 := by omega
    rw [hQ.t0, hp, show (aL [g] 0).p = 7 from hg7] at hE
    rw [hE]
    exact hge x d)
 have hQ := hS.same hq
 obtain ⟨x, d, hp⟩ := hQ.ps
 rw [VK] at hR
 obtain ⟨-, -, -, g3, k', i, u, -, hk', -, hi, hus, u1, u2, u3, u4, u5, g1, qs, x', c', g4, g6⟩ := hR
 obtain ⟨rfl, e1, e2, e3, e4, e5⟩ := key q hq k' hk'
 have hi1 := hi.lt
 rw [e2] at hi1
 obtain rfl : i = 0 := by omega
 rw [e3] at u2 g6
 rw [show (aL [g] 0).p = 7 from hg7, hp, VT, V6, show (aL [g] 0) = g from rfl, hfi, Int.toNat_natCast, show (0 : Int).toNat = 0 from rfl, hQ.t0, hcl] at g6
 rw [hp] at g4
 obtain ⟨p, rfl, hs⟩ := uS g4
 have hss : u.ss = [] := List.eq_nil_of_length_eq_zero (by rw [← u4.1, e5]; rfl)
 have hrs : u.rs = [] := by rw [u2]; rfl
 refine ⟨h0, g1.trans hQ.t0, ⟨x', c', ?_⟩, ?_, g3.trans hQ.lk⟩
 ·rw [g6, zK hs]
  rfl
 ·rw [hus, List.map_set, hQ.vs]
  congr 1
  unfold dI
  rw [u1, u3, u5, hrs, hss, e1]
  rfl
theorem RN {o : Int} (hS : C7 ls V L s) (ho : ∀ x c, nI (bT [H9 x c ls]) 7 a0 l0 = o) (hpl : 0 ≤ aG V.length V o) (h : FU s ⟨6, 7, 0, 0, a0, l0, 0, 0, 0, 0⟩ E a l n r) : E = 9 ∧ C7 ls V L r := by
 have one : ∀ q, lA s q → ∀ E n, kZ q ⟨6, 7, 0, 0, a0, l0, 0, 0, 0, 0⟩ E n → E = 9 := fun q hq E n hE' => by
  have hQ := hS.same hq
  obtain ⟨x, c, hp⟩ := hQ.ps
  rw [VE] at hE'
  unfold SB at hE'
  rw [hp, ho, ← bP, hQ.vs, eE hQ.vs, if_pos hpl] at hE'
  exact hE'
 obtain ⟨q, hq, ⟨-, ⟨n', hE⟩, -, -, -, hr⟩ | ⟨-, hE, -⟩⟩ := h
 ·exact ⟨one q hq _ _ hE, hS.same hr⟩
 ·exact absurd (one q hq _ _ hE) (by decide)
def I8 : List Cd := [⟨1, 7, 0, 0, 256, 8, 8, 16, 12, 3⟩, ⟨7, 1, 0, 0, 0, 0, 0, 0, 0, 0⟩, ⟨7, 2, 0, 0, 0, 0, 0, 0, 0, 0⟩, ⟨8, 1, 7, 10, 0, 0, 0, 0, 0, 0⟩, ⟨8, 2, 7, 0, 0, 0, 0, 0, 0, 0⟩, ⟨15, 2, 1, 0, 0, 0, 0, 0, 0, 0⟩, ⟨10, 1, 4, 0, 256, 14, 0, 0, 0, 0⟩, ⟨12, 1, 4, 9, 0, 0, 0, 0, 0, 0⟩, ⟨9, 2, 0, 0, 320, 12, 0, 0, 0, 0⟩, ⟨6, 7, 0, 0, 256, 10, 0, 0, 0, 0⟩]
theorem RO (h : iM ⟨320, 12, 1, 2, 0⟩ [⟨256, 10, 1, 1, 0⟩] m) : m = [⟨256, 10, 1, 1, 0⟩, ⟨320, 12, 1, 2, 0⟩] := by
 obtain ⟨i, hi, h1, h2, rfl⟩ := h
 have hi' : i ≤ 1 := hi
 by_cases e : i = 0
 ·subst e
  exact absurd (h2 (by simp)) (by decide)
 ·obtain rfl : i = 1 := by omega
  rfl
theorem FY {f : Nat → gL} {g : Nat → Int × Int × Int × Int} (h : BM I8 f g 10) : g 4 = (0, 320, 12, 0) ∧ g 7 = (0, 0, 0, 257) ∧ (g 8).1 = 0 ∧ (g 9).1 = 9 ∧ (f 10).ls.length = 1 ∧ ∃ p, (f 10).ps = [p] ∧ p.n = 2 := by
 have s0 := h.steps 0 (by decide)
 rw [h.first] at s0
 have a1 := RJ s0
 have a2 := I6 a1 (by kernel_rfl) (h.steps 1 (by decide))
 have a3 := I6 a2 (by kernel_rfl) (h.steps 2 (by decide))
 have a4 := (I7 (ls' := [⟨256, 10, 1, 1, 0⟩]) (k := 0) (a0 := 256) (l0 := 10) a3 (fun x c => by kernel_rfl) (fun x c => by kernel_rfl) (by kernel_rfl) (by kernel_rfl) (fun m hm => RI hm) (h.steps 3 (by decide))).2
 obtain ⟨e5, a5⟩ := I7 (ls' := [⟨256, 10, 1, 1, 0⟩, ⟨320, 12, 1, 2, 0⟩]) (k := 1) (a0 := 320) (l0 := 12) a4 (fun x c => by kernel_rfl) (fun x c => by kernel_rfl) (by kernel_rfl) (by kernel_rfl) (fun m hm => RO hm) (h.steps 4 (by decide))
 have a6 := RK a5 (by kernel_rfl) (h.steps 5 (by decide))
 have a7 := UN (k := 0) (vid := 1) (rs := [⟨256, 10, 7⟩]) a6 (by kernel_rfl) (by kernel_rfl) (by kernel_rfl) (h.steps 6 (by decide))
 obtain ⟨e8, a8⟩ := RL (k := 0) (vid := 1) (c := 256) (m := 14) (y0 := 257) (rs := [⟨256, 10, 7⟩]) a7 (by kernel_rfl) (by kernel_rfl) (fun x d => by kernel_rfl) (fun x d => by kernel_rfl) (fun x d => ⟨by kernel_rfl, by simp [allNs], fun z h1 h2 => by simp only at h1; omega⟩) (h.steps 7 (by decide))
 obtain ⟨e9, a9⟩ := RM (ls' := [⟨256, 10, 1, 1, 0⟩, ⟨320, 12, 3, 0, 3⟩]) (k := 1) (j0 := 1) (vid := 2) (g := ⟨320, 12, 7⟩) a8 (by kernel_rfl) (by kernel_rfl) (by kernel_rfl) rfl (fun x d => by kernel_rfl) (fun x d => by kernel_rfl) (fun x d => by kernel_rfl) (h.steps 8 (by decide))
 obtain ⟨e10, a10⟩ := RN (o := 1) a9 (fun x c => by kernel_rfl) (by decide +kernel) (h.steps 9 (by decide))
 obtain ⟨x, c, hp⟩ := a10.ps
 refine ⟨e5, e8, e9, e10, by rw [a10.lk]; kernel_rfl, _, hp, rfl⟩
theorem L2 : Tryz.prog.underlying 61 = some (.struct (Tryz.prog.fieldsOf 61)) := by kernel_rfl
theorem RP : Tryz.prog.stoodInHeld 61 = false := by kernel_rfl
theorem SC (a b c d : Int) (w : World) : (binOp .eql 61 (T6 a b c d) (T6 a b c d)).run Tryz.prog w = .ok (.bool true) w := by
 rw [run_eql_struct, show (10000 : Nat) = 9999 + 1 from rfl, run_equalIn_agg w 9999 _ _ _ L2 RP]
 simp only [Program.fieldsOf, Tryz.underlying61]
 go_simp
theorem PV : Tryz.prog.eqGuardType Tryz.prog.depth 61 = false := by kernel_rfl
theorem FZ (op : BinOp) (x y : Operand) (p q : Array Value) (w : World) : (eqGuard op 61 x y (.agg p) (.agg q)).run Tryz.prog w = .ok () w := by
 have h := PV
 unfold eqGuard
 cases op <;> simp [go_sem, h]
theorem PW (w : World) : Calls Tryz.prog 17 #[] w fun e w' => ∃ b, e = .returned (.slice (some ⟨b, 0, none⟩) 10 10) ∧ UB w' (some ⟨b, 0, none⟩) 10 I8 ∧ Below w.heap.size w w' := by
 go_enter Tryz.func17, Tryz.ntmps17
 go_wp2_with fail
 refine (J3 _).mono ?_
 rintro e w1 ⟨rfl, hb1⟩
 go_wp2
 go_ret
 refine ⟨w1.heap.size, rfl, ⟨rfl, fun i hi => ?_, fun i hi => ⟨w1.heap.size, 0, rfl, ?_⟩⟩, hb1.trans ((bl1 w1 _).mono hb1.size)⟩
 ·have : i = 0 ∨ i = 1 ∨ i = 2 ∨ i = 3 ∨ i = 4 ∨ i = 5 ∨ i = 6 ∨ i = 7 ∨ i = 8 ∨ i = 9 := by omega
  rcases this with rfl | rfl | rfl | rfl | rfl | rfl | rfl | rfl | rfl | rfl <;> exact ⟨rfl, rfl, rfl⟩
 ·have : i = 0 ∨ i = 1 ∨ i = 2 ∨ i = 3 ∨ i = 4 ∨ i = 5 ∨ i = 6 ∨ i = 7 ∨ i = 8 ∨ i = 9 := by omega
  rcases this with rfl | rfl | rfl | rfl | rfl | rfl | rfl | rfl | rfl | rfl <;> simp [cdAt, I8]
theorem qN (w : World) : Calls Tryz.prog 6 #[] w fun e w' => e = .returned (.bool true) ∧ Below w.heap.size w w' := by
 go_enter Tryz.func6, Tryz.ntmps6
 go_wp2_with fail
 refine (PW _).mono ?_
 rintro e w1 ⟨b, rfl, hc, hb1⟩
 go_wp2_with fail
 refine (FX (some ⟨b, 0, none⟩) 10 10 I8 w1 hc (by decide)).mono ?_
 rintro e w2 ⟨-, hP⟩
 obtain ⟨f, g, vB, vV, vK, ba, rfl, hb2, hO, hrow, hpl⟩ := hP (by decide)
 obtain ⟨x1, c1, X1, C1, Y1, D1, rfl, rfl, rfl⟩ := hO.slices
 go_upto_region 2 with fail
 obtain ⟨w3, hw3⟩ : ∃ w3, w3 = w2.alloc (wO (f 10).t (.slice x1 (f 10).ps.length c1) (.slice X1 (f 10).vs.length C1) (.slice Y1 (f 10).ls.length D1)) := ⟨_, rfl⟩
 rw [← hw3]
 have hb3 : Below w2.heap.size w2 w3 := by rw [hw3]; exact bl1 w2 _
 have hq3 : w3.heap[w2.heap.size]? = some (wO (f 10).t (.slice x1 (f 10).ps.length c1) (.slice X1 (f 10).vs.length C1) (.slice Y1 (f 10).ls.length D1)) := by rw [hw3]; exact aC _ rfl
 clear hw3
 obtain ⟨g4, g7, g8, g9, hl, p, hp, hpn⟩ := FY hpl
 have hBw : Below w.heap.size w w3 := (hb1.trans (hb2.mono hb1.size)).trans (hb3.mono (Nat.le_trans hb1.size hb2.size))
 have hS3 : lI w3 w1.heap.size w2.heap.size (f 10).t (f 10).ps (f 10).vs (f 10).ls (.slice x1 (f 10).ps.length c1) (.slice X1 (f 10).vs.length C1) (.slice Y1 (f 10).ls.length D1) := ⟨hq3, hb2.size, hO.later hb3⟩
 have hrow3 := hrow.of_block (hb3.block _ hrow.lt)
 have hR := hpl.right 10 (Nat.le_refl _)
 obtain ⟨x', c', X', C', Y', D', e1, e2, e3, hbk, hvs, hvc, hv63, hps, hl63⟩ := hS3.see hR.bk
 simp only [Value.slice.injEq] at e1 e2 e3
 obtain ⟨rfl, -, rfl⟩ := e1
 obtain ⟨rfl, -, rfl⟩ := e2
 obtain ⟨rfl, -, rfl⟩ := e3
 have hck := zF (f 10).t x1 (f 10).ps.length c1 (f 10).ps X1 (f 10).vs.length C1 (f 10).vs Y1 (f 10).ls.length D1 (f 10).ls w3 ⟨hbk, hvs, hvc, hv63, hps, hl63⟩
 rw [hR.chk] at hck
 have cell : ∀ i q, i < 10 → q < 4 → w3.cell? ⟨ba, i * 4 + q, none⟩ = some (.int .i64 (VR (g i) q)) := fun i q hi hq => by
  rw [hrow3.cell (by omega)]
  unfold UC
  rw [if_pos (by omega), show (i * 4 + q) / 4 = i by omega, show (i * 4 + q) % 4 = q by omega]
 have m0 : w3.cell? ⟨ba, 16, none⟩ = some (.int .i64 0) := by have := cell 4 0 (by decide) (by decide); rw [g4] at this; exact this
 have m1 : w3.cell? ⟨ba, 16 + 1, none⟩ = some (.int .i64 320) := by have := cell 4 1 (by decide) (by decide); rw [g4] at this; exact this
 have m2 : w3.cell? ⟨ba, 16 + 2, none⟩ = some (.int .i64 12) := by have := cell 4 2 (by decide) (by decide); rw [g4] at this; exact this
 have m3 : w3.cell? ⟨ba, 16 + 3, none⟩ = some (.int .i64 0) := by have := cell 4 3 (by decide) (by decide); rw [g4] at this; exact this
 have n0 : w3.cell? ⟨ba, 28, none⟩ = some (.int .i64 0) := by have := cell 7 0 (by decide) (by decide); rw [g7] at this; exact this
 have n1 : w3.cell? ⟨ba, 28 + 1, none⟩ = some (.int .i64 0) := by have := cell 7 1 (by decide) (by decide); rw [g7] at this; exact this
 have n2 : w3.cell? ⟨ba, 28 + 2, none⟩ = some (.int .i64 0) := by have := cell 7 2 (by decide) (by decide); rw [g7] at this; exact this
 have n3 : w3.cell? ⟨ba, 28 + 3, none⟩ = some (.int .i64 257) := by have := cell 7 3 (by decide) (by decide); rw [g7] at this; exact this
 have o0 : w3.cell? ⟨ba, 32, none⟩ = some (.int .i64 0) := by have := cell 8 0 (by decide) (by decide); rw [show VR (g 8) 0 = (g 8).1 from rfl, g8] at this; exact this
 have o1 : w3.cell? ⟨ba, 36, none⟩ = some (.int .i64 9) := by have := cell 9 0 (by decide) (by decide); rw [show VR (g 9) 0 = (g 9).1 from rfl, g9] at this; exact this
 obtain ⟨pb, po, hpx, q0, q1, q2, q3, q4, q5, q6, q7, q8⟩ := hbk.ps.cells 0 (by rw [hp]; exact Nat.one_pos)
 have hpl1 : (f 10).ps.length = 1 := by rw [hp]; rfl
 have hp0 : poAt (f 10).ps 0 = p := by rw [hp]; rfl
 subst hpx
 rw [hp0, hpn] at q8
 have s0 := (aA hq3).1 0
 have s1 := (aA hq3).1 1
 have s2 := (aA hq3).1 2
 have s3 := (aA hq3).1 3
 simp only [List.getElem?_toArray, List.getElem?_cons_zero, List.getElem?_cons_succ] at s0 s1 s2 s3
 rw [hpl1] at s1 hck ⊢
 rw [hl] at s3 hck ⊢
 clear hrow hrow3 cell g4 g7 g8 g9 hpl hR hbk hvs hps hO hS3 hb1 hb2 hb3 hc hP hq3
 have he1 := fun W => SC 0 320 12 0 W
 have he2 := fun W => SC 0 0 0 257 W
 have hg1 := fun x y W => FZ .eql x y #[.int .i64 0, .int .i64 320, .int .i64 12, .int .i64 0] #[.int .i64 0, .int .i64 320, .int .i64 12, .int .i64 0] W
 have hg2 := fun x y W => FZ .eql x y #[.int .i64 0, .int .i64 0, .int .i64 0, .int .i64 257] #[.int .i64 0, .int .i64 0, .int .i64 0, .int .i64 257] W
 go_wp2_with fail
 refine hck.mono ?_
 rintro e w4 ⟨rfl, hb4⟩
 go_wp2
 go_ret
 exact ⟨rfl, hBw.trans (hb4.mono hBw.size)⟩
theorem F0 : ∀ (L : List Sb), L.Pairwise (fun s t => ¬ (y ∈ allNs s.fs ∧ y ∈ allNs t.fs)) → (∀ s ∈ L, (allNs s.fs).count y ≤ 1) → (bV L).count y ≤ 1
 | [], _, _ => by simp [bV]
 | s :: L, hp, hc => by
  rw [List.pairwise_cons] at hp
  have ih := F0 L hp.2 (fun t ht => hc t (List.mem_cons_of_mem _ ht))
  have h1 := hc s List.mem_cons_self
  unfold bV at ih ⊢
  rw [List.flatMap_cons, List.count_append]
  by_cases hy : y ∈ allNs s.fs
  ·have : (L.flatMap fun s => allNs s.fs).count y = 0 := by
    rw [List.count_eq_zero, List.mem_flatMap]
    rintro ⟨t, ht, hyt⟩
    exact hp.1 t ht ⟨hy, hyt⟩
   omega
  ·have : (allNs s.fs).count y = 0 := List.count_eq_zero.2 hy
   omega
def gR (vs : List Vn) (G : List Int) (k : Nat) : List Rg := (G.take k).flatMap fun id => (vnAt vs (aG vs.length vs id).toNat).rs
def gN (vs : List Vn) (G : List Int) (k : Nat) (y : Int) : Nat := ((gR vs G k).filter fun r => qO r.a r.l y).length
theorem RQ (h : k < G.length) : gN vs G (k + 1) y = gN vs G k y + wM (vnAt vs (aG vs.length vs (bA G k)).toNat).rs y (vnAt vs (aG vs.length vs (bA G k)).toNat).rs.length := by
 unfold gN gR wM
 rw [sZ (uO h), List.flatMap_append, List.filter_append, List.length_append, List.flatMap_cons, List.flatMap_nil, List.append_nil, List.take_length]
theorem bL.rv (h : bL s) {i : Nat} (hi : i < s.vs.length) : RV (vnAt s.vs i).id (vnAt s.vs i).rn (vnAt s.vs i).rs (vnAt s.vs i).sn (vnAt s.vs i).ss := by
 obtain ⟨-, -, -, hc⟩ := dC h.net
 exact IX (h.fullV _ (bS hi)).rl (h.fullV _ (bS hi)).sl.subs (hc i hi)
theorem bL.group (h : bL s) (id y : Int) (k : Nat) : gN s.vs (grpL s.ls s.vs id) k y ≤ 1 := by
 obtain ⟨-, -, hr, -⟩ := dC h.net
 obtain ⟨-, -, -, -, hap⟩ := dW h.net
 have hat : ∀ x ∈ grpL s.ls s.vs id, ∃ i, i < s.vs.length ∧ x = (vnAt s.vs i).id ∧ aG s.vs.length s.vs x = i ∧ bO s.ls x = bO s.ls id := fun x hx => by
  unfold grpL at hx
  obtain ⟨h1, h2⟩ := List.mem_filter.1 hx
  unfold bF at h1
  obtain ⟨v, hv, rfl⟩ := List.mem_map.1 h1
  obtain ⟨i, hi, rfl⟩ := dF hv
  exact ⟨i, hi, rfl, lX rfl hr hi, by simpa using h2⟩
 have hno : ∀ i j p q, i < s.vs.length → j < s.vs.length → i ≠ j → bO s.ls (vnAt s.vs i).id = bO s.ls (vnAt s.vs j).id → p < (vnAt s.vs i).rs.length → q < (vnAt s.vs j).rs.length → ¬ (qO (aL (vnAt s.vs i).rs p).a (aL (vnAt s.vs i).rs p).l y = true ∧ qO (aL (vnAt s.vs j).rs q).a (aL (vnAt s.vs j).rs q).l y = true) := fun i j p q hi hj hne hh hp hq => by
  rw [(h.fullV _ (bS hi)).rl] at hp
  rw [(h.fullV _ (bS hj)).rl] at hq
  rcases Nat.lt_or_gt_of_ne hne with g | g
  ·intro hb
   exact tA (E8 (yQ hap hj g) hh.symm hq hp) ⟨hb.2, hb.1⟩
  ·exact tA (E8 (yQ hap hi g) hh hp hq)
 unfold gN
 refine yR ?_
 unfold gR
 rw [List.pairwise_flatMap]
 refine ⟨fun x hx => ?_, ?_⟩
 ·obtain ⟨i, hi, -, hpl, -⟩ := hat x (List.mem_of_mem_take hx)
  rw [hpl, Int.toNat_natCast, List.pairwise_iff_getElem]
  intro p q hp hq hpq
  rw [← gA hp, ← gA hq]
  exact tA ((h.rv hi).ap q p hpq (by rw [← (h.fullV _ (bS hi)).rl]; exact hq))
 ·have hd : ((grpL s.ls s.vs id).take k).Pairwise fun a b => a < b := by
   refine List.Pairwise.sublist (List.take_sublist _ _) ?_
   unfold grpL
   refine List.Pairwise.filter _ ?_
   unfold bF
   rw [List.pairwise_map, List.pairwise_iff_getElem]
   intro p q hp hq hpq
   have := h.ids.2 p q hpq hq
   have e1 : vnAt s.vs p = s.vs[p] := by unfold vnAt; rw [List.getD_eq_getElem?_getD, List.getElem?_eq_getElem hp]; rfl
   have e2 : vnAt s.vs q = s.vs[q] := by unfold vnAt; rw [List.getD_eq_getElem?_getD, List.getElem?_eq_getElem hq]; rfl
   rw [e1, e2] at this
   exact this
  refine List.Pairwise.imp_of_mem (fun ha hb hlt r hr t ht => ?_) hd
  obtain ⟨i, hi, ei, hpi, hhi⟩ := hat _ (List.mem_of_mem_take ha)
  obtain ⟨j, hj, ej, hpj, hhj⟩ := hat _ (List.mem_of_mem_take hb)
  rw [hpi, Int.toNat_natCast] at hr
  rw [hpj, Int.toNat_natCast] at ht
  obtain ⟨p, hp, rfl⟩ := List.getElem_of_mem hr
  obtain ⟨q, hq, rfl⟩ := List.getElem_of_mem ht
  rw [← gA hp, ← gA hq]
  exact hno i j p q hi hj (fun e => by subst e; rw [ei, ej] at hlt; omega) (by rw [← ei, ← ej, hhi, hhj]) hp hq
theorem UO (h : oJ a l y = true) (hr : rt a l = true) : qO a l y = true := by
 unfold oJ at h
 unfold qO
 rw [hr]
 simp only [Bool.and_eq_true, decide_eq_true_eq] at h
 simp only [Bool.true_and, Bool.and_eq_true, decide_eq_true_eq]
 omega
theorem VL {n : Nat} (hf : dT a l n fs = true) (hl : fs.length = n) (hn : ∀ j, j < n → (fcAt fs j).ns.length = (fcAt fs j).n) (h : y ∈ allNs fs) : oJ a l y = true := by
 obtain ⟨j, hj, hy⟩ := BE h
 obtain ⟨m, hm, rfl⟩ := O8 hy
 rw [hl] at hj
 exact FI ((gZ hf).1 j hj) m (by rw [← hn j hj]; exact hm)
theorem bL.faces (h : bL s) {i : Nat} (hi : i < s.vs.length) (y : Int) : (bV (vnAt s.vs i).ss).count y ≤ 1 := by
 obtain ⟨-, -, -, hc⟩ := dC h.net
 have hV := h.rv hi
 have hf := h.fullV _ (bS hi)
 have hat : ∀ (p : Nat) (hp : p < (vnAt s.vs i).ss.length), (vnAt s.vs i).ss[p] = sbAt (vnAt s.vs i).ss p := fun p hp => by
  have := BD hp
  rw [List.getElem?_eq_getElem hp] at this
  exact Option.some.inj this
 have hin : ∀ p, p < (vnAt s.vs i).sn → y ∈ allNs (sbAt (vnAt s.vs i).ss p).fs → qO (sbAt (vnAt s.vs i).ss p).a (sbAt (vnAt s.vs i).ss p).l y = true := fun p hp hy =>
  UO (VL (hV.fc p hp) (hf.sl.fcs p hp) (hf.sl.ads p hp) hy) (oO (hc i hi) p hp).1
 refine F0 _ ?_ ?_
 ·rw [List.pairwise_iff_getElem]
  intro p q hp hq hpq hb
  rw [hat p hp, hat q hq] at hb
  rw [hf.sl.subs] at hp hq
  exact tA (hV.sa q p hpq hq) ⟨hin p hp hb.1, hin q hq hb.2⟩
 ·intro t ht
  obtain ⟨p, hp, rfl⟩ := List.getElem_of_mem ht
  rw [hat p hp]
  rw [hf.sl.subs] at hp
  have := (gZ (hV.fc p hp)).2.2
  refine Nat.le_of_not_lt fun h1 => ?_
  have h2 := IN h1
  unfold yE at h2
  simp [this] at h2
structure VU (bs : Nat) (t : Int) (x : Option Addr) (c : Nat) (ps : List Po) (X : Option Addr) (C : Nat) (vs : List Vn) (Y : Option Addr) (D : Nat) (ls : List (Int × Int)) (w : World) : Prop where
 box : w.heap[bs]? = some (wO t (.slice x ps.length c) (.slice X vs.length C) (.slice Y ls.length D))
 si : Si w x ps.length c ps X vs.length C vs Y ls.length ls
theorem VU.later {C : Nat} {ls : List (Int × Int)} (h : VU bs t x c ps X C vs Y D ls w) (hb : Below w.heap.size w w') : VU bs t x c ps X C vs Y D ls w' := ⟨aB hb h.box, h.si.later hb⟩
theorem dO.sl (h : dO w base v es) : ∃ x c, v = .slice x es.length c := by
 rcases h.2 with ⟨hv, h0⟩ | ⟨g, cap, cur, hv, -⟩
 ·exact ⟨none, 0, by rw [hv, h0]⟩
 ·exact ⟨_, _, hv⟩
theorem AF (x0 : Option Addr) (n0 c0 : Nat) (cs : List Cd) (addr : Int) (w : World) (hc : UB w x0 n0 cs) (hn63 : n0 ≤ 9223372036854775807) (ha0 : -9223372036854775808 ≤ addr) (ha1 : addr ≤ 9223372036854775807) :
  Calls Tryz.prog 3 #[.slice x0 n0 c0, .int .i64 addr] w fun e w' => e = .returned (.bool true) ∧ Below w.heap.size w w' := by
 go_enter Tryz.func3, Tryz.ntmps3
 go_wp2_with fail
 refine (FX x0 n0 c0 cs w hc hn63).mono ?_
 rintro e w1 ⟨hP1, hP2⟩
 by_cases h200 : 200 < n0
 ·obtain ⟨rfl, hb1⟩ := hP1 h200
  clear hP1 hP2
  go_wp2_with fail
  refine (qN _).mono ?_
  rintro e w2 ⟨rfl, hb2⟩
  go_wp2
  go_ret
  exact ⟨rfl, (hb1.trans ((bl1 w1 _).mono hb1.size)).trans (hb2.mono (by have := hb1.size; simp; omega))⟩
 ·obtain ⟨f, g, vB, vV, vK, ba, rfl, hb1, hO, -, hpl⟩ := hP2 (by omega)
  clear hP1 hP2
  have hR := hpl.right n0 (Nat.le_refl _)
  generalize f n0 = st at hO hR ⊢
  obtain ⟨t, ps, vs, ls⟩ := st
  simp only at hO
  obtain ⟨x, c, X, C, Y, D, rfl, rfl, rfl⟩ := hO.slices
  clear hpl
  go_upto_region 4 with fail
  obtain ⟨w2, hw2⟩ : ∃ w2, w2 = w1.alloc (wO t (.slice x ps.length c) (.slice X vs.length C) (.slice Y ls.length D)) := ⟨_, rfl⟩
  rw [← hw2]
  have hb2 : Below w1.heap.size w1 w2 := by rw [hw2]; exact bl1 w1 _
  have hq2 : w2.heap[w1.heap.size]? = some (wO t (.slice x ps.length c) (.slice X vs.length C) (.slice Y ls.length D)) := by rw [hw2]; exact aC _ rfl
  clear hw2
  have hSt : lI w2 w.heap.size w1.heap.size t ps vs ls (.slice x ps.length c) (.slice X vs.length C) (.slice Y ls.length D) := ⟨hq2, hb1.size, hO.later hb2⟩
  obtain ⟨x', c', X', C', Y', D', e1, e2, e3, hbk, hvs, hvc, hv63, hps, hl63⟩ := hSt.see hR.bk
  simp only [Value.slice.injEq] at e1 e2 e3
  obtain ⟨rfl, -, rfl⟩ := e1
  obtain ⟨rfl, -, rfl⟩ := e2
  obtain ⟨rfl, -, rfl⟩ := e3
  have hW2 : VU w1.heap.size t x c ps X C vs Y D ls w2 := ⟨hq2, ⟨hbk, hvs, hvc, hv63, hps, hl63⟩⟩
  have hBw2 : Below w.heap.size w w2 := hb1.trans (hb2.mono hb1.size)
  have hRH : Hid (bL ⟨t, ps, vs, ls⟩) := hR
  have h6 : vs.length ≤ 6 := (dC hR.net).1
  clear hSt hO hq2 hbk hvs hps hb1 hb2 hR
  go_wp2_with fail
  refine (GT addr 65536 w2 ha0 ha1 (by decide) (by decide)).mono ?_
  rintro e w2' ⟨rfl, rfl⟩
  obtain ⟨a, ha⟩ : ∃ a, CA addr 65536 = a := ⟨_, rfl⟩
  rw [ha]
  clear ha
  go_wp2
  go_loopw [9] (fun i wr => ∃ k : Nat, k ≤ vs.length ∧ i = .int .i64 k ∧ Below w2'.heap.size w2' wr) (fun i _ => vs.length - (intOf i).toNat)
  case atStart => exact ⟨0, Nat.zero_le _, rfl, Below.refl _ _⟩
  case round =>
   obtain ⟨k, hk, rfl, hBr⟩ := hrel
   have hWr := hW2.later hBr
   have s0 := (aA hWr.box).1 0
   have s1 := (aA hWr.box).1 1
   have s2 := (aA hWr.box).1 2
   have s3 := (aA hWr.box).1 3
   simp only [List.getElem?_toArray, List.getElem?_cons_zero, List.getElem?_cons_succ] at s0 s1 s2 s3
   by_cases hlt : k < vs.length
   ·have hlt' : Hid (k < vs.length) := hlt
    have hi1 : (k : Int) < vs.length := by omega
    have hi2 : (0 : Int) ≤ k := by omega
    obtain ⟨bx, ox, hxo, d0, d1, d2⟩ := hWr.si.vps.cells k hlt
    subst hxo
    have hvp := hWr.si.vps.vps k hlt
    have hgE : E1 vs.length vs ls.length ls (vnAt vs k).id = 0 := by
     obtain ⟨-, -, hr, -⟩ := dC hRH.out.net
     unfold E1
     rw [if_pos hRH.out.net, lX rfl hr hlt, if_neg (by omega)]
    have hgp := fun W (hW : Below wr.heap.size wr W) => KL (some ⟨bx, ox, none⟩) vs.length C vs Y ls.length D ls (vnAt vs k).id W (hWr.si.vps.later hW) hWr.si.v63 hWr.si.vnc (hWr.si.lk.later hW) hWr.si.l63
    go_upto_region 9 with fail
    clear d0 d1 d2
    obtain ⟨w3, hw3⟩ : ∃ w3, w3 = wr.alloc (PZ (vnAt vs k)) := ⟨_, rfl⟩
    rw [← hw3]
    have hb3 : Below wr.heap.size wr w3 := by rw [hw3]; exact bl1 wr _
    have hq3 : w3.heap[wr.heap.size]? = some (PZ (vnAt vs k)) := by rw [hw3]; exact aC _ rfl
    clear hw3 s0 s1 s2 s3
    have hW3 := hWr.later hb3
    have s0 := (aA hW3.box).1 0
    have s1 := (aA hW3.box).1 1
    have s2 := (aA hW3.box).1 2
    have s3 := (aA hW3.box).1 3
    simp only [List.getElem?_toArray, List.getElem?_cons_zero, List.getElem?_cons_succ] at s0 s1 s2 s3
    have v0 := aU hq3 0 rfl
    have hgq := hgp w3 hb3
    unfold IP at hgq
    rw [hgE] at hgq
    clear hgp hgE
    go_wp2_with fail
    refine hgq.mono ?_
    rintro e w4 ⟨v, rfl, hOG, hb4⟩
    have hOG : dO w4 w3.heap.size v (grpL ls vs (vnAt vs k).id) := by simpa using hOG
    clear hgq s0 s1 s2 s3 v0
    obtain ⟨gx, gc, rfl⟩ := hOG.sl
    obtain ⟨G, hG⟩ : ∃ G, Hid (grpL ls vs (vnAt vs k).id = G) := ⟨_, rfl⟩
    rw [hG.out] at hOG ⊢
    have hW4 := hW3.later hb4
    have hq4 := aB hb4 hq3
    have hB4 : Below w2'.heap.size w2' w4 := (hBr.trans (hb3.mono hBr.size)).trans (hb4.mono (Nat.le_trans hBr.size hb3.size))
    have hIS := hOG.is.1
    have hgc := hOG.is
    clear hOG hW3 hq3 hb4 hWr
    have hca : (bV (vnAt vs k).ss).count a ≤ 1 := hRH.out.faces hlt'.out a
    have hcv : aV (vnAt vs k).id (vnAt vs k).rn (vnAt vs k).rs (vnAt vs k).sn (vnAt vs k).ss = 0 := (dC hRH.out.net).2.2.2 k hlt'.out
    have hgt : decide (((bV (vnAt vs k).ss).count a : Int) > 1) = false := by simp; omega
    obtain ⟨f1, f2, f3, f4⟩ := cA hcv
    have hhs := Q3 (vnAt vs k).id (vnAt vs k).rx (vnAt vs k).rn (vnAt vs k).rc (vnAt vs k).sx (vnAt vs k).sn (vnAt vs k).sc (vnAt vs k).ss a w4 (hW4.si.vps.vps k hlt'.out).2.2.2.subs (by omega) (fun i hi => by have := f3 i hi; omega) (fun i hi j hj => by have := f4 i hi j hj; omega)
    clear hca hcv f1 f2 f3 f4
    have v0 := (aA hq4).1 0
    have v1 := (aA hq4).1 1
    have v2 := (aA hq4).1 2
    simp only [List.getElem?_toArray, List.getElem?_cons_zero, List.getElem?_cons_succ] at v0 v1 v2
    go_wp2_with fail
    refine hhs.mono ?_
    rintro e w5 ⟨rfl, hb5⟩
    clear hhs v0 v1 v2
    have hW5 := hW4.later hb5
    have hIS5 := hIS.later hb5
    have hB5 := hB4.trans (hb5.mono hB4.size)
    clear hW4 hIS hB4 hq4 hb5
    go_wp2
    go_loopw [14, 13] (fun i nn wq => ∃ q : Nat, q ≤ G.length ∧ i = .int .i64 q ∧ nn = .int .i64 (gN vs G q a : Nat) ∧ Below w5.heap.size w5 wq) (fun i _ _ => G.length - (intOf i).toNat)
    case atStart => exact ⟨0, Nat.zero_le _, rfl, by simp [gN, gR], Below.refl _ _⟩
    case round =>
     obtain ⟨q, hq, rfl, rfl, hBq⟩ := hrel
     have hWq := hW5.later hBq
     have hISq := hIS5.later hBq
     have hg1 : gN vs G q a ≤ 1 := by rw [← hG.out]; exact hRH.out.group (vnAt vs k).id a q
     by_cases hql : q < G.length
     ·have hql' : Hid (q < G.length) := hql
      have hq1 : (q : Int) < G.length := by omega
      have hq2 : (0 : Int) ≤ q := by omega
      obtain ⟨gb, go, hgx, m0⟩ := hISq.cells q hql
      subst hgx
      obtain ⟨i, hi, hpl⟩ : ∃ i : Nat, i < vs.length ∧ aG vs.length vs (bA G q) = i := by
       have hm : bA G q ∈ grpL ls vs (vnAt vs k).id := by rw [hG.out, K7 hql]; exact List.getElem_mem _
       unfold grpL bF at hm
       obtain ⟨v, hv, hve⟩ := List.mem_map.1 (List.mem_filter.1 hm).1
       obtain ⟨i, hi, rfl⟩ := dF hv
       obtain ⟨-, -, hr, -⟩ := dC hRH.out.net
       exact ⟨i, hi, by rw [← hve]; exact lX rfl hr hi⟩
      have hi' : Hid (i < vs.length) := hi
      have hst : Hid (gN vs G (q + 1) a = gN vs G q a + wM (vnAt vs i).rs a (vnAt vs i).rs.length) := by
       show _ = _
       rw [RQ hql, hpl, Int.toNat_natCast]
      have hva := fun W (hW : Below wr.heap.size wr W) => OG (some ⟨bx, ox, none⟩) vs.length C vs Y ls.length D (bA G q) i hpl W (hWq.si.vps.later hW) (by omega)
      clear hpl
      have hin1 : (i : Int) < vs.length := by omega
      have hin2 : (0 : Int) ≤ i := by omega
      have hmx : max (0 : Int) i = i := Int.max_eq_right hin2
      obtain ⟨bx', ox', hxo, d0, d1, d2⟩ := hWq.si.vps.cells i hi
      simp only [Option.some.injEq, Addr.mk.injEq, and_true] at hxo
      obtain ⟨rfl, rfl⟩ := hxo
      go_upto_region 16 with fail
      go_cut [15] (fun p wd => ∃ bp, p = .pointer (some ⟨bp, 0, none⟩) ∧ Below wr.heap.size wr wd ∧ wd.heap[bp]? = some (PZ (vnAt vs i)))
      case first =>
       have s2 := Ws.here (aU hWq.box 2 rfl)
       have s3 := Ws.here (aU hWq.box 3 rfl)
       have a0 := Ws.here m0
       have b0 := Ws.here d0
       have b1 := Ws.here d1
       have b2 := Ws.here d2
       clear m0 d0 d1 d2
       refine bQ (fun w' => ∃ u : Ws wr.heap.size wr, w' = u.val) (fun j => decide (j < 14)) 15 _ (by kernel_rfl) rfl rfl ?_
       refine aZ 6 [0, 1, 2, 3, 4, 5, 6, 7, 8] rfl _ rfl (by kernel_rfl) (fun d _ _ _ _ h => by cases d <;> exact h) ⟨⟨_, (Below.refl _ _).drew⟩, rfl⟩ ?_
       simp only [List.map_cons, List.map_nil, List.getD_cons_zero, List.getD_cons_succ]
       repeat (go_big_quiet_step (fail))
       refine wpQuiet_nil ?_
       clear s2 s3 a0
       refine iD 9 13 _ _ _ _ (by kernel_rfl) (by kernel_rfl) rfl rfl rfl rfl ?_ ?_
       ·intro K hK
        simp only [List.getD_cons_zero, List.getD_cons_succ]
        go_wp2_with fail
        refine (hva wr.drew (Below.refl _ _).drew).mono ?_
        rintro e y1 ⟨rfl, hy1⟩
        have hz1 : Below wr.heap.size wr y1 := ⟨hy1.os, hy1.tape, hy1.output, hy1.size, hy1.block⟩
        go_wp2_with fail
        refine aD (hK.out _ _ ⟨⟨_, hz1⟩, rfl⟩ ?_)
        clear hK K
        refine iD 10 13 _ _ _ _ (by kernel_rfl) (by kernel_rfl) rfl rfl rfl rfl ?_ ?_
        ·intro K hK
         simp only [List.getD_cons_zero, List.getD_cons_succ]
         go_wp2_with fail
         refine aD (hK.out _ _ ⟨⟨_, hz1⟩, rfl⟩ ?_)
         clear hK K
         refine aZ 2 [11, 12] rfl _ rfl (by kernel_rfl) (fun d _ _ _ _ h => by cases d <;> exact h) ⟨⟨_, hz1⟩, rfl⟩ ?_
         simp only [List.map_cons, List.map_nil, List.getD_cons_zero, List.getD_cons_succ]
         repeat (go_big_quiet_step (fail))
         refine wpQuiet_nil ?_
         refine aW 13 _ _ (by kernel_rfl) (by kernel_rfl) rfl rfl ?_
         intro K hK
         simp only [List.getD_cons_zero, List.getD_cons_succ]
         go_wp2_with fail
         refine aD (hK.out _ _ ⟨⟨_, hz1.trans ((bl1 y1 _).mono hz1.size)⟩, rfl⟩ ?_)
         clear hK K
         refine aY [14] rfl (by kernel_rfl) ?_
         simp only [List.map_cons, List.map_nil, List.getD_cons_zero, List.getD_cons_succ]
         go_wp2_with fail
         go_meet
         case rel => exact ⟨_, rfl, hz1.trans ((bl1 y1 _).mono hz1.size), aC _ rfl⟩
        ·intro K hK
         simp only [List.getD_cons_zero, List.getD_cons_succ]
         go_wp2_with fail
         obtain ⟨y2, hy2⟩ : ∃ y2, y2 = y1.alloc (cZ 0 (.slice none 0 0) (.slice none 0 0)) := ⟨_, rfl⟩
         rw [← hy2]
         have hz2 : Below wr.heap.size wr y2 := by rw [hy2]; exact hz1.trans ((bl1 y1 _).mono hz1.size)
         have hx2 : y2.heap[y1.heap.size]? = some (cZ 0 (.slice none 0 0) (.slice none 0 0)) := by rw [hy2]; exact aC _ rfl
         have hle : wr.heap.size ≤ y1.heap.size := hz1.size
         clear hy2
         refine aD (hK.out _ _ ⟨⟨_, hz2⟩, rfl⟩ ?_)
         clear hK K
         refine aW 10 _ _ (by kernel_rfl) (by kernel_rfl) rfl rfl ?_
         intro K hK
         simp only [List.getD_cons_zero, List.getD_cons_succ]
         go_wp2_with fail
         refine aD (hK.out _ _ ⟨⟨_, hz2⟩, rfl⟩ ?_)
         clear hK K
         refine aZ 1 [11, 12] rfl _ rfl (by kernel_rfl) (fun d _ _ _ _ h => by cases d <;> exact h) ⟨⟨_, hz2⟩, rfl⟩ ?_
         simp only [List.map_cons, List.map_nil, List.getD_cons_zero, List.getD_cons_succ]
         repeat (go_big_quiet_step (fail))
         refine wpQuiet_nil ?_
         refine aY [14] rfl (by kernel_rfl) ?_
         simp only [List.map_cons, List.map_nil, List.getD_cons_zero, List.getD_cons_succ]
         have p0 := (aA hx2).1 0
         have p1 := (aA hx2).1 1
         have p2 := (aA hx2).1 2
         obtain ⟨z0, z1, z2⟩ := eO hx2
         simp only [List.getElem?_toArray, List.getElem?_cons_zero, List.getElem?_cons_succ] at p0 p1 p2
         go_wp2_with fail
         go_meet
         case rel => exact ⟨_, rfl, ((hz2.setCell (p := ⟨y1.heap.size, 0, none⟩) (hle : wr.heap.size ≤ y1.heap.size) _).setCell (p := ⟨y1.heap.size, 1, none⟩) (hle : wr.heap.size ≤ y1.heap.size) _).setCell (p := ⟨y1.heap.size, 2, none⟩) (hle : wr.heap.size ≤ y1.heap.size) _, heap_setCell_same _ _ _ _ _ _ (heap_setCell_same _ _ _ _ _ _ (heap_setCell_same _ _ _ _ _ _ hx2))⟩
       ·intro K hK
        simp only [List.getD_cons_zero, List.getD_cons_succ]
        go_wp2_with fail
        obtain ⟨y1, hy1⟩ : ∃ y1, y1 = (wr.alloc (cZ 0 (.slice none 0 0) (.slice none 0 0))).drew := ⟨_, rfl⟩
        rw [← hy1]
        have hz1 : Below wr.heap.size wr y1 := by rw [hy1]; exact (bl1 wr _).drew
        have hx1 : y1.heap[wr.heap.size]? = some (cZ 0 (.slice none 0 0) (.slice none 0 0)) := by rw [hy1]; exact aC (W := wr) _ rfl
        have hle : wr.heap.size ≤ wr.heap.size := Nat.le_refl _
        clear hy1
        refine aD (hK.out _ _ ⟨⟨_, hz1⟩, rfl⟩ ?_)
        clear hK K
        refine aW 9 _ _ (by kernel_rfl) (by kernel_rfl) rfl rfl ?_
        intro K hK
        simp only [List.getD_cons_zero, List.getD_cons_succ]
        go_wp2_with fail
        refine (hva y1 hz1).mono ?_
        rintro e y2 ⟨rfl, hy2⟩
        have hz2 : Below wr.heap.size wr y2 := hz1.trans (hy2.mono hz1.size)
        have hx2 := aB hy2 hx1
        go_wp2_with fail
        refine aD (hK.out _ _ ⟨⟨_, hz2⟩, rfl⟩ ?_)
        clear hK K
        refine aW 10 _ _ (by kernel_rfl) (by kernel_rfl) rfl rfl ?_
        intro K hK
        simp only [List.getD_cons_zero, List.getD_cons_succ]
        go_wp2_with fail
        refine aD (hK.out _ _ ⟨⟨_, hz2⟩, rfl⟩ ?_)
        clear hK K
        refine aZ 1 [11, 12] rfl _ rfl (by kernel_rfl) (fun d _ _ _ _ h => by cases d <;> exact h) ⟨⟨_, hz2⟩, rfl⟩ ?_
        simp only [List.map_cons, List.map_nil, List.getD_cons_zero, List.getD_cons_succ]
        repeat (go_big_quiet_step (fail))
        refine wpQuiet_nil ?_
        refine aY [14] rfl (by kernel_rfl) ?_
        simp only [List.map_cons, List.map_nil, List.getD_cons_zero, List.getD_cons_succ]
        have p0 := (aA hx2).1 0
        have p1 := (aA hx2).1 1
        have p2 := (aA hx2).1 2
        obtain ⟨z0, z1, z2⟩ := eO hx2
        simp only [List.getElem?_toArray, List.getElem?_cons_zero, List.getElem?_cons_succ] at p0 p1 p2
        go_wp2_with fail
        go_meet
        case rel => exact ⟨_, rfl, ((hz2.setCell (p := ⟨wr.heap.size, 0, none⟩) (hle : wr.heap.size ≤ wr.heap.size) _).setCell (p := ⟨wr.heap.size, 1, none⟩) (hle : wr.heap.size ≤ wr.heap.size) _).setCell (p := ⟨wr.heap.size, 2, none⟩) (hle : wr.heap.size ≤ wr.heap.size) _, heap_setCell_same _ _ _ _ _ _ (heap_setCell_same _ _ _ _ _ _ (heap_setCell_same _ _ _ _ _ _ hx2))⟩
      case rest =>
       clear m0 d0 d1 d2 hva
       obtain ⟨bp, rfl, hBc, hxp⟩ := hcut
       have hWc := hWq.later hBc
       have hvi := (hWc.si.vps.vps i hi'.out).2.2.2.ranges
       have hrl : Hid ((vnAt vs i).rs.length = (vnAt vs i).rn) := hvi.len
       have hr64 : (vnAt vs i).rn ≤ 4 := (cA ((dC hRH.out.net).2.2.2 i hi'.out)).1
       clear hWq hISq
       go_wp2
       go_loopw [16, 13] (fun jj nn wz => ∃ j : Nat, j ≤ (vnAt vs i).rn ∧ jj = .int .i64 j ∧ nn = .int .i64 (gN vs G q a + wM (vnAt vs i).rs a j : Nat) ∧ Below wc.heap.size wc wz) (fun jj _ _ => (vnAt vs i).rn - (intOf jj).toNat)
       case atStart => exact ⟨0, Nat.zero_le _, rfl, by simp [wM], Below.refl _ _⟩
       case round =>
        obtain ⟨j, hj, rfl, rfl, hBz⟩ := hrel
        have hxz := aB hBz hxp
        have v1 := aU hxz 1 rfl
        have hcl := QY (vnAt vs i).rs a j
        rw [hrl.out] at hcl
        by_cases hjl : j < (vnAt vs i).rn
        ·have hjl' : Hid (j < (vnAt vs i).rn) := hjl
         have hj1 : (j : Int) < (vnAt vs i).rn := by omega
         have hj2 : (0 : Int) ≤ j := by omega
         have hstp : Hid (wM (vnAt vs i).rs a (j + 1) = wM (vnAt vs i).rs a j + (if qO (aL (vnAt vs i).rs j).a (aL (vnAt vs i).rs j).l a = true then 1 else 0)) := KZ (by rw [hrl.out]; exact hjl)
         obtain ⟨rb, ro, hrx, r0, r1, r2⟩ := (hvi.later hBz).cells j hjl
         rw [hrx] at v1
         obtain ⟨hb, hhb⟩ : ∃ b, qO (aL (vnAt vs i).rs j).a (aL (vnAt vs i).rs j).l a = b := ⟨_, rfl⟩
         have hh := OF (aL (vnAt vs i).rs j).a (aL (vnAt vs i).rs j).l a hb hhb wr
         rw [hhb] at hstp
         clear hhb
         cases hb
         ·go_wp2_with fail
          refine hh.mono ?_
          rintro e w6 ⟨rfl, hb6⟩
          go_wp2
          go_roundw
          case rel => exact ⟨j + 1, hjl'.out, by go_num, by rw [hstp.out]; simp, hBz.trans (hb6.mono hBz.size)⟩
          case measure => have := hjl'.out; simp [intOf]; omega
         ·go_wp2_with fail
          refine hh.mono ?_
          rintro e w6 ⟨rfl, hb6⟩
          go_wp2
          go_roundw
          case rel => exact ⟨j + 1, hjl'.out, by go_num, by rw [hstp.out]; go_num, hBz.trans (hb6.mono hBz.size)⟩
          case measure => have := hjl'.out; simp [intOf]; omega
        ·obtain rfl : j = (vnAt vs i).rn := by omega
         go_wp2
         go_roundw
         case rel => exact ⟨q + 1, hql'.out, by go_num, by rw [hst.out, hrl.out], (hBq.trans (hBc.mono hBq.size)).trans (hBz.mono (Nat.le_trans hBq.size hBc.size))⟩
         case measure => have := hql'.out; simp [intOf]; omega
     ·obtain rfl : q = G.length := by omega
      have hgt2 : decide ((gN vs G G.length a : Int) > 1) = false := by simp; omega
      go_wp2
      go_roundw
      case rel => exact ⟨k + 1, hlt'.out, by go_num, hB5.trans (hBq.mono hB5.size)⟩
      case measure => have := hlt'.out; simp [intOf]; omega
   ·obtain rfl : k = vs.length := by omega
    have hck := zF t x ps.length c ps X vs.length C vs Y ls.length D ls
    go_wp2_with fail
    refine (qN wr).mono ?_
    rintro e w3 ⟨rfl, hb3⟩
    have hW3 := hWr.later hb3
    clear s0 s1 s2 s3
    have s0 := (aA hW3.box).1 0
    have s1 := (aA hW3.box).1 1
    have s2 := (aA hW3.box).1 2
    have s3 := (aA hW3.box).1 3
    simp only [List.getElem?_toArray, List.getElem?_cons_zero, List.getElem?_cons_succ] at s0 s1 s2 s3
    have hck := hck w3 hW3.si
    have hcz := hRH.out.chk
    simp only at hcz
    rw [hcz] at hck
    go_wp2_with fail
    refine hck.mono ?_
    rintro e w4 ⟨rfl, hb4⟩
    go_wp2
    go_ret
    have hbr := hBw2.trans (hBr.mono hBw2.size)
    have hb3' := hbr.trans (hb3.mono hbr.size)
    exact ⟨rfl, hb3'.trans (hb4.mono hb3'.size)⟩
open Go.ChangeShapes Go.WideShapes Go.ChangeAt Go.RowKit Go.Joins
theorem RR : Tryz.prog.cellsOf 65 = 10 := by kernel_rfl
theorem F1 {Q : Nat → Cd} {n : Nat} (h : i < n) : cdAt ((List.range n).map Q) i = Q i := by
 unfold cdAt
 rw [List.getD_eq_getElem?_getD, List.getElem?_map, List.getElem?_range h]
 rfl
section
variable {H : Type} {enc : TypeId × Value → H} {w : World} {base : Nat} {spare : Nat → Bool} {held : Bool}
theorem lG {n : Nat} {y : Option (DataW H × List MemPlace)} (hy : y.isSome = true) (h : DataW.trod enc Tryz.prog w base spare held n 3 [v] = y) : ∃ a : Int, v = .int .i64 a ∧ (Lit.int .i64 a).wf = true := by
 obtain ⟨y, rfl⟩ := Option.isSome_iff_exists.1 hy
 obtain ⟨a, e, -, hw⟩ := DataW.trod_int Tryz.underlying3 h
 simp at e
 exact ⟨a, e, hw⟩
theorem RT {n : Nat} {x : DataW H × List MemPlace} (hl : cs.length = 10) (h : DataW.trod enc Tryz.prog w base spare held n 65 cs = some x) : ∃ c : Cd, cs = (U9 c).toList ∧ C4 c.A c.a c.l := by
 obtain ⟨xs, k, -, -, -, hxl, hf⟩ := DataW.trod_struct Tryz.underlying65 h
 match cs, hl with
 | [v0, v1, v2, v3, v4, v5, v6, v7, v8, v9], _ =>
  have g0 := hf 0 _ rfl
  have g1 := hf 1 _ rfl
  have g2 := hf 2 _ rfl
  have g3 := hf 3 _ rfl
  have g4 := hf 4 _ rfl
  have g5 := hf 5 _ rfl
  have y : ∀ i, i < 6 → (xs[i]?).isSome = true := fun i hi => mM hxl hi
  simp [MM, SG, ST] at g0 g1 g2 g3 g4 g5
  obtain ⟨a0, rfl, -⟩ := lG (y 0 (by omega)) g0
  obtain ⟨a1, rfl, w1⟩ := lG (y 1 (by omega)) g1
  obtain ⟨a2, rfl, -⟩ := lG (y 2 (by omega)) g2
  obtain ⟨a3, rfl, -⟩ := lG (y 3 (by omega)) g3
  obtain ⟨z4, h4⟩ := Option.isSome_iff_exists.1 (y 4 (by omega))
  obtain ⟨z5, h5⟩ := Option.isSome_iff_exists.1 (y 5 (by omega))
  rw [h4] at g4
  rw [h5] at g5
  obtain ⟨us, k4, -, -, -, hul, hu⟩ := DataW.trod_struct Tryz.underlying49 g4
  obtain ⟨ts, k5, -, -, -, htl, ht⟩ := DataW.trod_struct Tryz.underlying56 g5
  have p0 := hu 0 _ rfl
  have p1 := hu 1 _ rfl
  have r0 := ht 0 _ rfl
  have r1 := ht 1 _ rfl
  have r2 := ht 2 _ rfl
  have r3 := ht 3 _ rfl
  simp [MM] at p0 p1 r0 r1 r2 r3
  obtain ⟨a4, rfl, w4⟩ := lG (mM hul (by decide)) p0
  obtain ⟨a5, rfl, w5⟩ := lG (mM hul (by decide)) p1
  obtain ⟨a6, rfl, -⟩ := lG (mM htl (by decide)) r0
  obtain ⟨a7, rfl, -⟩ := lG (mM htl (by decide)) r1
  obtain ⟨a8, rfl, -⟩ := lG (mM htl (by decide)) r2
  obtain ⟨a9, rfl, -⟩ := lG (mM htl (by decide)) r3
  exact ⟨⟨a0, a1, a2, a3, a4, a5, a6, a7, a8, a9⟩, rfl, w1, w4, w5⟩
end
theorem PX {H : Type} {enc : TypeId × Value → H} {r : Reach} {d : DataW H} {p : List MemPlace}
  (hv : Value.okWide Tryz.prog w r b0 22 v) (h : DataW.Trod enc Tryz.prog w 0 (fun _ => true) true 22 v d p) :
  ∃ (x : Option Addr) (n c : Nat) (cs : List Cd), v = .slice x n c ∧ UB w x n cs ∧ n ≤ c ∧ c ≤ 9223372036854775807 ∧ (n = 0 ∨ ∃ elems sp, d = .slice elems sp ∧ elems.length = n) := by
 obtain ⟨x, n, c, rfl⟩ := okWide_slice Tryz.underlying22 hv
 obtain ⟨fuel, hf⟩ := h
 rcases Deep.open_slice Tryz.underlying22 hf with ⟨h0, -⟩ | ⟨a, len, cap, m, k, D, Pl, h1, -, hl, hm, hmm, hx, hcell⟩
 ·simp [Value.cells] at h0
  obtain ⟨rfl, rfl, rfl⟩ := h0
  exact ⟨none, 0, 0, [], rfl, ⟨rfl, fun i hi => (by cases hi), fun i hi => by cases hi⟩, by omega, by omega, .inl rfl⟩
 ·simp [Value.cells] at h1
  obtain ⟨rfl, rfl, rfl⟩ := h1
  simp at hmm
  have hmm' := hmm.symm
  subst hmm'
  clear hmm
  have hd : d = .slice ((List.range n).map D) ((List.range (c - n)).map fun j => D (n + j)) := (Prod.mk.inj hx).1
  have each : ∀ i, i < c → ∃ q : Cd, C4 q.A q.a q.l ∧ ∀ j, j < 10 → w.cell? (a.add (i * 10 + j)) = (U9 q).toList[j]? := fun i hi => by
   obtain ⟨cs', e1, e2⟩ := hcell i hi
   rw [RR] at e1
   obtain ⟨-, hlen, hc⟩ := World.cells?_some e1
   obtain ⟨q, rfl, hwf⟩ := RT hlen e2
   exact ⟨q, hwf, fun j hj => by
    have := hc j hj
    rw [Deep.add_add] at this
    exact this⟩
  have : Inhabited Cd := ⟨⟨0, 0, 0, 0, 0, 0, 0, 0, 0, 0⟩⟩
  obtain ⟨Q, hQ⟩ := Deep.choose_lt each
  have hmax : c ≤ 9223372036854775807 := by unfold maxLen at hm; omega
  by_cases hn0 : n = 0
  ·subst hn0
   exact ⟨some a, 0, c, [], rfl, ⟨rfl, fun i hi => (by cases hi), fun i hi => by cases hi⟩, by omega, hmax, .inl rfl⟩
  ·have hsp : a.spot = none := by
    have h0 := (hQ 0 (by omega)).2 0 (by omega)
    have h1 : w.cell? (a.add (0 * 10 + 0)) = some (.int .i64 (Q 0).op) := h0
    have := World.cell?_spot h1
    simpa [Addr.add] using this
   obtain ⟨b, o, sp⟩ := a
   simp only at hsp
   subst hsp
   refine ⟨some ⟨b, o, none⟩, n, c, (List.range n).map Q, rfl, ⟨by simp, fun i hi => ?_, fun i hi => ⟨b, o, rfl, ?_⟩⟩, hl, hmax, .inr ⟨_, _, hd, by simp⟩⟩
   ·rw [F1 hi]
    exact (hQ i (by omega)).1
   rw [F1 hi]
   have e : ∀ j, j < 10 → ∀ u, (U9 (Q i)).toList[j]? = some u → w.cell? ⟨b, o + i * 10 + j, none⟩ = some u := fun j hj u hu => by
    have := (hQ i (by omega)).2 j hj
    rw [lM, hu, ← Nat.add_assoc] at this
    exact this
   exact ⟨e 0 (by omega) _ rfl, e 1 (by omega) _ rfl, e 2 (by omega) _ rfl, e 3 (by omega) _ rfl, e 4 (by omega) _ rfl, e 5 (by omega) _ rfl, e 6 (by omega) _ rfl, e 7 (by omega) _ rfl, e 8 (by omega) _ rfl, e 9 (by omega) _ rfl⟩
end Go.Proofs.YtndpilfpejfloaaGreat
namespace Go.Proofs.YtndpilfpejfloaaGreat.siteRight
variable {p q : Po} {qs ps : List Po} {x X Y : Option Addr} {c k j0 bs D base i b0 : Nat} {ls ls' m : List Le} {V vs : List Vn} {L : List (Int × Int)} {s r : gL} {cd : Cd} {E a l n A B C a0 l0 mn mx us co vid y t : Int} {e : Le} {rs : List Rg} {g : Rg} {G es : List Int} {fs : List Fc} {w w' : World} {v : Value} {cs : List Value}
open Go.ChangeShapes Go.WideShapes Go.ChangeAt Go.RowKit Go.Joins
open Go.ChangeMaps (open_string shut_string)
theorem contract (H : Type) (enc : TypeId × Value → H) (W : World) (base : Nat) (args : Array Value) (ds gs : List (DataW H)) (before : List MemPlace)
  (hval : ∀ (j : Nat) t v, Tryz.f3.params[j]? = some t → args[j]? = some v → Value.okWide Tryz.prog W .any base t v)
  (hW : DataW.Whole enc Tryz.prog Tryz.f3.params.toList Rows.siteRightSpec.vars false W args.toList ds gs before)
  (hsz : (DataW.weightsEach Tryz.prog (Tryz.f3.params.toList ++ Rows.siteRightSpec.plain.varTypes Tryz.prog) (ds ++ gs)).all (· ≤ reachBytes) = true) :
  Calls Tryz.prog 3 args W fun e W' => ∃ v, e = .returned v ∧ Rows.siteRightSpec.post enc Tryz.prog Tryz.f3 false true false false W args v W' := by
 have hW' := hW
 obtain ⟨p, q, hA0, hV, rfl, hfz, hnd⟩ := hW
 have hA : DataW.TrodAll enc Tryz.prog W 0 (fun _ => true) true Tryz.f3.params.toList args.toList ds p := hA0
 rw [Tryz.params3] at hA hval hsz
 obtain ⟨v0, vs0, d0, ds0, p0, q0, hargs0, rfl, rfl, h0, r0⟩ := trodAll_cons hA
 obtain ⟨v1, vs1, d1, ds1, p1, q1, hargs1, rfl, rfl, h1, r1⟩ := trodAll_cons r0
 obtain ⟨rfl, rfl, rfl⟩ := trodAll_nil r1
 obtain rfl : args = #[v0, v1] := by cases args; simp_all
 obtain ⟨rfl, rfl⟩ := trodVars_none hV
 clear hA0
 obtain ⟨x0, n0, c0, cs0, rfl, hps0, hnc0, hc0, -⟩ := PX (hval 0 22 v0 rfl rfl) h0
 obtain ⟨y1, rfl, rfl, rfl, wy1⟩ := open_int Tryz.underlying3 (hval 1 3 v1 rfl rfl) h1
 obtain ⟨ya1, yb1⟩ := MN wy1
 have hlt0 : ∀ z ∈ p0, z.block < W.heap.size := fun z hz => hW'.lt z (by simp [hz])
 simp only [List.append_nil] at hW'
 refine (AF x0 n0 c0 cs0 y1 W hps0 (by omega) ya1 yb1).mono fun e W' ⟨he, hb⟩ => ?_
 subst he
 refine ⟨_, rfl, _, _, _, [], p0 ++ ([] ++ []), [], hW', ?_, ?_, rfl, hb.frame _, fun h => by cases h⟩
 ·exact trodAll_cons_mk (shut_bool Tryz.underlying4 _) trodAll_mk0
 ·exact trodAll_cons_mk (Below.trod QB (by kernel_rfl) (of_decide_eq_true (by kernel_rfl)) h0 hb hlt0) (trodAll_cons_mk (shut_int Tryz.underlying3 wy1) trodAll_mk0)
theorem lifted (os : Os) (started : os.Started) (H : Type) (enc : TypeId × Value → H) :
  ReturnsInHanded {} Tryz.checked os 3 .any (Rows.siteRightSpec.pre6 enc Tryz.prog Tryz.f3 Rows.siteRightRow.domain false) (Rows.siteRightSpec.post enc Tryz.prog Tryz.f3 false true false false) := by
 refine returnsInHanded_of_change_sized (C := Tryz.checked) own started (by kernel_rfl) Tryz.func3
  (ChangeSpec.witness6 (enc := enc) (C := Tryz.checked) false ⟨#[], #[.slice none 0 0, .int .i64 0], []⟩ 8 (by kernel_rfl) (by kernel_rfl) (by kernel_rfl) (by kernel_rfl)) ?_
 intro W base args ds gs before hval hW _ hsz _
 exact contract H enc W base args ds gs before hval hW hsz
end Go.Proofs.YtndpilfpejfloaaGreat.siteRight
namespace Go.Proofs.YtndpilfpejfloaaGreat
variable {p q : Po} {qs ps : List Po} {x X Y : Option Addr} {c k j0 bs D base i b0 : Nat} {ls ls' m : List Le} {V vs : List Vn} {L : List (Int × Int)} {s r : gL} {cd : Cd} {E a l n A B C a0 l0 mn mx us co vid y t : Int} {e : Le} {rs : List Rg} {g : Rg} {G es : List Int} {fs : List Fc} {w w' : World} {v : Value} {cs : List Value}
theorem siteRight_said : Rows.SiteRightSaid :=
 OpenClaim.holds_of_wide 3 Tryz.f3 rfl rfl rfl rfl rfl rfl rfl ⟨rfl, rfl, rfl, rfl, rfl⟩ rfl rfl rfl rfl rfl (by kernel_rfl) Tryz.func3 (by kernel_rfl)
  (of_decide_eq_true (by kernel_rfl)) (by unfold Func.isWrapper; first | (rw [if_pos (by decide +kernel)]; kernel_rfl) | (rw [if_neg (by decide +kernel)]; exact ⟨rfl, rfl⟩))
  (fun os started H enc _ => siteRight.lifted os started H enc)
end Go.Proofs.YtndpilfpejfloaaGreat
