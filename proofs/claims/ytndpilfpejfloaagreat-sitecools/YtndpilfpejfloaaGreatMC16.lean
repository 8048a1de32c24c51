/- A part of the proof. -/
import Derived.Test.YtndpilfpejfloaaGreatMC15
set_option maxRecDepth 100000
set_option maxHeartbeats 20000000
namespace Go.Proofs.YtndpilfpejfloaaGreat
variable {p : Po} {qs rs ps ms : List Po} {x x' X Y : Option Addr} {c k j0 i c' j bs D b0 : Nat} {ls ls' m : List Le} {q s r : fJ} {V vs : List Vn} {L : List (Int × Int)} {cd : Cd} {E a l n A B C a0 l0 mn mx us co z vid un t t' b cool y : Int} {e : Le} {g : Rg} {w w' : World} {v : Value} {cs : List Value}
open Go.RowKit Go.Shelf
abbrev I0 (x : Option Addr) (c : Nat) (ls : List Le) : Po := ⟨7, 0, 256, 8, 8, 16, 12, 3, x, ls.length, c, ls⟩
structure DV (ls : List Le) (V : List Vn) (L : List (Int × Int)) (s : fJ) : Prop where
 t0 : s.t = 0
 ps : ∃ x c, s.ps = [I0 x c ls]
 vs : s.vs.map dK = V
 lk : s.ls = L
theorem vC (h : cD [p] qs) : ∃ q, qs = [q] ∧ sH p q := by
 match qs, h with
 | [], h => exact absurd h.1 (by simp)
 | [q], h => exact ⟨q, rfl, h.2 0 (by simp)⟩
 | _ :: _ :: _, h => exact absurd h.1 (by simp)
theorem AL {q : Po} (h : sH (I0 x c ls) q) : q = I0 q.x q.c ls := by
 obtain ⟨id, up, a, l, mn, mx, us, co, x', n, c', ls'⟩ := q
 obtain ⟨h1, h2, h3, h4, h5, h6, h7, h8, h9, h10⟩ := h
 simp only at h1 h2 h3 h4 h5 h6 h7 h8 h9 h10
 subst h1 h2 h3 h4 h5 h6 h7 h8 h9 h10
 rfl
theorem DV.same (h : DV ls V L s) (hq : kO s q) : DV ls V L q := by
 obtain ⟨h1, h2, h3, h4⟩ := hq
 obtain ⟨x, c, hp⟩ := h.ps
 rw [hp] at h2
 obtain ⟨p, hp', hs⟩ := vC h2
 refine ⟨h1.trans h.t0, ⟨p.x, p.c, by rw [hp', ← AL hs]⟩, by rw [← h3.can]; exact h.vs, h4.trans h.lk⟩
theorem AM (h : rU s cd E a l n r) (hz : ∀ q E n, kO s q → kR q cd E n → E = 0) : E = 0 ∧ ∃ q, kO s q ∧ kR q cd 0 n ∧ mY q cd a l n r := by
 obtain ⟨q, hq, ⟨h0, ⟨n', hE⟩, -⟩ | ⟨h0, hE, hR⟩⟩ := h
 ·exact absurd (hz q E n' hq hE) h0
 ·exact ⟨h0, q, hq, hE, hR⟩
theorem R3 (h : gC e [] ls') : ls' = [e] := by
 obtain ⟨i, hi, -, -, rfl⟩ := h
 simp
theorem V1 : kR s ⟨1, A, B, C, a0, l0, mn, mx, us, co⟩ E n ↔ (E = gD s.t s.ps A a0 l0 mn mx us co) := by unfold kR; simp
theorem V4 : mY s ⟨1, A, B, C, a0, l0, mn, mx, us, co⟩ a l n r ↔ (a = 0 ∧ l = 0 ∧ n = 0 ∧ r.t = s.t ∧ r.vs = s.vs ∧ r.ls = s.ls ∧ ∃ qs, cD s.ps qs ∧ iN ⟨A, 0, a0, l0, mn, mx, us, co, none, 0, 0, []⟩ qs r.ps) := by unfold mY; simp
theorem V5 : kR s ⟨6, A, B, C, a0, l0, mn, mx, us, co⟩ E n ↔ (E = RT s.t s.ps s.vs A a0 l0) := by unfold kR; simp
theorem V6 : kR s ⟨7, A, B, C, a0, l0, mn, mx, us, co⟩ E n ↔ (E = SZ s.ps s.vs s.ls A) := by unfold kR; simp
theorem V7 : mY s ⟨7, A, B, C, a0, l0, mn, mx, us, co⟩ a l n r ↔ (a = 0 ∧ l = 0 ∧ n = 0 ∧ r.t = s.t ∧ r.ps = s.ps ∧ F0 s.vs s.ls A r.vs r.ls) := by unfold mY; simp
theorem V8 : kR s ⟨8, A, B, C, a0, l0, mn, mx, us, co⟩ E n ↔ (E = MV s.t s.ps s.vs s.ls A B C) := by unfold kR; simp
theorem V9 : mY s ⟨8, A, B, C, a0, l0, mn, mx, us, co⟩ a l n r ↔ (n = 0 ∧ r.t = s.t ∧ rR s.ps B C A a l r.ps ∧ uY s.vs.length s.vs s.ls A ⟨a, l, B⟩ r.vs r.ls) := by unfold mY; simp
theorem S1 : kR s ⟨9, A, B, C, a0, l0, mn, mx, us, co⟩ E n ↔ (WO s.t s.ps s.vs A a0 l0 E) := by unfold kR; simp
theorem S2 : mY s ⟨9, A, B, C, a0, l0, mn, mx, us, co⟩ a l n r ↔ (a = 0 ∧ l = 0 ∧ n = 0 ∧ r.ls = s.ls ∧ WP s.t s.ps s.vs A a0 l0 r.t r.ps r.vs) := by unfold mY; simp
theorem U4 : kR s ⟨15, A, B, C, a0, l0, mn, mx, us, co⟩ E n ↔ (E = lZ s.vs.length s.vs s.ls.length s.ls A B) := by unfold kR; simp
theorem U5 : mY s ⟨15, A, B, C, a0, l0, mn, mx, us, co⟩ a l n r ↔ (a = 0 ∧ l = 0 ∧ n = 0 ∧ r.t = s.t ∧ r.ps = s.ps ∧ JK s.vs s.ls A B r.vs r.ls) := by unfold mY; simp
theorem U6 : kR s ⟨10, A, B, C, a0, l0, mn, mx, us, co⟩ E n ↔ ((aI s.vs.length s.vs A < 0 ∧ E = 5 ∧ n = 0) ∨ ∃ k : Nat, k < s.vs.length ∧ aI s.vs.length s.vs A = k ∧ xJ (aC s.vs k) ⟨10, A, B, C, a0, l0, mn, mx, us, co⟩ E n) := by unfold kR; simp
theorem U7 : mY s ⟨10, A, B, C, a0, l0, mn, mx, us, co⟩ a l n r ↔ (a = 0 ∧ l = 0 ∧ r.t = s.t ∧ r.ps = s.ps ∧ r.ls = s.ls ∧ ∃ (k : Nat) (u : Vn), k < s.vs.length ∧ aI s.vs.length s.vs A = k ∧ UT (aC s.vs k) ⟨10, A, B, C, a0, l0, mn, mx, us, co⟩ n u ∧ r.vs = s.vs.set k u) := by unfold mY; simp
theorem U8 : kR s ⟨12, A, B, C, a0, l0, mn, mx, us, co⟩ E n ↔ ((aI s.vs.length s.vs A < 0 ∧ E = 5 ∧ n = 0) ∨ ∃ k : Nat, k < s.vs.length ∧ aI s.vs.length s.vs A = k ∧ xJ (aC s.vs k) ⟨12, A, B, C, a0, l0, mn, mx, us, co⟩ E n) := by unfold kR; simp
theorem U9 : mY s ⟨12, A, B, C, a0, l0, mn, mx, us, co⟩ a l n r ↔ (a = 0 ∧ l = 0 ∧ r.t = s.t ∧ r.ps = s.ps ∧ r.ls = s.ls ∧ ∃ (k : Nat) (u : Vn), k < s.vs.length ∧ aI s.vs.length s.vs A = k ∧ UT (aC s.vs k) ⟨12, A, B, C, a0, l0, mn, mx, us, co⟩ n u ∧ r.vs = s.vs.set k u) := by unfold mY; simp
theorem R4 (h : rU ⟨0, [], [], []⟩ ⟨1, 7, 0, 0, 256, 8, 8, 16, 12, 3⟩ E a l n r) : DV [] [] [] r := by
 have hz : ∀ q, kO ⟨0, [], [], []⟩ q → q.t = 0 ∧ q.ps = [] ∧ q.vs = [] ∧ q.ls = [] := fun q hq => ⟨hq.1, List.eq_nil_of_length_eq_zero hq.2.1.1.symm, List.eq_nil_of_length_eq_zero hq.2.2.1.1.symm, hq.2.2.2⟩
 obtain ⟨-, q, hq, -, hR⟩ := AM h (fun q E n hq hE => by
  obtain ⟨h1, h2, h3, h4⟩ := hz q hq
  rw [V1, h1, h2] at hE
  rw [hE]
  kernel_rfl)
 obtain ⟨h1, h2, h3, h4⟩ := hz q hq
 rw [V4, h1, h2, h3, h4] at hR
 obtain ⟨-, -, -, g1, g2, g3, qs, g4, i, hi, -, -, g5⟩ := hR
 obtain rfl : qs = [] := List.eq_nil_of_length_eq_zero g4.1.symm
 refine ⟨g1, ⟨none, 0, ?_⟩, by rw [g2]; rfl, g3⟩
 rw [g5]
 simp
theorem eO (h : vs.map dK = V) : vs.length = V.length := by rw [← h, List.length_map]
theorem JW {id : Int} (hS : DV [] V [] s) (hE : iT V.length V 0 [] id = 0) (h : rU s ⟨7, id, 0, 0, 0, 0, 0, 0, 0, 0⟩ E a l n r) : DV [] (oV id V) [] r := by
 obtain ⟨-, q, hq, -, hR⟩ := AM h (fun q E n hq hE' => by
  have hQ := hS.same hq
  obtain ⟨x, c, hp⟩ := hQ.ps
  rw [V6] at hE'
  unfold SZ at hE'
  rw [hp, if_neg (by show ¬ uZ (bY [I0 x c []]) id = true; rw [show uZ (bY [I0 x c []]) id = false by rfl]; decide), ← LU, hQ.vs, eO hQ.vs, hQ.lk] at hE'
  rw [hE']
  exact hE)
 have hQ := hS.same hq
 rw [V7] at hR
 obtain ⟨-, -, -, g1, g2, g3, g4⟩ := hR
 exact ⟨g1.trans hQ.t0, by rw [g2]; exact hQ.ps, by rw [g3.can, hQ.vs], g4.trans hQ.lk⟩
theorem WG (x : Option Addr) (c : Nat) (ls : List Le) : aP [I0 x c ls] 7 = 0 := lO (i := 0) (by simp) rfl (fun j hj => absurd hj (Nat.not_lt_zero _))
theorem WR (x : Option Addr) (c : Nat) (ls : List Le) : poAt [I0 x c ls] (0 : Int).toNat = I0 x c ls := rfl
theorem JX (hS : DV ls V [] s) (htk : ∀ x c, cZ 0 [I0 x c ls] 7 z A = 0) (hpf : ∀ x c, eH (I0 x c ls) (nB (I0 x c ls) z) = (a0, l0)) (hng : iZ V.length V 0 [] A ⟨a0, l0, 7⟩ = 0) (hpl : aI V.length V A = k) (hput : ∀ m, gC ⟨a0, l0, 1, A, 0⟩ ls m → m = ls')
  (h : rU s ⟨8, A, 7, z, 0, 0, 0, 0, 0, 0⟩ E a l n r) : (E, a, l, n) = (0, a0, l0, 0) ∧ DV ls' (growVs V k ⟨a0, l0, 7⟩) [] r := by
 obtain ⟨h0, q, hq, -, hR⟩ := AM h (fun q E n hq hE' => by
  have hQ := hS.same hq
  obtain ⟨x, c, hp⟩ := hQ.ps
  rw [V8] at hE'
  unfold MV UP at hE'
  rw [← bT, hQ.vs, eO hQ.vs, hpl, if_neg (by omega), hQ.t0, hp, htk, if_pos rfl, WG, WR, hpf, ← IM, hQ.vs, hQ.lk] at hE'
  rw [hE']
  exact hng)
 have hQ := hS.same hq
 obtain ⟨x, c, hp⟩ := hQ.ps
 rw [V9] at hR
 obtain ⟨g1, g2, ⟨g3, qs, x', c', m, g4, g5, g6⟩, g7, g8⟩ := hR
 rw [hp, WG, WR] at g3 g5
 rw [hp] at g4
 rw [hpf] at g3
 simp only [Prod.mk.injEq] at g3
 obtain ⟨rfl, rfl⟩ := g3
 obtain rfl := hput m g5
 obtain ⟨p, rfl, hs⟩ := vC g4
 refine ⟨by rw [h0, g1], g2.trans hQ.t0, ⟨x', c', ?_⟩, ?_, g8.trans hQ.lk⟩
 ·rw [g6, hp, WG, AL hs]
  rfl
 ·rw [← g7.can, zW, hQ.vs, ← bT, hQ.vs, eO hQ.vs, hpl, Int.toNat_natCast]
theorem R5 (hS : DV ls V [] s) (hj : lZ V.length V 0 [] A B = 0) (h : rU s ⟨15, A, B, 0, 0, 0, 0, 0, 0, 0⟩ E a l n r) : DV ls V (dO (min A B, max A B) []) r := by
 obtain ⟨-, q, hq, -, hR⟩ := AM h (fun q E n hq hE' => by
  have hQ := hS.same hq
  rw [U4, ← LV, hQ.vs, eO hQ.vs, hQ.lk] at hE'
  rw [hE']
  exact hj)
 have hQ := hS.same hq
 rw [U5] at hR
 obtain ⟨-, -, -, g1, g2, g3, g4⟩ := hR
 exact ⟨g1.trans hQ.t0, by rw [g2]; exact hQ.ps, by rw [← g3.can]; exact hQ.vs, by rw [g4, hQ.lk]⟩
theorem I1 (h : vs.map dK = V) : dK (aC vs k) = aC V k := by rw [← h, fF]
theorem VA {id c m : Int} {rs : List Rg} (hS : DV ls V L s) (hpl : aI V.length V A = k) (hv : aC V k = ⟨vid, none, rs.length, 0, rs, none, 0, 0, []⟩) (hE : rN vid rs.length rs 0 [] id c m = 0)
  (h : rU s ⟨10, A, id, 0, c, m, 0, 0, 0, 0⟩ E a l n r) : DV ls (V.set k ⟨vid, none, rs.length, 0, rs, none, 1, 0, [⟨id, c, m, none, 0, 0, []⟩]⟩) L r := by
 have key : ∀ q, kO s q → ∀ k' : Nat, aI q.vs.length q.vs A = k' → k' = k ∧ (aC q.vs k).id = vid ∧ (aC q.vs k).rn = rs.length ∧ (aC q.vs k).rs = rs ∧ (aC q.vs k).sn = 0 ∧ (aC q.vs k).ss = [] := fun q hq k' hk' => by
  have hQ := hS.same hq
  rw [← bT, hQ.vs, eO hQ.vs, hpl] at hk'
  have hc := I1 (k := k) hQ.vs
  rw [hv] at hc
  unfold dK at hc
  simp only [Vn.mk.injEq, true_and] at hc
  exact ⟨by omega, hc.1, hc.2.1, hc.2.2.1, hc.2.2.2.1, by simpa using hc.2.2.2.2⟩
 obtain ⟨-, q, hq, -, hR⟩ := AM h (fun q E n hq hE' => by
  have hQ := hS.same hq
  rw [U6] at hE'
  rcases hE' with ⟨hn, -⟩ | ⟨k', -, hk', hW⟩
  ·rw [← bT, hQ.vs, eO hQ.vs, hpl] at hn
   omega
  ·obtain ⟨rfl, e1, e2, e3, e4, e5⟩ := key q hq k' hk'
   unfold xJ at hW
   rw [if_pos rfl, e1, e2, e3, e4, e5] at hW
   rw [hW.1]
   exact hE)
 have hQ := hS.same hq
 rw [U7] at hR
 obtain ⟨-, -, g1, g2, g3, k', u, -, hk', ⟨u1, u2, u3, u4, u5⟩, g4⟩ := hR
 obtain ⟨rfl, e1, e2, e3, e4, e5⟩ := key q hq k' hk'
 unfold QK at u4
 rw [if_pos rfl, e5] at u4
 obtain ⟨ts, hts, i, hi, -, -, hus⟩ := u4
 obtain rfl : ts = [] := List.eq_nil_of_length_eq_zero hts.1.symm
 have hss : u.ss = [⟨id, c, m, none, 0, 0, []⟩] := by rw [hus]; simp
 refine ⟨g1.trans hQ.t0, by rw [g2]; exact hQ.ps, ?_, g3.trans hQ.lk⟩
 rw [g4, List.map_set, hQ.vs]
 congr 1
 unfold dK
 rw [u1, u2, u3, u5, hss, e1, e3]
 rfl
theorem R6 {id sub c m y0 : Int} {rs : List Rg} (hS : DV ls V L s) (hpl : aI V.length V A = k) (hv : aC V k = ⟨vid, none, rs.length, 0, rs, none, 1, 0, [⟨sub, c, m, none, 0, 0, []⟩]⟩)
  (hch : ∀ x d, aZ vid rs.length rs 1 [⟨sub, c, m, x, 0, d, []⟩] = 0) (hf0 : ∀ x d, lH ⟨sub, c, m, x, 0, d, []⟩ id = 0) (hL : ∀ x d, nF ⟨sub, c, m, x, 0, d, []⟩ y0)
  (h : rU s ⟨12, A, sub, id, 0, 0, 0, 0, 0, 0⟩ E a l n r) : (E, a, l, n) = (0, 0, 0, y0) ∧ DV ls (V.set k ⟨vid, none, rs.length, 0, rs, none, 1, 0, [⟨sub, c, m, none, 1, 0, [⟨id, none, 1, 0, [y0]⟩]⟩]⟩) L r := by
 have key : ∀ q, kO s q → ∀ k' : Nat, aI q.vs.length q.vs A = k' → k' = k ∧ (aC q.vs k).id = vid ∧ (aC q.vs k).rn = rs.length ∧ (aC q.vs k).rs = rs ∧ (aC q.vs k).sn = 1 ∧ ∃ x d, (aC q.vs k).ss = [⟨sub, c, m, x, 0, d, []⟩] := fun q hq k' hk' => by
  have hQ := hS.same hq
  rw [← bT, hQ.vs, eO hQ.vs, hpl] at hk'
  have hc := I1 (k := k) hQ.vs
  rw [hv] at hc
  unfold dK at hc
  simp only [Vn.mk.injEq, true_and] at hc
  refine ⟨by omega, hc.1, hc.2.1, hc.2.2.1, hc.2.2.2.1, ?_⟩
  obtain ⟨t, ht, e⟩ := List.map_eq_singleton_iff.1 hc.2.2.2.2
  obtain ⟨i1, i2, i3, i4, i5, i6, i7⟩ := t
  unfold oT at e
  simp only [Sb.mk.injEq, true_and, List.map_eq_nil_iff] at e
  obtain ⟨rfl, rfl, rfl, rfl, rfl⟩ := e
  exact ⟨i4, i6, ht⟩
 have one : ∀ q, kO s q → ∀ E n, kR q ⟨12, A, sub, id, 0, 0, 0, 0, 0, 0⟩ E n → E = 0 ∧ n = y0 := fun q hq E n hE' => by
  have hQ := hS.same hq
  rw [U8] at hE'
  rcases hE' with ⟨hn, -⟩ | ⟨k', -, hk', hW⟩
  ·rw [← bT, hQ.vs, eO hQ.vs, hpl] at hn
   omega
  ·obtain ⟨rfl, e1, e2, e3, e4, x, d, e5⟩ := key q hq k' hk'
   unfold xJ at hW
   rw [if_neg (by simp), if_neg (by simp), if_pos rfl, e1, e2, e3, e4, e5] at hW
   unfold nH at hW
   rw [if_neg (by rw [hch]; decide)] at hW
   rcases hW with ⟨hn, -⟩ | ⟨i, hi, hF⟩
   ·exact absurd rfl (hn 0 (by omega))
   ·obtain rfl : i = 0 := by have := hi.isn; omega
    exact (hF.2 (hf0 x d)).one (.inl ⟨rfl, hL x d⟩)
 obtain ⟨h0, q, hq, hE, hR⟩ := AM h (fun q E n hq hE' => (one q hq E n hE').1)
 have hn := (one q hq _ _ hE).2
 have hQ := hS.same hq
 rw [U9] at hR
 obtain ⟨ga, gl, g1, g2, g3, k', u, -, hk', ⟨u1, u2, u3, u4, u5⟩, g4⟩ := hR
 obtain ⟨rfl, e1, e2, e3, e4, x, d, e5⟩ := key q hq k' hk'
 unfold QK at u4
 rw [if_neg (by simp), if_neg (by simp), if_pos rfl, e4, e5] at u4
 obtain ⟨ts, i, x', n', c', fx, gs, k1, -, k3, k4, k5, k6⟩ := u4
 obtain rfl : i = 0 := by have := k1.isn; omega
 have hts : ts.map oT = [⟨sub, c, m, none, 0, 0, []⟩] := k3.can.symm
 obtain ⟨t, rfl, e⟩ := List.map_eq_singleton_iff.1 hts
 obtain ⟨i1, i2, i3, i4, i5, i6, i7⟩ := t
 unfold oT at e
 simp only [Sb.mk.injEq, true_and, List.map_eq_nil_iff] at e
 obtain ⟨rfl, rfl, rfl, rfl, rfl⟩ := e
 obtain ⟨p, hp, -, -, hgs⟩ := k4
 have hg1 : gs = [⟨id, fx, 1, 1, [n]⟩] := by rw [hgs]; simp [sbAt]
 subst hg1
 subst k5
 refine ⟨by rw [h0, ga, gl, hn], g1.trans hQ.t0, by rw [g2]; exact hQ.ps, ?_, g3.trans hQ.lk⟩
 rw [g4, List.map_set, hQ.vs]
 congr 1
 unfold dK
 rw [u1, u2, u3, u5, k6, e1, e3, hn]
 rfl
theorem R7 {c m : Int} (hS : DV ls V L s) (hpl : aI V.length V A = k) (hv : aC V k = ⟨vid, none, 1, 0, [g], none, 0, 0, []⟩) (hd : gU vid 1 [g] 0 [] c m = 0) (hg7 : g.p = 7)
  (hge : ∀ x d, fB 0 [I0 x d ls] 7 g.a g.l = 0) (hfi : ∀ x d, bM (I0 x d ls).n (qF ls g.a g.l) = j0) (hcl : ∀ x d, bS (I0 x d ls) j0 0 = ls')
  (h : rU s ⟨9, A, 0, 0, c, m, 0, 0, 0, 0⟩ E a l n r) : E = 0 ∧ DV ls' (V.set k ⟨vid, none, 0, 0, [], none, 0, 0, []⟩) L r := by
 have key : ∀ q, kO s q → ∀ k' : Nat, aI q.vs.length q.vs A = k' → k' = k ∧ (aC q.vs k).id = vid ∧ (aC q.vs k).rn = 1 ∧ (aC q.vs k).rs = [g] ∧ (aC q.vs k).sn = 0 ∧ (aC q.vs k).ss = [] := fun q hq k' hk' => by
  have hQ := hS.same hq
  rw [← bT, hQ.vs, eO hQ.vs, hpl] at hk'
  have hc := I1 (k := k) hQ.vs
  rw [hv] at hc
  unfold dK at hc
  simp only [Vn.mk.injEq, true_and] at hc
  exact ⟨by omega, hc.1, hc.2.1, hc.2.2.1, hc.2.2.2.1, by simpa using hc.2.2.2.2⟩
 obtain ⟨h0, q, hq, -, hR⟩ := AM h (fun q E n hq hE' => by
  have hQ := hS.same hq
  obtain ⟨x, d, hp⟩ := hQ.ps
  rw [S1] at hE'
  rcases hE' with ⟨hn, -⟩ | ⟨k', -, hk', hW⟩
  ·rw [← bT, hQ.vs, eO hQ.vs, hpl] at hn
   omega
  ·obtain ⟨rfl, e1, e2, e3, e4, e5⟩ := key q hq k' hk'
   rw [e1, e2, e3, e4, e5, hd] at hW
   rcases hW with ⟨hn, -⟩ | ⟨-, i, hi, hE⟩
   ·exact absurd rfl hn
   ·have hi1 := hi.lt
    rw [e2] at hi1
    obtain rfl : i = 0 := by omega
    rw [hQ.t0, hp, show (aJ [g] 0).p = 7 from hg7] at hE
    rw [hE]
    exact hge x d)
 have hQ := hS.same hq
 obtain ⟨x, d, hp⟩ := hQ.ps
 rw [S2] at hR
 obtain ⟨-, -, -, g3, k', i, u, -, hk', -, hi, hus, u1, u2, u3, u4, u5, g1, qs, x', c', g4, g6⟩ := hR
 obtain ⟨rfl, e1, e2, e3, e4, e5⟩ := key q hq k' hk'
 have hi1 := hi.lt
 rw [e2] at hi1
 obtain rfl : i = 0 := by omega
 rw [e3] at u2 g6
 rw [show (aJ [g] 0).p = 7 from hg7, hp, WG, WR, show (aJ [g] 0) = g from rfl, hfi, Int.toNat_natCast, show (0 : Int).toNat = 0 from rfl, hQ.t0, hcl] at g6
 rw [hp] at g4
 obtain ⟨p, rfl, hs⟩ := vC g4
 have hss : u.ss = [] := List.eq_nil_of_length_eq_zero (by rw [← u4.1, e5]; rfl)
 have hrs : u.rs = [] := by rw [u2]; rfl
 refine ⟨h0, g1.trans hQ.t0, ⟨x', c', ?_⟩, ?_, g3.trans hQ.lk⟩
 ·rw [g6, AL hs]
  rfl
 ·rw [hus, List.map_set, hQ.vs]
  congr 1
  unfold dK
  rw [u1, u3, u5, hrs, hss, e1]
  rfl
theorem R8 {o : Int} (hS : DV ls V L s) (ho : ∀ x c, nP (bY [I0 x c ls]) 7 a0 l0 = o) (hpl : 0 ≤ aI V.length V o) (h : rU s ⟨6, 7, 0, 0, a0, l0, 0, 0, 0, 0⟩ E a l n r) : E = 9 ∧ DV ls V L r := by
 have one : ∀ q, kO s q → ∀ E n, kR q ⟨6, 7, 0, 0, a0, l0, 0, 0, 0, 0⟩ E n → E = 9 := fun q hq E n hE' => by
  have hQ := hS.same hq
  obtain ⟨x, c, hp⟩ := hQ.ps
  rw [V5] at hE'
  unfold RT at hE'
  rw [hp, ho, ← bT, hQ.vs, eO hQ.vs, if_pos hpl] at hE'
  exact hE'
 obtain ⟨q, hq, ⟨-, ⟨n', hE⟩, -, -, -, hr⟩ | ⟨-, hE, -⟩⟩ := h
 ·exact ⟨one q hq _ _ hE, hS.same hr⟩
 ·exact absurd (one q hq _ _ hE) (by decide)
def JY : List Cd := [⟨1, 7, 0, 0, 256, 8, 8, 16, 12, 3⟩, ⟨7, 1, 0, 0, 0, 0, 0, 0, 0, 0⟩, ⟨7, 2, 0, 0, 0, 0, 0, 0, 0, 0⟩, ⟨8, 1, 7, 10, 0, 0, 0, 0, 0, 0⟩, ⟨8, 2, 7, 0, 0, 0, 0, 0, 0, 0⟩, ⟨15, 2, 1, 0, 0, 0, 0, 0, 0, 0⟩, ⟨10, 1, 4, 0, 256, 14, 0, 0, 0, 0⟩, ⟨12, 1, 4, 9, 0, 0, 0, 0, 0, 0⟩, ⟨9, 2, 0, 0, 320, 12, 0, 0, 0, 0⟩, ⟨6, 7, 0, 0, 256, 10, 0, 0, 0, 0⟩]
theorem R9 (h : gC ⟨320, 12, 1, 2, 0⟩ [⟨256, 10, 1, 1, 0⟩] m) : m = [⟨256, 10, 1, 1, 0⟩, ⟨320, 12, 1, 2, 0⟩] := by
 obtain ⟨i, hi, h1, h2, rfl⟩ := h
 have hi' : i ≤ 1 := hi
 by_cases e : i = 0
 ·subst e
  exact absurd (h2 (by simp)) (by decide)
 ·obtain rfl : i = 1 := by omega
  rfl
theorem GN {f : Nat → fJ} {g : Nat → Int × Int × Int × Int} (h : CF JY f g 10) : g 4 = (0, 320, 12, 0) ∧ g 7 = (0, 0, 0, 257) ∧ (g 8).1 = 0 ∧ (g 9).1 = 9 ∧ (f 10).ls.length = 1 ∧ ∃ p, (f 10).ps = [p] ∧ p.n = 2 := by
 have s0 := h.steps 0 (by decide)
 rw [h.first] at s0
 have a1 := R4 s0
 have a2 := JW a1 (by kernel_rfl) (h.steps 1 (by decide))
 have a3 := JW a2 (by kernel_rfl) (h.steps 2 (by decide))
 have a4 := (JX (ls' := [⟨256, 10, 1, 1, 0⟩]) (k := 0) (a0 := 256) (l0 := 10) a3 (fun x c => by kernel_rfl) (fun x c => by kernel_rfl) (by kernel_rfl) (by kernel_rfl) (fun m hm => R3 hm) (h.steps 3 (by decide))).2
 obtain ⟨e5, a5⟩ := JX (ls' := [⟨256, 10, 1, 1, 0⟩, ⟨320, 12, 1, 2, 0⟩]) (k := 1) (a0 := 320) (l0 := 12) a4 (fun x c => by kernel_rfl) (fun x c => by kernel_rfl) (by kernel_rfl) (by kernel_rfl) (fun m hm => R9 hm) (h.steps 4 (by decide))
 have a6 := R5 a5 (by kernel_rfl) (h.steps 5 (by decide))
 have a7 := VA (k := 0) (vid := 1) (rs := [⟨256, 10, 7⟩]) a6 (by kernel_rfl) (by kernel_rfl) (by kernel_rfl) (h.steps 6 (by decide))
 obtain ⟨e8, a8⟩ := R6 (k := 0) (vid := 1) (c := 256) (m := 14) (y0 := 257) (rs := [⟨256, 10, 7⟩]) a7 (by kernel_rfl) (by kernel_rfl) (fun x d => by kernel_rfl) (fun x d => by kernel_rfl) (fun x d => ⟨by kernel_rfl, by simp [aN], fun z h1 h2 => by simp only at h1; omega⟩) (h.steps 7 (by decide))
 obtain ⟨e9, a9⟩ := R7 (ls' := [⟨256, 10, 1, 1, 0⟩, ⟨320, 12, 3, 0, 3⟩]) (k := 1) (j0 := 1) (vid := 2) (g := ⟨320, 12, 7⟩) a8 (by kernel_rfl) (by kernel_rfl) (by kernel_rfl) rfl (fun x d => by kernel_rfl) (fun x d => by kernel_rfl) (fun x d => by kernel_rfl) (h.steps 8 (by decide))
 obtain ⟨e10, a10⟩ := R8 (o := 1) a9 (fun x c => by kernel_rfl) (by decide +kernel) (h.steps 9 (by decide))
 obtain ⟨x, c, hp⟩ := a10.ps
 refine ⟨e5, e8, e9, e10, by rw [a10.lk]; kernel_rfl, _, hp, rfl⟩
theorem MP : Tryz.prog.underlying 61 = some (.struct (Tryz.prog.fieldsOf 61)) := by kernel_rfl
theorem SA : Tryz.prog.stoodInHeld 61 = false := by kernel_rfl
theorem S3 (a b c d : Int) (w : World) : (binOp .eql 61 (RX a b c d) (RX a b c d)).run Tryz.prog w = .ok (.bool true) w := by
 rw [run_eql_struct, show (10000 : Nat) = 9999 + 1 from rfl, run_equalIn_agg w 9999 _ _ _ MP SA]
 simp only [Program.fieldsOf, Tryz.underlying61]
 go_simp
theorem QC : Tryz.prog.eqGuardType Tryz.prog.depth 61 = false := by kernel_rfl
theorem GO (op : BinOp) (x y : Operand) (p q : Array Value) (w : World) : (eqGuard op 61 x y (.agg p) (.agg q)).run Tryz.prog w = .ok () w := by
 have h := QC
 unfold eqGuard
 cases op <;> simp [go_sem, h]
theorem QD (w : World) : Calls Tryz.prog 17 #[] w fun e w' => ∃ b, e = .returned (.slice (some ⟨b, 0, none⟩) 10 10) ∧ S0 w' (some ⟨b, 0, none⟩) 10 JY ∧ Below w.heap.size w w' := by
 go_enter Tryz.func17, Tryz.ntmps17
 go_wp2_with fail
 refine (KW _).mono ?_
 rintro e w1 ⟨rfl, hb1⟩
 go_wp2
 go_ret
 refine ⟨w1.heap.size, rfl, ⟨rfl, fun i hi => ?_, fun i hi => ⟨w1.heap.size, 0, rfl, ?_⟩⟩, hb1.trans ((bl1 w1 _).mono hb1.size)⟩
 ·have : i = 0 ∨ i = 1 ∨ i = 2 ∨ i = 3 ∨ i = 4 ∨ i = 5 ∨ i = 6 ∨ i = 7 ∨ i = 8 ∨ i = 9 := by omega
  rcases this with rfl | rfl | rfl | rfl | rfl | rfl | rfl | rfl | rfl | rfl <;> exact ⟨rfl, rfl, rfl⟩
 ·have : i = 0 ∨ i = 1 ∨ i = 2 ∨ i = 3 ∨ i = 4 ∨ i = 5 ∨ i = 6 ∨ i = 7 ∨ i = 8 ∨ i = 9 := by omega
  rcases this with rfl | rfl | rfl | rfl | rfl | rfl | rfl | rfl | rfl | rfl <;> simp [cdAt, JY]
theorem dL (w : World) : Calls Tryz.prog 6 #[] w fun e w' => e = .returned (.bool true) ∧ Below w.heap.size w w' := by
 go_enter Tryz.func6, Tryz.ntmps6
 go_wp2_with fail
 refine (QD _).mono ?_
 rintro e w1 ⟨b, rfl, hc, hb1⟩
 go_wp2_with fail
 refine (GL (some ⟨b, 0, none⟩) 10 10 JY w1 hc (by decide)).mono ?_
 rintro e w2 ⟨-, hP⟩
 obtain ⟨f, g, vB, vV, vK, ba, rfl, hb2, hO, hrow, hpl⟩ := hP (by decide)
 obtain ⟨x1, c1, X1, C1, Y1, D1, rfl, rfl, rfl⟩ := hO.slices
 go_upto_region 2 with fail
 obtain ⟨w3, hw3⟩ : ∃ w3, w3 = w2.alloc (kP (f 10).t (.slice x1 (f 10).ps.length c1) (.slice X1 (f 10).vs.length C1) (.slice Y1 (f 10).ls.length D1)) := ⟨_, rfl⟩
 rw [← hw3]
 have hb3 : Below w2.heap.size w2 w3 := by rw [hw3]; exact bl1 w2 _
 have hq3 : w3.heap[w2.heap.size]? = some (kP (f 10).t (.slice x1 (f 10).ps.length c1) (.slice X1 (f 10).vs.length C1) (.slice Y1 (f 10).ls.length D1)) := by rw [hw3]; exact aB _ rfl
 clear hw3
 obtain ⟨g4, g7, g8, g9, hl, p, hp, hpn⟩ := GN hpl
 have hBw : Below w.heap.size w w3 := (hb1.trans (hb2.mono hb1.size)).trans (hb3.mono (Nat.le_trans hb1.size hb2.size))
 have hS3 : kV w3 w1.heap.size w2.heap.size (f 10).t (f 10).ps (f 10).vs (f 10).ls (.slice x1 (f 10).ps.length c1) (.slice X1 (f 10).vs.length C1) (.slice Y1 (f 10).ls.length D1) := ⟨hq3, hb2.size, hO.later hb3⟩
 have hrow3 := hrow.of_block (hb3.block _ hrow.lt)
 have hR := hpl.right 10 (zE)
 obtain ⟨x', c', X', C', Y', D', e1, e2, e3, hbk, hvs, hvc, hv63, hps, hl63⟩ := hS3.see hR.bk
 simp only [Value.slice.injEq] at e1 e2 e3
 obtain ⟨rfl, -, rfl⟩ := e1
 obtain ⟨rfl, -, rfl⟩ := e2
 obtain ⟨rfl, -, rfl⟩ := e3
 have hck := AG (f 10).t x1 (f 10).ps.length c1 (f 10).ps X1 (f 10).vs.length C1 (f 10).vs Y1 (f 10).ls.length D1 (f 10).ls w3 ⟨hbk, hvs, hvc, hv63, hps, hl63⟩
 rw [hR.chk] at hck
 have cell : ∀ i q, i < 10 → q < 4 → w3.cell? ⟨ba, i * 4 + q, none⟩ = some (.int .i64 (WF (g i) q)) := fun i q hi hq => by
  rw [hrow3.cell (by omega)]
  unfold U0
  rw [if_pos (by omega), show (i * 4 + q) / 4 = i by omega, show (i * 4 + q) % 4 = q by omega]
 have m0 : w3.cell? ⟨ba, 16, none⟩ = some (.int .i64 0) := by have := cell 4 0 (by decide) (by decide); rw [g4] at this; exact this
 have m1 : w3.cell? ⟨ba, 16 + 1, none⟩ = some (.int .i64 320) := by have := cell 4 1 (by decide) (by decide); rw [g4] at this; exact this
 have m2 : w3.cell? ⟨ba, 16 + 2, none⟩ = some (.int .i64 12) := by have := cell 4 2 (by decide) (by decide); rw [g4] at this; exact this
 have m3 : w3.cell? ⟨ba, 16 + 3, none⟩ = some (.int .i64 0) := by have := cell 4 3 (by decide) (by decide); rw [g4] at this; exact this
 have n0 : w3.cell? ⟨ba, 28, none⟩ = some (.int .i64 0) := by have := cell 7 0 (by decide) (by decide); rw [g7] at this; exact this
 have n1 : w3.cell? ⟨ba, 28 + 1, none⟩ = some (.int .i64 0) := by have := cell 7 1 (by decide) (by decide); rw [g7] at this; exact this
 have n2 : w3.cell? ⟨ba, 28 + 2, none⟩ = some (.int .i64 0) := by have := cell 7 2 (by decide) (by decide); rw [g7] at this; exact this
 have n3 : w3.cell? ⟨ba, 28 + 3, none⟩ = some (.int .i64 257) := by have := cell 7 3 (by decide) (by decide); rw [g7] at this; exact this
 have o0 : w3.cell? ⟨ba, 32, none⟩ = some (.int .i64 0) := by have := cell 8 0 (by decide) (by decide); rw [show WF (g 8) 0 = (g 8).1 from rfl, g8] at this; exact this
 have o1 : w3.cell? ⟨ba, 36, none⟩ = some (.int .i64 9) := by have := cell 9 0 (by decide) (by decide); rw [show WF (g 9) 0 = (g 9).1 from rfl, g9] at this; exact this
 obtain ⟨pb, po, hpx, q0, q1, q2, q3, q4, q5, q6, q7, q8⟩ := hbk.ps.cells 0 (by rw [hp]; exact Nat.one_pos)
 have hpl1 : (f 10).ps.length = 1 := by rw [hp]; rfl
 have hp0 : poAt (f 10).ps 0 = p := by rw [hp]; rfl
 subst hpx
 rw [hp0, hpn] at q8
 obtain ⟨s0, s1, s2, s3⟩ := dN hq3 rfl rfl rfl rfl
 rw [hpl1] at s1 hck ⊢
 rw [hl] at s3 hck ⊢
 clear hrow hrow3 cell g4 g7 g8 g9 hpl hR hbk hvs hps hO hS3 hb1 hb2 hb3 hc hP hq3
 have he1 := fun W => S3 0 320 12 0 W
 have he2 := fun W => S3 0 0 0 257 W
 have hg1 := fun x y W => GO .eql x y #[.int .i64 0, .int .i64 320, .int .i64 12, .int .i64 0] #[.int .i64 0, .int .i64 320, .int .i64 12, .int .i64 0] W
 have hg2 := fun x y W => GO .eql x y #[.int .i64 0, .int .i64 0, .int .i64 0, .int .i64 257] #[.int .i64 0, .int .i64 0, .int .i64 0, .int .i64 257] W
 go_wp2_with fail
 refine hck.mono ?_
 rintro e w4 ⟨rfl, hb4⟩
 go_wp2
 go_ret
 exact ⟨rfl, hBw.trans (hb4.mono hBw.size)⟩
theorem bF.rv (h : bF s) {i : Nat} (hi : i < s.vs.length) : RV (aC s.vs i).id (aC s.vs i).rn (aC s.vs i).rs (aC s.vs i).sn (aC s.vs i).ss := by
 obtain ⟨-, -, -, hc⟩ := eT h.net
 exact JN (h.fullV _ (cX hi)).rl (h.fullV _ (cX hi)).sl.subs (hc i hi)
def dM (ps : List Po) (id a l un : Int) : Prop := ∃ p ∈ ps, p.id = id ∧ ∃ e ∈ p.ls, e.kd = 3 ∧ e.a = a ∧ e.l = l ∧ e.un = un
theorem JZ {id : Int} (hH : eK ps rs) (hls : ∀ k, k < ps.length → ∀ e ∈ (poAt ps k).ls, e.kd = 3 → e.un = un → e ∈ (poAt rs k).ls) (h : dM ps id a l un) : dM rs id a l un := by
 obtain ⟨p, hp, hid, e, he, h3, ha, hl, hu⟩ := h
 obtain ⟨k, hk, rfl⟩ := bJ hp
 exact ⟨poAt rs k, poAt_mem (by rw [← hH.1]; exact hk), by rw [← (hH.2 k hk).1]; exact hid, e, hls k hk e he h3 hu, h3, ha, hl, hu⟩
theorem xK {id : Int} (hs : cD ps qs) (h : dM ps id a l un) : dM qs id a l un :=
 JZ ⟨hs.1, fun k hk => (hs.2 k hk).head⟩ (fun k hk e he _ _ => by rw [← (hs.2 k hk).2.2.2.2.2.2.2.2.2]; exact he) h
theorem QE {e : Po} {id : Int} (hp : iN e qs rs) (h : dM qs id a l un) : dM rs id a l un := by
 obtain ⟨i, -, -, -, rfl⟩ := hp
 obtain ⟨p, hp, h2⟩ := h
 exact ⟨p, jK.2 (.inr hp), h2⟩
theorem QF {id : Int} (hF : bX ps) (hi : i < ps.length) (hs : cD ps qs) (hput : gC e (poAt ps i).ls ls') (h : dM ps id a l un) : dM (qs.set i (aT (poAt qs i) x' ls'.length c' ls')) id a l un := by
 obtain ⟨hH, -, hls⟩ := fE (x' := x') (c' := c') (ls' := ls') hs hF hi
 refine JZ hH (fun k hk e' he _ _ => ?_) h
 rw [hls k hk]
 split
 ·rename_i e2
  subst e2
  exact (jR hput).2 (.inr he)
 ·exact he
theorem VB {n' : Nat} {id : Int} (hput : gC e (poAt ms i).ls ls') (h : dM ms id a l un) : dM (ms.set i (aT (poAt ms i) x' n' c' ls')) id a l un := by
 by_cases hi : i < ms.length
 ·obtain ⟨p, hp, hid, e', he, h4⟩ := h
  obtain ⟨k, hk, rfl⟩ := bJ hp
  refine ⟨poAt (ms.set i (aT (poAt ms i) x' n' c' ls')) k, poAt_mem (by rw [List.length_set]; exact hk), ?_⟩
  rw [cY hi]
  split
  ·rename_i e2
   subst e2
   exact ⟨hid, e', (jR hput).2 (.inr he), h4⟩
  ·exact ⟨hid, e', he, h4⟩
 ·rw [List.set_eq_of_length_le (by omega)]
  exact h
theorem J0 {id : Int} (hF : bX ps) (hi : i < ps.length) (hj : j < (poAt ps i).ls.length) (hk : (aO (poAt ps i).ls j).kd ≠ 3) (hs : cD ps qs) (h : dM ps id a l un) :
  dM (qs.set i (aT (poAt qs i) x' (bS (poAt ps i) j t).length c' (bS (poAt ps i) j t))) id a l un := by
 obtain ⟨hH, -, hls⟩ := fE (x' := x') (c' := c') (ls' := bS (poAt ps i) j t) hs hF hi
 refine JZ hH (fun k hk' e' he h3 _ => ?_) h
 rw [hls k hk']
 split
 ·rename_i e2
  subst e2
  obtain ⟨q, hq, rfl⟩ := gG he
  exact oL hj hq (fun c => hk (by rw [← c]; exact h3))
 ·exact he
theorem J1 {gi ga gl id : Int} (hF : bX ps) (hE : fB t ps gi ga gl = 0) (hR : sM t ps gi ga gl t' rs) (h : dM ps id a l un) : dM rs id a l un := by
 obtain ⟨-, i, j, hi, hat, hj, hfi, hkd, -, -⟩ := JE hE
 obtain ⟨-, qs, x', c', hs, hrs⟩ := hR
 rw [hat, Int.toNat_natCast, hfi, Int.toNat_natCast] at hrs
 rw [hrs]
 exact J0 hF hi (by rw [hF i hi]; exact hj) (by rw [hkd]; decide) hs h
theorem QG {ci id : Int} (hF : bX ps) (hE : fO t ps ci = 0) (hR : mL t ps ci t' rs) (hne : ci ≠ id) (h : dM ps id a l un) : dM rs id a l un := by
 obtain ⟨-, qs, hA, hC, hrs⟩ := hR
 unfold fO at hE
 by_cases c0' : aV t ps ≠ 0
 ·rw [if_pos c0'] at hE
  exact absurd hE c0'
 have c0 : aV t ps = 0 := Classical.not_not.1 c0'
 rw [if_neg c0'] at hE
 by_cases c1 : aP ps ci < 0
 ·rw [if_pos c1] at hE; omega
 obtain ⟨i, hi, hat, hid⟩ := aQ c1
 rw [hat, Int.toNat_natCast] at hrs hA hC
 have hB := gH hF c0
 have hq : dM qs id a l un ∧ eK ps qs := by
  by_cases c3 : aP ps (poAt ps i).up < 0
  ·have hs := hA c3
   exact ⟨xK hs h, hs.1, fun n hn => (hs.2 n hn).head⟩
  ·obtain ⟨k0, hk0, hat0, hid0⟩ := aQ c3
   obtain ⟨us, x', c', hs, hqs⟩ := hC k0 hat0
   have hup : (poAt ps i).up ≠ 0 := fun e => by
    have := hB.idw _ (poAt_mem hk0)
    rw [hid0, e] at this
    exact absurd this (by decide)
   have hany : aL (poAt ps k0).n (eX (poAt ps k0).ls (poAt ps i).id) = true := by
    obtain ⟨f, hf⟩ := hB.ups _ (poAt_mem hi)
    cases f with
    | zero => unfold lD at hf; cases hf
    | succ f =>
     rcases (up_step hF hB.rise).1 hf with h | ⟨q, hq, h1, h2, -⟩
     ·exact absurd h hup
     ·obtain rfl := uG hB.rise hq (poAt_mem hk0) (h1.trans hid0.symm)
      exact (jI (hF k0 hk0)).2 h2
   rcases firstAt_any (n := (poAt ps k0).n) (f := eX (poAt ps k0).ls (poAt ps i).id) with ⟨-, j, hj, hfj, -, hfa⟩ | ⟨h', -⟩
   ·rw [hfa, Int.toNat_natCast] at hqs
    unfold eX at hfj
    simp only [zH, beq_iff_eq] at hfj
    rw [hqs]
    exact ⟨J0 hF hk0 (by rw [hF k0 hk0]; exact hj) (by rw [hfj.1]; decide) hs h, (fE (x' := x') (c' := c') (ls' := bS (poAt ps k0) j t) hs hF hk0).1⟩
   ·rw [hany] at h'
    cases h'
 obtain ⟨⟨p, hp, hpi, he⟩, hH⟩ := hq
 obtain ⟨k, hk, rfl⟩ := bJ hp
 rw [hrs]
 refine ⟨_, (xA (by rw [← hH.1]; exact hi)).2 ⟨k, hk, fun e => hne ?_, rfl⟩, hpi, he⟩
 subst e
 rw [← hid, (hH.2 k hi).1]
 exact hpi
theorem MQ (hc : aV t ps = 0) (hi : i < ps.length) (h : eG (poAt ps i) z = 0) (hal : (a, l) = eH (poAt ps i) z) : ∀ e ∈ (poAt ps i).ls, fK a l e.a e.l = false := by
 obtain ⟨x, hx, hok, -⟩ := yI hc hi h
 rw [hx] at hal
 cases hal
 exact fun e he => HJ hok.2 he
def AN (id a l b cool : Int) (s : fJ) : Prop := b ≤ s.t ∧ (s.t < b + cool → dM s.ps id a l (b + cool))
theorem AN.same {id : Int} (h : AN id a l b cool s) (hq : kO s q) : AN id a l b cool q :=
 ⟨by rw [hq.1]; exact h.1, fun ht => xK hq.2.1 (h.2 (by rw [← hq.1]; exact ht))⟩
def CG (cd : Cd) (id : Int) : Prop := (cd.op = 5 ∧ cd.A = id) ∨ (cd.op = 8 ∧ cd.B = id) ∨ (cd.op = 2 ∧ cd.B = id)
theorem GP {id x : Int} (hF : bX ps) (hc : aV t ps = 0) (hi : i < ps.length) (hid : (poAt ps i).id = id) (hE : eG (poAt ps i) z = 0) (hal : (x, y) = eH (poAt ps i) z) (h : dM ps id a l un) : fK x y a l = false := by
 obtain ⟨p, hp, hpi, e, he, -, rfl, rfl, -⟩ := h
 obtain rfl := uG (gH hF hc).rise hp (poAt_mem hi) (hpi.trans hid.symm)
 exact MQ hc hi hE hal e he
theorem mZ {i0 ow x id : Int} (hF : bX ps) (hE : cZ t ps i0 z ow = 0) (hT : rR ps i0 z ow x y rs) (h : dM ps id a l un) : dM rs id a l un ∧ (i0 = id → fK x y a l = false) := by
 obtain ⟨hc, hnn, -, hf⟩ := SN hE
 obtain ⟨i, hi, hat, hid⟩ := aQ hnn
 obtain ⟨hal, qs, x', c', ls', hs, hp, rfl⟩ := hT
 rw [hat, Int.toNat_natCast] at hal hp hf ⊢
 exact ⟨QF hF hi hs hp h, fun e => GP hF hc hi (hid.trans e) hf hal h⟩
theorem MR {x id : Int} (h : bF s) (hE : kR s cd 0 n) (hR : mY s cd x y n r) (hcl : ¬ (cd.op = 3 ∧ cd.A = id)) (hC : AN id a l b cool s) : AN id a l b cool r ∧ (CG cd id → s.t < b + cool → fK x y a l = false) := by
 obtain ⟨rt', rps, rvs, rls⟩ := r
 obtain ⟨hb, hI⟩ := hC
 unfold kR at hE
 unfold mY at hR
 unfold CG
 by_cases o1 : cd.op = 1
 ·rw [if_pos o1] at hE hR
  obtain ⟨-, -, -, e1, -, -, qs, hs, hp⟩ := hR
  simp only at e1 hp
  subst e1
  exact ⟨⟨hb, fun ht => QE hp (xK hs (hI ht))⟩, fun g => by omega⟩
 rw [if_neg o1] at hE hR
 by_cases o2 : cd.op = 2
 ·rw [if_pos o2] at hE hR
  obtain ⟨-, e1, -, -, hal, hN⟩ := hR
  simp only at e1 hN
  subst e1
  have h1 := hE.symm
  unfold kB at h1
  split at h1
  ·rename_i g; exact absurd h1 g
  rename_i g
  have g0 : bW s.t s.ps cd.A cd.B cd.C = 0 := by simpa using g
  have g1 := g0
  unfold bW at g1
  split at g1
  ·rename_i k; exact absurd g1 k
  split at g1
  ·exact absurd g1 (by decide)
  split at g1
  ·exact absurd g1 (by decide)
  rename_i hn
  split at g1
  ·exact absurd g1 (by decide)
  obtain ⟨i, hi, hat, hid⟩ := aQ hn
  unfold fP at hal
  rw [if_neg (by rw [g0]; decide), hat, Int.toNat_natCast] at hal
  rw [hat, Int.toNat_natCast] at g1
  refine ⟨⟨hb, fun ht => ?_⟩, fun g ht => GP h.full h.bk hi (by omega) g1 hal (hI ht)⟩
  obtain ⟨qs, ms, x', c', ls', hs, hp, hpl, rfl⟩ := hN
  exact VB hpl (QE hp (xK hs (hI ht)))
 rw [if_neg o2] at hE hR
 by_cases o3 : cd.op = 3
 ·rw [if_pos o3] at hE hR
  obtain ⟨-, -, -, -, -, hCl⟩ := hR
  simp only at hCl
  have e1 := (vJ h.full hE.symm hCl).1
  subst e1
  exact ⟨⟨hb, fun ht => QG h.full hE.symm hCl (fun e => hcl ⟨o3, e⟩) (hI ht)⟩, fun g => by omega⟩
 rw [if_neg o3] at hE hR
 by_cases o4 : cd.op = 4
 ·rw [if_pos o4] at hE hR
  obtain ⟨-, -, -, -, -, e1, qs, hs, hp⟩ := hR
  simp only at e1 hp
  subst e1
  have h1 := hE.symm
  unfold qL at h1
  rw [if_neg (by rw [h.bk]; decide)] at h1
  split at h1
  ·exact absurd h1 (by decide)
  rename_i g
  obtain ⟨-, hH, -, hls⟩ := rF h.bk h.full (by omega) (by omega) hs hp
  refine ⟨⟨by show b ≤ s.t + cd.A; omega, fun ht => ?_⟩, fun g => by omega⟩
  have ht' : s.t + cd.A < b + cool := ht
  refine JZ hH (fun k hk e he h3 hu => ?_) (hI (by omega))
  rw [hls k hk]
  unfold iQ
  refine List.mem_filter.2 ⟨he, ?_⟩
  unfold lE
  rw [h3, hu]
  simp
  omega
 rw [if_neg o4] at hE hR
 by_cases o5 : cd.op = 5
 ·rw [if_pos o5] at hE hR
  obtain ⟨-, e1, -, -, hT⟩ := hR
  simp only at e1 hT
  subst e1
  have h1 := hE.symm
  unfold SY at h1
  split at h1
  ·exact absurd h1 (by decide)
  exact ⟨⟨hb, fun ht => (mZ h.full h1 hT (hI ht)).1⟩, fun g ht => (mZ h.full h1 hT (hI ht)).2 (by omega)⟩
 rw [if_neg o5] at hE hR
 by_cases o6 : cd.op = 6
 ·rw [if_pos o6] at hE hR
  obtain ⟨-, -, -, -, -, hG⟩ := hR
  simp only at hG
  have h1 := hE.symm
  unfold RT at h1
  split at h1
  ·exact absurd h1 (by decide)
  have e1 := (mO h.full h1 hG).1
  subst e1
  exact ⟨⟨hb, fun ht => J1 h.full h1 hG (hI ht)⟩, fun g => by omega⟩
 rw [if_neg o6] at hE hR
 by_cases o7 : cd.op = 7
 ·rw [if_pos o7] at hR
  obtain ⟨-, -, -, e1, e2, -⟩ := hR
  simp only at e1 e2
  subst e1
  subst e2
  exact ⟨⟨hb, hI⟩, fun g => by omega⟩
 rw [if_neg o7] at hE hR
 by_cases o8 : cd.op = 8
 ·rw [if_pos o8] at hE hR
  obtain ⟨-, e1, hT, -⟩ := hR
  simp only at e1 hT
  subst e1
  have h1 := hE.symm
  unfold MV at h1
  split at h1
  ·exact absurd h1 (by decide)
  split at h1
  ·rename_i ht
   exact ⟨⟨hb, fun ht' => (mZ h.full ht hT (hI ht')).1⟩, fun g ht' => (mZ h.full ht hT (hI ht')).2 (by omega)⟩
  ·rename_i ht
   exact absurd h1 ht
 rw [if_neg o8] at hE hR
 by_cases o9 : cd.op = 9
 ·rw [if_pos o9] at hE hR
  obtain ⟨-, -, -, -, k, i, u, hk, hpl, hd, hI', -, -, -, -, -, -, hG⟩ := hR
  simp only at hG
  have hge : fB s.t s.ps (aJ (aC s.vs k).rs i).p (aJ (aC s.vs k).rs i).a (aJ (aC s.vs k).rs i).l = 0 := by
   rcases hE with ⟨hn, -⟩ | ⟨k', -, hp', hE⟩
   ·rw [hpl] at hn
    omega
   ·have : k' = k := by omega
    subst this
    rcases hE with ⟨hn, -⟩ | ⟨-, i', hI2, hE⟩
    ·exact absurd hd hn
    ·have : i' = i := by
      rcases Nat.lt_trichotomy i' i with q | q | q
      ·exact absurd (hI2.yes.symm.trans (hI'.no i' q)) (by decide)
      ·exact q
      ·exact absurd (hI'.yes.symm.trans (hI2.no i q)) (by decide)
     subst this
     exact hE.symm
  have e1 := (mO h.full hge hG).1
  subst e1
  exact ⟨⟨hb, fun ht => J1 h.full hge hG (hI ht)⟩, fun g => by omega⟩
 rw [if_neg o9] at hE hR
 have hrest : rt' = s.t ∧ rps = s.ps := by
  by_cases o15 : cd.op = 15
  ·rw [if_pos o15] at hR
   exact ⟨hR.2.2.2.1, hR.2.2.2.2.1⟩
  rw [if_neg o15] at hR
  by_cases o16 : cd.op = 16
  ·rw [if_pos o16] at hR
   exact ⟨hR.2.2.2.1, hR.2.2.2.2.1⟩
  rw [if_neg o16] at hR
  exact ⟨hR.2.2.1, hR.2.2.2.1⟩
 obtain ⟨rfl, rfl⟩ := hrest
 exact ⟨⟨hb, hI⟩, fun g => by omega⟩
theorem rU.cools {x id : Int} (h : bF s) (hN : rU s cd E x y n r) (hcl : E = 0 → ¬ (cd.op = 3 ∧ cd.A = id)) (hC : AN id a l b cool s) : AN id a l b cool r ∧ (E = 0 → CG cd id → s.t < b + cool → fK x y a l = false) := by
 obtain ⟨q, hq, ⟨h0, -, -, -, -, hr⟩ | ⟨h0, hE, hr⟩⟩ := hN
 ·exact ⟨hC.same hr, fun e => absurd e h0⟩
 ·obtain ⟨g1, g2⟩ := MR (h.same hq) hE hr (hcl h0) (hC.same hq)
  exact ⟨g1, fun _ hg ht => g2 hg (by rw [hq.1]; exact ht)⟩
def QH (s : fJ) (cd : Cd) (w : World) (e : Ending) (w' : World) : Prop :=
 ∃ E a l n r vB vV vK, e = .returned (.tuple #[IY r.t vB vV vK, RX E a l n, .int .i64 0]) ∧ Below w.heap.size w w' ∧ SO w' w.heap.size r.ps r.vs r.ls vB vV vK ∧ rU s cd E a l n r
theorem J2 (t : Int) (x : Option Addr) (n c : Nat) (ps : List Po) (X : Option Addr) (vn C : Nat) (vs : List Vn) (Y : Option Addr) (ln D : Nat) (ls : List (Int × Int)) (cd : Cd) (w : World) (hs : Si w x n c ps X vn C vs Y ln ls) (hB : aV t ps = 0) (hN : bU vn vs ln ls = 0) (hT : IW t ps vn vs ln ls = 0) (hcw : CA cd.A cd.a cd.l) :
  Calls Tryz.prog 14 #[IY t (.slice x n c) (.slice X vn C) (.slice Y ln D), QJ cd] w (QH ⟨t, ps, vs, ls⟩ cd w) := by
 go_enter Tryz.func14, Tryz.ntmps14
 go_upto_region 1 with fail
 obtain ⟨w0, hw0⟩ : ∃ w0, w0 = (((w.alloc (kP t (.slice x n c) (.slice X vn C) (.slice Y ln D))).alloc (A7 cd)).alloc (kP 0 (.slice none 0 0) (.slice none 0 0) (.slice none 0 0))).alloc (rT 0 0 0 0) := ⟨_, rfl⟩
 rw [← hw0]
 have hB0 : Below w.heap.size w w0 := by rw [hw0]; exact ((cC w _ _).alloc (by simp; omega) _).alloc (by simp; omega) _
 have hq0 : w0.heap[w.heap.size]? = some (kP t (.slice x n c) (.slice X vn C) (.slice Y ln D)) := by rw [hw0]; exact aF _ (aF _ (aF _ (aB _ rfl)))
 have hq1 : w0.heap[w.heap.size + 1]? = some (A7 cd) := by rw [hw0]; exact aF _ (aF _ (aB _ (by simp)))
 have hq2 : w0.heap[w.heap.size + 2]? = some (kP 0 (.slice none 0 0) (.slice none 0 0) (.slice none 0 0)) := by rw [hw0]; exact aF _ (aB _ (by simp))
 have hq3 : w0.heap[w.heap.size + 3]? = some (rT 0 0 0 0) := by rw [hw0]; exact aB _ (by simp)
 clear hw0
 have hz3 : w.heap.size + 3 < w0.heap.size := (zG hq3)
 have hck := AG t x n c ps X vn C vs Y ln D ls w0 (hs.later hB0)
 rw [hT] at hck
 obtain ⟨s0, s1, s2, s3⟩ := dN hq0 rfl rfl rfl rfl
 go_wp2_with fail
 refine hck.mono ?_
 rintro e w1 ⟨rfl, hb1⟩
 clear s0 s1 s2 s3 hck
 have hz1 := hb1.size
 have hBw1 : Below w.heap.size w w1 := hB0.trans (hb1.mono hB0.size)
 have h10 := aA hb1 hq0
 have h11 := aA hb1 hq1
 have h12 := aA hb1 hq2
 have h13 := aA hb1 hq3
 clear hq0 hq1 hq2 hq3
 obtain ⟨s0, s1, s2, s3⟩ := dN h10 rfl rfl rfl rfl
 obtain ⟨k0, k1, k2, k3, k4, k5, k6, k7, k8, k9⟩ := tW h11 rfl rfl rfl rfl rfl rfl rfl rfl rfl rfl
 go_wp2_with fail
 refine (GJ t x n c ps X vn C vs Y ln D ls cd w1 (hs.later hBw1) hB hN hcw).mono ?_
 rintro e w2 ⟨E, a, l, n', r, vB, vV, vK, rfl, hb2, hO2, hNx⟩
 obtain ⟨x5, c5, X5, C5, Y5, D5, rfl, rfl, rfl⟩ := hO2.slices
 clear s0 s1 s2 s3 k0 k1 k2 k3 k4 k5 k6 k7 k8 k9
 have hNx' : Hid (rU ⟨t, ps, vs, ls⟩ cd E a l n' r) := hNx
 clear hNx
 go_upto_region 5 with fail
 obtain ⟨w4, hw4⟩ : ∃ w4, w4 = (w2.alloc (kP r.t (.slice x5 r.ps.length c5) (.slice X5 r.vs.length C5) (.slice Y5 r.ls.length D5))).alloc (rT E a l n') := ⟨_, rfl⟩
 rw [← hw4]
 have hb4 : Below w2.heap.size w2 w4 := by rw [hw4]; exact cC w2 _ _
 have h4s : w4.heap[w2.heap.size]? = some (kP r.t (.slice x5 r.ps.length c5) (.slice X5 r.vs.length C5) (.slice Y5 r.ls.length D5)) := by rw [hw4]; exact aF _ (aB _ rfl)
 have h4a : w4.heap[w2.heap.size + 1]? = some (rT E a l n') := by rw [hw4]; exact aB _ (by simp)
 clear hw4
 have hb24 : Below w1.heap.size w1 w4 := hb2.trans (hb4.mono hb2.size)
 have hBw4 : Below w.heap.size w w4 := hBw1.trans (hb24.mono hBw1.size)
 have h42 := aA hb24 h12
 have h43 := aA hb24 h13
 have hO5 := (hO2.later hb4).low hBw1.size
 have hz2 := hb2.size
 have s0 : ∀ u : wC w4 w2.heap.size (w2.heap.size + 1), u.val.cell? ⟨w2.heap.size, 0, none⟩ = some (.int .i64 r.t) := fun u => (aE (u.p1.trans h4s)).1 0
 have s1 : ∀ u : wC w4 w2.heap.size (w2.heap.size + 1), u.val.cell? ⟨w2.heap.size, 1, none⟩ = some (.slice x5 r.ps.length c5) := fun u => (aE (u.p1.trans h4s)).1 1
 have s2 : ∀ u : wC w4 w2.heap.size (w2.heap.size + 1), u.val.cell? ⟨w2.heap.size, 2, none⟩ = some (.slice X5 r.vs.length C5) := fun u => (aE (u.p1.trans h4s)).1 2
 have s3 : ∀ u : wC w4 w2.heap.size (w2.heap.size + 1), u.val.cell? ⟨w2.heap.size, 3, none⟩ = some (.slice Y5 r.ls.length D5) := fun u => (aE (u.p1.trans h4s)).1 3
 have a0 : ∀ u : wC w4 w2.heap.size (w2.heap.size + 1), u.val.cell? ⟨w2.heap.size + 1, 0, none⟩ = some (.int .i64 E) := fun u => (aE (u.p2.trans h4a)).1 0
 have a1 : ∀ u : wC w4 w2.heap.size (w2.heap.size + 1), u.val.cell? ⟨w2.heap.size + 1, 1, none⟩ = some (.int .i64 a) := fun u => (aE (u.p2.trans h4a)).1 1
 have a2 : ∀ u : wC w4 w2.heap.size (w2.heap.size + 1), u.val.cell? ⟨w2.heap.size + 1, 2, none⟩ = some (.int .i64 l) := fun u => (aE (u.p2.trans h4a)).1 2
 have a3 : ∀ u : wC w4 w2.heap.size (w2.heap.size + 1), u.val.cell? ⟨w2.heap.size + 1, 3, none⟩ = some (.int .i64 n') := fun u => (aE (u.p2.trans h4a)).1 3
 refine bG (fun w' => ∃ u : wC w4 w2.heap.size (w2.heap.size + 1), w' = u.val) (fun j => decide (j < 3)) 5 _ (by kernel_rfl) rfl rfl ?_
 refine aY 3 [0, 1] rfl _ rfl (by kernel_rfl) (fun d _ _ _ _ h => by cases d <;> exact h) ⟨⟨w4.drew, rfl, rfl⟩, rfl⟩ ?_
 simp only [zK, zM, zI, zJ]
 repeat (go_big_quiet_step (fail))
 refine wpQuiet_nil ?_
 clear s0 s1 s2 s3 a0 a1 a2 a3
 have b2 : kQ w4 (w.heap.size + 2) 31 := ⟨_, h42⟩
 obtain ⟨p0, p1, p2, p3⟩ := dN h42 rfl rfl rfl rfl
 obtain ⟨pz0, pz1, pz2, pz3⟩ := iH h42
 refine aS 2 _ _ (by kernel_rfl) (by kernel_rfl) rfl rfl ?_
 intro K hK
 simp only [zI, zJ]
 go_wp2_with fail
 obtain ⟨w6, hw6⟩ : ∃ w6, w6 = ((((w4.setCell ⟨w.heap.size + 2, 0, none⟩ (.int .i64 r.t)).setCell ⟨w.heap.size + 2, 1, none⟩ (.slice x5 r.ps.length c5)).setCell ⟨w.heap.size + 2, 2, none⟩ (.slice X5 r.vs.length C5)).setCell ⟨w.heap.size + 2, 3, none⟩ (.slice Y5 r.ls.length D5)).drew := ⟨_, rfl⟩
 rw [← hw6]
 have hoth : ∀ k, k ≠ w.heap.size + 2 → w6.heap[k]? = w4.heap[k]? := fun k hk => by rw [hw6]; exact (zB hk).trans ((zB hk).trans ((zB hk).trans (zB hk)))
 have h62 : w6.heap[w.heap.size + 2]? = some (kP r.t (.slice x5 r.ps.length c5) (.slice X5 r.vs.length C5) (.slice Y5 r.ls.length D5)) := by rw [hw6]; exact zC (zC (zC (zC h42)))
 have hB6 : Below w.heap.size w w6 := by rw [hw6]; exact (((((hBw4).setCell (p := ⟨w.heap.size + 2, 0, none⟩) (zA) _).setCell (p := ⟨w.heap.size + 2, 1, none⟩) (zA) _).setCell (p := ⟨w.heap.size + 2, 2, none⟩) (zA) _).setCell (p := ⟨w.heap.size + 2, 3, none⟩) (zA) _).drew
 have hO7 : SO w6 w.heap.size r.ps r.vs r.ls (.slice x5 r.ps.length c5) (.slice X5 r.vs.length C5) (.slice Y5 r.ls.length D5) := by rw [hw6]; exact (((((hO5).put b2 (by decide)).put b2.put (by decide)).put b2.put.put (by decide)).put b2.put.put.put (by decide)).later (zD).drew
 have h63 := (hoth _ (by omega)).trans h43
 refine aD (hK.out _ _ ⟨⟨w6, hoth _ (by omega), hoth _ (by omega)⟩, rfl⟩ ?_)
 clear hK K hw6 p0 p1 p2 p3 pz0 pz1 pz2 pz3 hoth h42 h43 hO5 b2
 refine aU [3, 4] rfl (by kernel_rfl) ?_
 simp only [zK, zM, zI, zJ]
 have b3 : kQ w6 (w.heap.size + 3) 61 := ⟨_, h63⟩
 obtain ⟨p0, p1, p2, p3⟩ := dN h62 rfl rfl rfl rfl
 obtain ⟨pz0, pz1, pz2, pz3⟩ := iH h62
 obtain ⟨q0, q1, q2, q3⟩ := dN h63 rfl rfl rfl rfl
 obtain ⟨qz0, qz1, qz2, qz3⟩ := iH h63
 go_wp2
 refine bodyPost_ret (v := .tuple #[IY r.t (.slice x5 r.ps.length c5) (.slice X5 r.vs.length C5) (.slice Y5 r.ls.length D5), RX E a l n', .int .i64 0]) (by simp [results, Tryz.results14, go_sem, p0, p1, p2, p3, q0, q1, q2, q3]) rfl ?_
 exact ⟨E, a, l, n', r, _, _, _, rfl, ((((hB6).setCell (p := ⟨w.heap.size + 3, 0, none⟩) (zA) _).setCell (p := ⟨w.heap.size + 3, 1, none⟩) (zA) _).setCell (p := ⟨w.heap.size + 3, 2, none⟩) (zA) _).setCell (p := ⟨w.heap.size + 3, 3, none⟩) (zA) _, ((((hO7).put b3 (by decide)).put b3.put (by decide)).put b3.put.put (by decide)).put b3.put.put.put (by decide), hNx'.out⟩
theorem bF.pool (h : bF s) {k j : Nat} (hk : k < s.vs.length) (hj : j < (aC s.vs k).rn) : ¬ aP s.ps (aJ (aC s.vs k).rs j).p < 0 := by
 have hf := h.fullV _ (cX hk)
 have hm : (aJ (aC s.vs k).rs j).p = (aJ (aC s.vs k).rs j).p ∧ GC (aJ (aC s.vs k).rs j) ∈ (aC s.vs k).rs.map GC := ⟨rfl, by
  rw [oS (by rw [hf.rl]; exact hj)]
  exact List.mem_map.2 ⟨_, List.getElem_mem _, rfl⟩⟩
 obtain ⟨p, hp, hid, -⟩ := (h.agr _ (eN.2 ⟨k, hk, rfl⟩) _ _ _).2 hm.2
 obtain ⟨i, -, hi, -⟩ := DA (gH h.full h.bk).rise hp
 rw [hid] at hi
 omega
theorem GQ {x : Int} (h : bF s) (hk : k < s.vs.length) (hj : j < (aC s.vs k).rn) (hN : rU s ⟨9, (aC s.vs k).id, 0, 0, (aJ (aC s.vs k).rs j).a, (aJ (aC s.vs k).rs j).l, 0, 0, 0, 0⟩ 0 x y n r) (hat : aP s.ps (aJ (aC s.vs k).rs j).p = i) :
  AN (aJ (aC s.vs k).rs j).p (aJ (aC s.vs k).rs j).a (aJ (aC s.vs k).rs j).l s.t (poAt s.ps i).co r := by
 obtain ⟨q, hq, ⟨h0, -⟩ | ⟨-, hE, hR⟩⟩ := hN
 ·exact absurd rfl h0
 have hQ := h.same hq
 obtain ⟨q1, q2, q3, q4⟩ := hq
 have hkq : k < q.vs.length := by rw [← q3.1]; exact hk
 obtain ⟨v1, v2, v3, -⟩ := q3.2 k hk
 obtain ⟨-, -, hr, -⟩ := eT hQ.net
 have hpl : aI q.vs.length q.vs (aC s.vs k).id = k := by rw [v1]; exact uU rfl hr hkq
 have hV := hQ.rv hkq
 rw [S1] at hE
 rw [S2] at hR
 obtain ⟨-, -, -, -, k', i', u, -, hk', hd, hI, -, -, -, -, -, -, hG⟩ := hR
 obtain rfl : k' = k := by rw [hpl] at hk'; omega
 have hij : i' = j := by
  have hy := hI.yes
  unfold rpB at hy
  simp only [zH, decide_eq_true_eq] at hy
  have h1 := hy.1
  rw [v3] at h1
  have hi1 := hI.lt
  have hj1 : j < (aC q.vs k').rn := by rw [← v2]; exact hj
  rcases Nat.lt_trichotomy i' j with g | g | g
  ·have := hV.ri j i' g hj1
   omega
  ·exact g
  ·have := hV.ri i' j g hi1
   omega
 subst hij
 rw [← v3] at hG
 have hge : fB q.t q.ps (aJ (aC s.vs k').rs i').p (aJ (aC s.vs k').rs i').a (aJ (aC s.vs k').rs i').l = 0 := by
  rcases hE with ⟨hn, -⟩ | ⟨k2, -, hp', hE⟩
  ·rw [hpl] at hn
   omega
  ·have : k2 = k' := by rw [hpl] at hp'; omega
   subst this
   rcases hE with ⟨hn, -⟩ | ⟨-, i2, hI2, hE⟩
   ·exact absurd hd hn
   ·have : i2 = i' := by
     rcases Nat.lt_trichotomy i2 i' with g | g | g
     ·exact absurd (hI2.yes.symm.trans (hI.no i2 g)) (by decide)
     ·exact g
     ·exact absurd (hI.yes.symm.trans (hI2.no i' g)) (by decide)
    subst this
    rw [← v3] at hE
    exact hE.symm
 have hi : i < s.ps.length := (kA hat).1
 have hatq : aP q.ps (aJ (aC s.vs k').rs i').p = i := by rw [uC q2]; exact hat
 have hid : (poAt q.ps i).id = (aJ (aC s.vs k').rs i').p := (kA hatq).2.1
 have hco : (poAt q.ps i).co = (poAt s.ps i).co := (q2.2 i hi).2.2.2.2.2.2.2.1.symm
 obtain ⟨-, i1, j1, hi1, hat1, hj1, hfi, -, ha, hl⟩ := JE hge
 obtain rfl : i1 = i := by rw [hatq] at hat1; omega
 obtain ⟨ht, qs, x', c', hs, hrs⟩ := hG
 rw [hat1, Int.toNat_natCast, hfi, Int.toNat_natCast] at hrs
 refine ⟨by rw [ht, q1]; exact Int.le_refl _, fun hlt => ?_⟩
 rw [ht, q1] at hlt
 have hc0 : (poAt q.ps i1).co ≠ 0 := by rw [hco]; omega
 obtain ⟨hH, -, hls⟩ := fE (x' := x') (c' := c') (ls' := bS (poAt q.ps i1) j1 q.t) hs hQ.full hi1
 rw [hrs]
 refine ⟨poAt (qs.set i1 (aT (poAt qs i1) x' (bS (poAt q.ps i1) j1 q.t).length c' (bS (poAt q.ps i1) j1 q.t))) i1, poAt_mem (by rw [← hH.1]; exact hi1), by rw [← (hH.2 i1 hi1).1]; exact hid, TZ (poAt q.ps i1) j1 q.t, ?_, rfl, ha, hl, ?_⟩
 ·rw [hls i1 hi1, if_pos rfl]
  unfold bS
  rw [if_neg hc0]
  have hjl : j1 < (poAt q.ps i1).ls.length := by rw [hQ.full i1 hi1]; exact hj1
  exact List.mem_iff_getElem.2 ⟨j1, by rw [List.length_set]; exact hjl, by rw [List.getElem_set_self]; rfl⟩
 ·show q.t + (poAt q.ps i1).co = _
  rw [q1, hco]
structure WH (bs : Nat) (t : Int) (x : Option Addr) (c : Nat) (ps : List Po) (X : Option Addr) (C : Nat) (vs : List Vn) (Y : Option Addr) (D : Nat) (ls : List (Int × Int)) (w : World) : Prop where
 box : w.heap[bs]? = some (kP t (.slice x ps.length c) (.slice X vs.length C) (.slice Y ls.length D))
 si : Si w x ps.length c ps X vs.length C vs Y ls.length ls
theorem WH.later {C : Nat} {ls : List (Int × Int)} (h : WH bs t x c ps X C vs Y D ls w) (hb : Below w.heap.size w w') : WH bs t x c ps X C vs Y D ls w' := ⟨aA hb h.box, h.si.later hb⟩
open Go.ChangeShapes Go.WideShapes Go.ChangeAt Go.RowKit Go.Joins
theorem SB : Tryz.prog.cellsOf 65 = 10 := by kernel_rfl
theorem GR {Q : Nat → Cd} {n : Nat} (h : i < n) : cdAt ((List.range n).map Q) i = Q i := by
 unfold cdAt
 rw [zF, List.getElem?_map, List.getElem?_range h]
 rfl
section
variable {H : Type} {enc : TypeId × Value → H} {w : World} {base : Nat} {spare : Nat → Bool} {held : Bool}
theorem lK {n : Nat} {y : Option (DataW H × List MemPlace)} (hy : y.isSome = true) (h : DataW.trod enc Tryz.prog w base spare held n 3 [v] = y) : ∃ a : Int, v = .int .i64 a ∧ (Lit.int .i64 a).wf = true := by
 obtain ⟨y, rfl⟩ := Option.isSome_iff_exists.1 hy
 obtain ⟨a, e, -, hw⟩ := DataW.trod_int Tryz.underlying3 h
 simp at e
 exact ⟨a, e, hw⟩
theorem SC {n : Nat} {x : DataW H × List MemPlace} (hl : cs.length = 10) (h : DataW.trod enc Tryz.prog w base spare held n 65 cs = some x) : ∃ c : Cd, cs = (VY c).toList ∧ CA c.A c.a c.l := by
 obtain ⟨xs, k, -, -, -, hxl, hf⟩ := DataW.trod_struct Tryz.underlying65 h
 match cs, hl with
 | [v0, v1, v2, v3, v4, v5, v6, v7, v8, v9], _ =>
  have g0 := hf 0 _ rfl
  have g1 := hf 1 _ rfl
  have g2 := hf 2 _ rfl
  have g3 := hf 3 _ rfl
  have g4 := hf 4 _ rfl
  have g5 := hf 5 _ rfl
  have y : ∀ i, i < 6 → (xs[i]?).isSome = true := fun i hi => mM hxl hi
  simp [NC, S7, TT] at g0 g1 g2 g3 g4 g5
  obtain ⟨a0, rfl, -⟩ := lK (y 0 (by omega)) g0
  obtain ⟨a1, rfl, w1⟩ := lK (y 1 (by omega)) g1
  obtain ⟨a2, rfl, -⟩ := lK (y 2 (by omega)) g2
  obtain ⟨a3, rfl, -⟩ := lK (y 3 (by omega)) g3
  obtain ⟨z4, h4⟩ := Option.isSome_iff_exists.1 (y 4 (by omega))
  obtain ⟨z5, h5⟩ := Option.isSome_iff_exists.1 (y 5 (by omega))
  rw [h4] at g4
  rw [h5] at g5
  obtain ⟨us, k4, -, -, -, hul, hu⟩ := DataW.trod_struct Tryz.underlying49 g4
  obtain ⟨ts, k5, -, -, -, htl, ht⟩ := DataW.trod_struct Tryz.underlying56 g5
  have p0 := hu 0 _ rfl
  have p1 := hu 1 _ rfl
  have r0 := ht 0 _ rfl
  have r1 := ht 1 _ rfl
  have r2 := ht 2 _ rfl
  have r3 := ht 3 _ rfl
  simp [NC] at p0 p1 r0 r1 r2 r3
  obtain ⟨a4, rfl, w4⟩ := lK (mM hul (by decide)) p0
  obtain ⟨a5, rfl, w5⟩ := lK (mM hul (by decide)) p1
  obtain ⟨a6, rfl, -⟩ := lK (mM htl (by decide)) r0
  obtain ⟨a7, rfl, -⟩ := lK (mM htl (by decide)) r1
  obtain ⟨a8, rfl, -⟩ := lK (mM htl (by decide)) r2
  obtain ⟨a9, rfl, -⟩ := lK (mM htl (by decide)) r3
  exact ⟨⟨a0, a1, a2, a3, a4, a5, a6, a7, a8, a9⟩, rfl, w1, w4, w5⟩
end
theorem GS {H : Type} {enc : TypeId × Value → H} {r : Reach} {d : DataW H} {p : List MemPlace}
  (hv : Value.okWide Tryz.prog w r b0 22 v) (h : DataW.Trod enc Tryz.prog w 0 (fun _ => true) true 22 v d p) :
  ∃ (x : Option Addr) (n c : Nat) (cs : List Cd), v = .slice x n c ∧ S0 w x n cs ∧ n ≤ c ∧ c ≤ 9223372036854775807 ∧ (n = 0 ∨ ∃ elems sp, d = .slice elems sp ∧ elems.length = n) := by
 obtain ⟨x, n, c, rfl⟩ := okWide_slice Tryz.underlying22 hv
 obtain ⟨fuel, hf⟩ := h
 rcases Deep.open_slice Tryz.underlying22 hf with ⟨h0, -⟩ | ⟨a, len, cap, m, k, D, Pl, h1, -, hl, hm, hmm, hx, hcell⟩
 ·simp [Value.cells] at h0
  obtain ⟨rfl, rfl, rfl⟩ := h0
  exact ⟨none, 0, 0, [], rfl, ⟨rfl, fun i hi => (by cases hi), fun i hi => by cases hi⟩, by omega, by omega, .inl rfl⟩
 ·simp [Value.cells] at h1
  obtain ⟨rfl, rfl, rfl⟩ := h1
  simp at hmm
  have hmm' := hmm.symm
  subst hmm'
  clear hmm
  have hd : d = .slice ((List.range n).map D) ((List.range (c - n)).map fun j => D (n + j)) := (Prod.mk.inj hx).1
  have each : ∀ i, i < c → ∃ q : Cd, CA q.A q.a q.l ∧ ∀ j, j < 10 → w.cell? (a.add (i * 10 + j)) = (VY q).toList[j]? := fun i hi => by
   obtain ⟨cs', e1, e2⟩ := hcell i hi
   rw [SB] at e1
   obtain ⟨-, hlen, hc⟩ := World.cells?_some e1
   obtain ⟨q, rfl, hwf⟩ := SC hlen e2
   exact ⟨q, hwf, fun j hj => by
    have := hc j hj
    rw [Deep.add_add] at this
    exact this⟩
  have : Inhabited Cd := ⟨⟨0, 0, 0, 0, 0, 0, 0, 0, 0, 0⟩⟩
  obtain ⟨Q, hQ⟩ := Deep.choose_lt each
  have hmax : c ≤ 9223372036854775807 := by unfold maxLen at hm; omega
  by_cases hn0 : n = 0
  ·subst hn0
   exact ⟨some a, 0, c, [], rfl, ⟨rfl, fun i hi => (by cases hi), fun i hi => by cases hi⟩, by omega, hmax, .inl rfl⟩
  ·have hsp : a.spot = none := by
    have h0 := (hQ 0 (by omega)).2 0 (by omega)
    have h1 : w.cell? (a.add (0 * 10 + 0)) = some (.int .i64 (Q 0).op) := h0
    have := World.cell?_spot h1
    simpa [Addr.add] using this
   obtain ⟨b, o, sp⟩ := a
   simp only at hsp
   subst hsp
   refine ⟨some ⟨b, o, none⟩, n, c, (List.range n).map Q, rfl, ⟨by simp, fun i hi => ?_, fun i hi => ⟨b, o, rfl, ?_⟩⟩, hl, hmax, .inr ⟨_, _, hd, by simp⟩⟩
   ·rw [GR hi]
    exact (hQ i (by omega)).1
   rw [GR hi]
   have e : ∀ j, j < 10 → ∀ u, (VY (Q i)).toList[j]? = some u → w.cell? ⟨b, o + i * 10 + j, none⟩ = some u := fun j hj u hu => by
    have := (hQ i (by omega)).2 j hj
    rw [nV, hu, ← Nat.add_assoc] at this
    exact this
   exact ⟨e 0 (by omega) _ rfl, e 1 (by omega) _ rfl, e 2 (by omega) _ rfl, e 3 (by omega) _ rfl, e 4 (by omega) _ rfl, e 5 (by omega) _ rfl, e 6 (by omega) _ rfl, e 7 (by omega) _ rfl, e 8 (by omega) _ rfl, e 9 (by omega) _ rfl⟩
end Go.Proofs.YtndpilfpejfloaaGreat
