/- A part of the proof. -/
import Derived.Test.YtndpilfpejfloaaGreatMC06
set_option maxRecDepth 100000
set_option maxHeartbeats 20000000
namespace Go.Proofs.YtndpilfpejfloaaGreat
variable {ps qs : List Po} {t t' a l : Int} {e : Le} {i base g base' b n j k : Nat} {x : Option Addr} {rs es : List Rg} {w w' : World} {v : Value} {cs : Array Value} {fr : Nat × Nat} {ad : Addr} {ss : List Sb} {f : Nat → Bool} {L ns : List Int} {fs : List Fc}
open Go.RowKit Go.Shelf
theorem HM (h : ps.Pairwise fun p q => p.id < q.id) {i k : Nat} (hi : i < ps.length) (hk : k < ps.length) (e : (poAt ps i).id = (poAt ps k).id) : i = k := by
 rw [List.pairwise_iff_getElem] at h
 rw [bI hi, bI hk] at e
 rcases Nat.lt_trichotomy i k with c | c | c
 ·have := h i k hi hk c
  omega
 ·exact c
 ·have := h k i hk hi c
  omega
theorem MT.move {id : Int} (h : MT t ps id e) (hm : ∀ q ∈ ps, e.kd = 2 → q.id = e.ow → ∃ q' ∈ qs, q'.id = q.id ∧ q'.up = q.up ∧ q'.a = q.a ∧ q'.l = q.l) : MT t qs id e := by
 rcases h with h | ⟨h1, h2, q, hq, h3, h4, h5, h6⟩ | h
 ·exact .inl h
 ·obtain ⟨q', hq', k1, k2, k3, k4⟩ := hm q hq h1 h3
  exact .inr (.inl ⟨h1, h2, q', hq', k1.trans h3, k2.trans h4, k3.trans h5, k4.trans h6⟩)
 ·exact .inr (.inr h)
theorem xA {x : Po} (hi : i < qs.length) : x ∈ qs.take i ++ qs.drop (i + 1) ↔ ∃ k, k < qs.length ∧ k ≠ i ∧ poAt qs k = x := by
 constructor
 ·intro h
  obtain ⟨j, hj, rfl⟩ := bJ h
  have hj' : j < qs.length - 1 := by simp at hj; omega
  rw [oI hi]
  by_cases c : j < i
  ·exact ⟨j, by omega, by omega, by rw [if_pos c]⟩
  ·exact ⟨j + 1, by omega, by omega, by rw [if_neg c]⟩
 ·rintro ⟨k, hk, hne, rfl⟩
  have hl : (qs.take i ++ qs.drop (i + 1)).length = qs.length - 1 := by simp; omega
  by_cases c : k < i
  ·have := poAt_mem (ps := qs.take i ++ qs.drop (i + 1)) (i := k) (by omega)
   rwa [oI hi, if_pos c] at this
  ·have := poAt_mem (ps := qs.take i ++ qs.drop (i + 1)) (i := k - 1) (by omega)
   rwa [oI hi, if_neg (by omega), show k - 1 + 1 = k by omega] at this
theorem pT : (qs.take i ++ qs.drop (i + 1)).Sublist qs := by
 have h1 : (qs.take i ++ qs.drop (i + 1)).Sublist (qs.take i ++ qs.drop i) := List.Sublist.append_left (List.drop_sublist_drop_left _ (by omega)) _
 rwa [List.take_append_drop] at h1
structure T0 (t : Int) (ps : List Po) (id : Int) (qs : List Po) : Prop where
 heads : eK ps qs
 full : bX qs
 few : ∀ k, k < ps.length → (poAt qs k).ls.length ≤ 32
 used : ∀ k, k < ps.length → nK (lp (poAt qs k).ls) (poAt ps k).a (poAt ps k).l
 old : ∀ k, k < ps.length → ∀ e ∈ (poAt qs k).ls, MT t ps (poAt ps k).id e ∧ ¬ (e.kd = 2 ∧ e.ow = id)
 kept : ∀ k, k < ps.length → ∀ e ∈ (poAt ps k).ls, e.kd = 2 → e.ow ≠ id → e ∈ (poAt qs k).ls
theorem T0.right (hF : bX ps) (hB : RB t ps) (hi : i < ps.length) (hno : ∀ e ∈ (poAt ps i).ls, e.kd ≠ 2) (h : T0 t ps (poAt ps i).id qs) : aV t (qs.take i ++ qs.drop (i + 1)) = 0 ∧ bX (qs.take i ++ qs.drop (i + 1)) := by
 have hql : qs.length = ps.length := h.heads.1.symm
 have hiq : i < qs.length := by omega
 have hids := lV.1 (show lR qs.length qs = true by rw [yH h.heads]; exact lV.2 ⟨hB.rise, hB.idw⟩)
 have htop := jP.1 (show gT qs = true by rw [uE h.heads]; exact jP.2 hB.tops)
 have hFr : bX (qs.take i ++ qs.drop (i + 1)) := DB fun p hp => h.full.mem (pT.subset hp)
 have ev : ∀ (P : Po → Prop), (∀ k, k < ps.length → k ≠ i → P (poAt qs k)) → ∀ p ∈ qs.take i ++ qs.drop (i + 1), P p := fun P hP p hp => by
  obtain ⟨k, hk, hne, rfl⟩ := (xA hiq).1 hp
  exact hP k (by omega) hne
 have hin : ∀ k, k < ps.length → k ≠ i → poAt qs k ∈ qs.take i ++ qs.drop (i + 1) := fun k hk hne => (xA hiq).2 ⟨k, by omega, hne, rfl⟩
 have hne : ∀ k, k < ps.length → k ≠ i → (poAt ps k).id ≠ (poAt ps i).id := fun k hk hne e => hne (HM hB.rise hk hi e)
 have hrise := hids.1.sublist (pT (qs := qs) (i := i))
 refine ⟨RB.chk ⟨?_, hB.t0, hB.t1, fun p hp => hids.2 p (pT.subset hp), hrise, htop.sublist pT, ?_, ?_, ?_, ?_, ?_, ?_⟩ hFr, hFr⟩
 ·have := hB.few
  have := pT (qs := qs) (i := i) |>.length_le
  omega
 ·exact ev _ (fun k hk _ => h.few k hk)
 ·refine ev (fun p => rt p.a p.l = true) (fun k hk _ => ?_)
  obtain ⟨-, -, e3, e4, -⟩ := h.heads.2 k hk
  rw [← e3, ← e4]
  exact hB.root _ (poAt_mem hk)
 ·refine ev (fun p => nK (lp p.ls) p.a p.l) (fun k hk _ => ?_)
  obtain ⟨-, -, e3, e4, -⟩ := h.heads.2 k hk
  rw [← e3, ← e4]
  exact h.used k hk
 ·refine ev (fun p => dF p.mn p.mx p.us p.co p.l = true) (fun k hk _ => ?_)
  obtain ⟨-, -, -, e4, e5, e6, e7, e8⟩ := h.heads.2 k hk
  rw [← e4, ← e5, ← e6, ← e7, ← e8]
  exact hB.rule _ (poAt_mem hk)
 ·refine ev (fun p => ∃ f, lD (qs.take i ++ qs.drop (i + 1)) f p = true) (fun k hk hk2 => ?_)
  obtain ⟨f, hf⟩ := hB.ups _ (poAt_mem hk)
  obtain ⟨e1, e2, -⟩ := h.heads.2 k hk
  refine ⟨f, wZ hF hFr hB.rise hrise (poAt ps i).id (fun x hx q hq h2 => ?_) f (poAt ps k) (poAt qs k) (hne k hk hk2) e1.symm e2.symm hf⟩
  obtain ⟨m, hm, rfl⟩ := bJ hq
  obtain ⟨e, he, k1, k2⟩ := h2
  have hmi : m ≠ i := fun c => by
   subst c
   exact hno e he k1
  obtain ⟨g1, g2, -⟩ := h.heads.2 m hm
  exact ⟨hne m hm hmi, _, hin m hm hmi, g1.symm, g2.symm, e, h.kept m hm e he k1 (by rw [k2]; exact hx), k1, k2⟩
 ·refine ev (fun p => ∀ e ∈ p.ls, MT t (qs.take i ++ qs.drop (i + 1)) p.id e) (fun k hk hk2 e he => ?_)
  obtain ⟨g1, g2⟩ := h.old k hk e he
  rw [← (h.heads.2 k hk).1]
  refine g1.move (fun q hq h2 ho => ?_)
  obtain ⟨m, hm, rfl⟩ := bJ hq
  have hmi : m ≠ i := fun c => by
   subst c
   exact g2 ⟨h2, ho.symm⟩
  obtain ⟨e1, e2, e3, e4, -⟩ := h.heads.2 m hm
  exact ⟨_, hin m hm hmi, e1.symm, e2.symm, e3.symm, e4.symm⟩
theorem vJ {rs : List Po} {id : Int} (hF : bX ps) (hE : fO t ps id = 0) (hR : mL t ps id t' rs) : t' = t ∧ aV t rs = 0 ∧ bX rs := by
 obtain ⟨ht, qs, hA, hC, hrs⟩ := hR
 refine ⟨ht, ?_⟩
 unfold fO at hE
 by_cases c0 : aV t ps = 0
 ·rw [if_neg (by simp [c0])] at hE
  by_cases c1 : aP ps id < 0
  ·rw [if_pos c1] at hE; omega
  rw [if_neg c1] at hE
  obtain ⟨i, hi, hat, hid⟩ := aQ c1
  rw [hat, Int.toNat_natCast] at hE hrs hA hC
  by_cases c2 : aL (poAt ps i).n (qM (poAt ps i).ls) = true
  ·rw [if_pos c2] at hE; omega
  have hB := gH hF c0
  have hno : ∀ e ∈ (poAt ps i).ls, e.kd ≠ 2 := fun e he h2 => by
   obtain ⟨k, hk, rfl⟩ := gG he
   exact c2 (bD (k := k) (by rw [← hF i hi]; exact hk) (by unfold qM; rw [h2]; rfl))
  rw [hrs]
  refine T0.right hF hB hi hno ?_
  have hP : ∀ k, k < ps.length → ∀ e ∈ (poAt ps k).ls, e.kd = 2 → e.ow = (poAt ps i).id → (poAt ps i).up = (poAt ps k).id ∧ (poAt ps i).a = e.a := fun k hk e he h2 ho => by
   rcases hB.les _ (poAt_mem hk) e he with h | ⟨-, -, q, hq, h3, h4, h5, -⟩ | h
   ·omega
   ·obtain rfl := uG hB.rise hq (poAt_mem hi) (h3.trans ho)
    exact ⟨h4, h5⟩
   ·omega
  by_cases c3 : aP ps (poAt ps i).up < 0
  ·have hs := hA c3
   obtain ⟨hcq, hFq⟩ := oK hF hs c0
   have hls : ∀ k, k < ps.length → (poAt qs k).ls = (poAt ps k).ls := fun k hk => (hs.2 k hk).2.2.2.2.2.2.2.2.2.symm
   refine ⟨⟨hs.1, fun i hi => (hs.2 i hi).head⟩, hFq, fun k hk => ?_, fun k hk => ?_, fun k hk e he => ?_, fun k hk e he _ _ => ?_⟩
   ·rw [hls k hk]; exact hB.n32 _ (poAt_mem hk)
   ·rw [hls k hk]; exact hB.used _ (poAt_mem hk)
   ·rw [hls k hk] at he
    exact ⟨hB.les _ (poAt_mem hk) e he, fun ⟨h2, ho⟩ => iC c3 k hk (hP k hk e he h2 ho).1.symm⟩
   ·rw [hls k hk]; exact he
  ·obtain ⟨k0, hk0, hat0, hid0⟩ := aQ c3
   obtain ⟨us, x', c', hs, hqs⟩ := hC k0 hat0
   have hup : (poAt ps i).up ≠ 0 := fun e => by
    have := hB.idw _ (poAt_mem hk0)
    rw [hid0, e] at this
    exact absurd this (by decide)
   have hany : aL (poAt ps k0).n (eX (poAt ps k0).ls (poAt ps i).id) = true := by
    obtain ⟨f, hf⟩ := hB.ups _ (poAt_mem hi)
    cases f with
    | zero => unfold lD at hf; cases hf
    | succ f =>
     rcases (up_step hF hB.rise).1 hf with h | ⟨q, hq, h1, h2, -⟩
     ·exact absurd h hup
     ·obtain rfl := uG hB.rise hq (poAt_mem hk0) (h1.trans hid0.symm)
      exact (jI (hF k0 hk0)).2 h2
   rcases firstAt_any (n := (poAt ps k0).n) (f := eX (poAt ps k0).ls (poAt ps i).id) with ⟨-, j, hj, hfj, -, hfa⟩ | ⟨h, -⟩
   ·rw [hfa, Int.toNat_natCast] at hqs
    have hjl : j < (poAt ps k0).ls.length := by rw [hF k0 hk0]; exact hj
    unfold eX at hfj
    simp only [zH, beq_iff_eq] at hfj
    obtain ⟨hH, hFr, hls⟩ := fE (x' := x') (c' := c') (ls' := bS (poAt ps k0) j t) hs hF hk0
    rw [← hqs] at hH hFr hls
    refine ⟨hH, hFr, fun k hk => ?_, fun k hk => ?_, fun k hk e he => ?_, fun k hk e he h2 ho => ?_⟩
    ·rw [hls k hk]
     split
     ·rename_i e; subst e
      exact Nat.le_trans FE (hB.n32 _ (poAt_mem hk0))
     ·exact hB.n32 _ (poAt_mem hk)
    ·rw [hls k hk]
     split
     ·rename_i e; subst e
      exact BQ hjl (hB.used _ (poAt_mem hk0))
     ·exact hB.used _ (poAt_mem hk)
    ·rw [hls k hk] at he
     split at he
     ·rename_i e'; subst e'
      rcases cool_mem hjl he with ⟨m, hmj, hm, rfl⟩ | ⟨hc, rfl⟩
      ·refine ⟨hB.les _ (poAt_mem hk0) _ (fD hm), fun ⟨h2, ho⟩ => hmj ?_⟩
       have g1 := (hP k0 hk0 _ (fD hm) h2 ho).2
       have g2 := (hP k0 hk0 _ (fD hjl) hfj.1 hfj.2).2
       exact OF (hB.used _ (poAt_mem hk0)) hm hjl (g1.symm.trans g2)
      ·exact ⟨BR (hB.rule _ (poAt_mem hk0)) hc, fun h => absurd (show (3 : Int) = 2 from h.1) (by decide)⟩
     ·rename_i hkk
      refine ⟨hB.les _ (poAt_mem hk) e he, fun ⟨h2, ho⟩ => hkk ?_⟩
      exact HM hB.rise hk0 hk (hid0.trans (hP k hk e he h2 ho).1)
    ·rw [hls k hk]
     split
     ·rename_i e'; subst e'
      obtain ⟨m, hm, rfl⟩ := gG he
      exact oL hjl hm (fun e => ho (by rw [e]; exact hfj.2))
     ·exact he
   ·rw [hany] at h
    cases h
 ·rw [if_pos c0] at hE
  exact absurd hE c0
theorem HN {rs : List Po} {id up z mn mx us co : Int} (hF : bX ps) (hE : kB t ps id up z mn mx us co = 0) (hal : (a, l) = fP t ps id up z) (hN : uD ps ⟨id, up, a, l, mn, mx, us, co, none, 0, 0, []⟩ up rs) : aV t rs = 0 ∧ bX rs := by
 unfold kB at hE
 by_cases c0' : bW t ps id up z ≠ 0
 ·rw [if_pos c0'] at hE
  exact absurd hE c0'
 have c0 : bW t ps id up z = 0 := Classical.not_not.1 c0'
 rw [if_neg c0'] at hE
 unfold fP at hal hE
 rw [if_neg c0'] at hal hE
 clear c0'
 unfold bW at c0
 by_cases c1' : aV t ps ≠ 0
 ·rw [if_pos c1'] at c0
  exact absurd c0 c1'
 have c1 : aV t ps = 0 := Classical.not_not.1 c1'
 rw [if_neg c1'] at c0
 by_cases c2 : dE id 1 65536 = false
 ·rw [if_pos c2] at c0; omega
 rw [if_neg c2] at c0
 by_cases c3 : aP ps up < 0
 ·rw [if_pos c3] at c0; omega
 rw [if_neg c3] at c0
 by_cases c4 : 0 ≤ aP ps id
 ·rw [if_pos c4] at c0; omega
 rw [if_neg c4] at c0
 obtain ⟨i, hi, hat, hid⟩ := aQ c3
 rw [hat, Int.toNat_natCast] at c0 hal hE
 rw [← hal] at hE
 unfold nN at hE
 by_cases c5 : dF mn mx us co l = false
 ·rw [if_pos c5] at hE; omega
 rw [if_neg c5] at hE
 by_cases c6 : ps.length = 8
 ·rw [if_pos c6] at hE; omega
 obtain ⟨y, e1, e2, -⟩ := yI c1 hi c0
 rw [e1] at hal
 simp only [Prod.mk.injEq] at hal
 obtain ⟨rfl, rfl⟩ := hal
 have h31 := yC c0
 obtain ⟨qs, ms, x', c', ls', hs, hput, hle, hrs⟩ := hN
 obtain ⟨hcq, hFq⟩ := oK hF hs c1
 have hB := gH hFq hcq
 have hiq : i < qs.length := by rw [← hs.1]; exact hi
 obtain ⟨s1, s2, s3, s4, -, -, -, -, s9, s10⟩ := hs.2 i hi
 have hno : ∀ q ∈ qs, q.id ≠ id := fun q hq e => by
  obtain ⟨j, hj, rfl⟩ := bJ hq
  have hj2 : j < ps.length := by rw [hs.1]; exact hj
  exact iC (id := id) (by omega) j hj2 (by rw [(hs.2 j hj2).1]; exact e)
 have hr := FD hB.rise hput hno
 obtain ⟨k, hk, -, -, em⟩ := hput
 have hmem : ∀ x, x ∈ ms ↔ x = ⟨id, up, a, l, mn, mx, us, co, none, 0, 0, []⟩ ∨ x ∈ qs := fun x => by rw [em]; exact jK
 have hU : poAt qs i ∈ qs := poAt_mem hiq
 have hUid : (poAt qs i).id = up := by rw [← s1]; exact hid
 obtain ⟨m, hm, hatm, hpm⟩ := DA hr ((hmem _).2 (.inr hU))
 rw [hUid] at hatm
 rw [hatm, Int.toNat_natCast, hpm] at hle hrs
 have hatr : ∀ j, poAt rs j = if m = j then aT (poAt qs i) x' ls'.length c' ls' else poAt ms j := fun j => by rw [hrs]; exact cY hm
 have hrl : rs.length = ms.length := by rw [hrs, List.length_set]
 have hH : eK ms rs := ⟨hrl.symm, fun j hj => by
  rw [hatr]
  split
  ·rename_i e
   rw [← e, hpm]
   exact ⟨rfl, rfl, rfl, rfl, rfl, rfl, rfl, rfl⟩
  ·exact ⟨rfl, rfl, rfl, rfl, rfl, rfl, rfl, rfl⟩⟩
 have hold : ∀ x ∈ rs, x = aT (poAt qs i) x' ls'.length c' ls' ∨ (x = ⟨id, up, a, l, mn, mx, us, co, none, 0, 0, []⟩ ∨ x ∈ qs) := fun x hx => by
  obtain ⟨j, hj, rfl⟩ := bJ hx
  rw [hatr]
  split
  ·exact .inl rfl
  ·exact .inr ((hmem _).1 (poAt_mem (by omega)))
 have hnewU : aT (poAt qs i) x' ls'.length c' ls' ∈ rs := by
  have := poAt_mem (ps := rs) (i := m) (by omega)
  rwa [hatr, if_pos rfl] at this
 have hin : ∀ x ∈ ms, x.id ≠ up → x ∈ rs := fun x hx hne => by
  obtain ⟨j, hj, rfl⟩ := bJ hx
  have := poAt_mem (ps := rs) (i := j) (by omega)
  rwa [hatr, if_neg (fun e => hne (by rw [← e, hpm]; exact hUid))] at this
 have hup0 : up ≠ 0 := fun e => by
  have := hB.idw _ hU
  rw [hUid, e] at this
  exact absurd this (by decide)
 have hne : id ≠ up := fun e => hno _ hU (by rw [hUid, e])
 have hnewE : (⟨id, up, a, l, mn, mx, us, co, none, 0, 0, []⟩ : Po) ∈ rs := hin _ ((hmem _).2 (.inl rfl)) hne
 have hmap : ∀ q ∈ qs, ∃ q' ∈ rs, E6 q q' ∧ ∀ e ∈ q.ls, e ∈ q'.ls := fun q hq => by
  by_cases c : q.id = up
  ·obtain rfl := uG hB.rise hq hU (c.trans hUid.symm)
   refine ⟨_, hnewU, ⟨rfl, rfl, rfl, rfl, rfl, rfl, rfl, rfl⟩, fun e he => ?_⟩
   obtain ⟨k', hk', -, -, el⟩ := hle
   show e ∈ ls'
   rw [el]
   exact jK.2 (.inr he)
  ·exact ⟨q, hin q ((hmem q).2 (.inr hq)) c, ⟨rfl, rfl, rfl, rfl, rfl, rfl, rfl, rfl⟩, fun e he => he⟩
 have hleU : ∀ e, e ∈ ls' ↔ e = ⟨a, l, 2, id, 0⟩ ∨ e ∈ (poAt qs i).ls := fun e => by
  obtain ⟨k', hk', -, -, el⟩ := hle
  rw [el]
  exact jK
 have hFr : bX rs := DB fun p hp => by
  rcases hold p hp with rfl | rfl | h
  ·rfl
  ·rfl
  ·exact hFq.mem h
 have ev : ∀ (P : Po → Prop), P (aT (poAt qs i) x' ls'.length c' ls') → P ⟨id, up, a, l, mn, mx, us, co, none, 0, 0, []⟩ → (∀ q ∈ qs, P q) → ∀ p ∈ rs, P p := fun P h1 h2 h3 p hp => by
  rcases hold p hp with rfl | rfl | h
  ·exact h1
  ·exact h2
  ·exact h3 p h
 have hwid : dE id 1 65536 = true := by simpa using c2
 have hidsm : lR rs.length rs = true := by
  rw [yH hH]
  exact lV.2 ⟨hr, fun p hp => by
   rcases (hmem p).1 hp with rfl | h
   ·exact hwid
   ·exact hB.idw p h⟩
 have htopm : gT rs = true := by
  rw [uE hH]
  refine jP.2 ?_
  rw [em]
  exact yK hB.tops (fun x _ _ u => absurd u hup0) (fun x _ u _ => absurd u hup0)
 have hids := lV.1 hidsm
 have h0 : ∀ q ∈ qs, q.id ≠ 0 := fun q hq e0 => by
  have := hB.idw q hq
  rw [e0] at this
  exact absurd this (by decide)
 have hups : ∀ q ∈ qs, ∀ q' : Po, q'.id = q.id → q'.up = q.up → ∃ f, lD rs f q' = true := fun q hq q' g1 g2 => by
  obtain ⟨f, hf⟩ := hB.ups q hq
  refine ⟨f, wZ hFq hFr hB.rise hids.1 0 (fun x _ u hu h2 => ?_) f q q' (h0 q hq) g1 g2 hf⟩
  obtain ⟨u', hu', hh, hls⟩ := hmap u hu
  obtain ⟨e, he, k1, k2⟩ := h2
  exact ⟨h0 u hu, u', hu', hh.1.symm, hh.2.1.symm, e, hls e he, k1, k2⟩
 have hmv : ∀ q ∈ qs, ∀ e ∈ q.ls, MT t rs q.id e := fun q hq e he => (hB.les q hq e he).move (fun u hu _ _ => by
  obtain ⟨u', hu', hh, -⟩ := hmap u hu
  exact ⟨u', hu', hh.1.symm, hh.2.1.symm, hh.2.2.1.symm, hh.2.2.2.1.symm⟩)
 refine ⟨RB.chk ⟨?_, hB.t0, hB.t1, hids.2, hids.1, jP.1 htopm, ?_, ?_, ?_, ?_, ?_, ?_⟩ hFr, hFr⟩
 ·have h8 := hB.few
  have h9 := hs.1
  rw [hrl, em]
  simp
  omega
 ·refine ev (fun p => p.ls.length ≤ 32) ?_ (Nat.zero_le _) hB.n32
  show ls'.length ≤ 32
  rw [hle.len, ← s10, hF i hi]
  omega
 ·exact ev (fun p => rt p.a p.l = true) (hB.root (poAt qs i) hU) (bH e2.1).1 hB.root
 ·refine ev (fun p => nK (lp p.ls) p.a p.l) ?_ ⟨fun u hu => absurd hu (by simp [lp]), by simp [lp]⟩ hB.used
  show nK (lp ls') (poAt qs i).a (poAt qs i).l
  rw [s3, s4, s10] at e2
  exact EI (hB.used _ hU) e2.1 e2.2 (FA hle)
 ·exact ev (fun p => dF p.mn p.mx p.us p.co p.l = true) (hB.rule (poAt qs i) hU) (by simpa using c5) hB.rule
 ·refine ev (fun p => ∃ f, lD rs f p = true) (hups _ hU _ rfl rfl) ?_ (fun q hq => hups q hq q rfl rfl)
  obtain ⟨f, hf⟩ := hups _ hU (aT (poAt qs i) x' ls'.length c' ls') rfl rfl
  exact ⟨f + 1, (up_step hFr hids.1).2 (.inr ⟨_, hnewU, hUid, ⟨_, (hleU _).2 (.inl rfl), rfl, rfl⟩, hf⟩)⟩
 ·refine ev (fun p => ∀ e ∈ p.ls, MT t rs p.id e) (fun e he => ?_) (fun e he => absurd he (by simp)) hmv
  rcases (hleU e).1 he with rfl | h
  ·exact .inr (.inl ⟨rfl, rfl, _, hnewE, rfl, hUid.symm, rfl, rfl⟩)
  ·exact hmv _ hU e h
open Go.RowKit
def uH (g : Nat) (cap : Array Value) (n : Nat) (ps : List Sb) (f : Nat → Bool) (w : World) : Prop :=
 ∀ i, i < n → ∀ W, Below w.heap.size w W → Calls Tryz.prog g (#[.agg #[.int .i64 (sbAt ps i).id, .int .i64 (sbAt ps i).a, .int .i64 (sbAt ps i).l, .slice (sbAt ps i).x (sbAt ps i).n (sbAt ps i).c]] ++ cap) W fun e W' => e = .returned (.bool (f i)) ∧ Below W.heap.size W W'
theorem nC (g : Nat) (cap : Array Value) (x : Option Addr) (n c : Nat) (ps : List Sb) (f : Nat → Bool) (w : World) (hp : SS w x n ps) (hn : n ≤ 1048576) (hF : uH g cap n ps f w)
  (hg : ∀ args W, (callFunc g args).run Tryz.prog W = .ok (.enter g args) W) :
  Calls Tryz.prog 180 #[.slice x n c, .func (.func g) #[] cap] w fun e w' => (∃ r : Int, e = .returned (.int .i64 r) ∧ ((∃ i : Nat, i < n ∧ f i = true ∧ (∀ j, j < i → f j = false) ∧ r = i) ∨ ((∀ j, j < n → f j = false) ∧ r = -1))) ∧ Below w.heap.size w w' := (nM.2.2.2.1 g cap x n c _ f w hp.idx (by omega) hF hg).1
theorem fQ (g : Nat) (cap : Array Value) (x : Option Addr) (n c : Nat) (ps : List Sb) (f : Nat → Bool) (w : World) (hp : SS w x n ps) (hn : n ≤ 1048576) (hF : uH g cap n ps f w)
  (hg : ∀ args W, (callFunc g args).run Tryz.prog W = .ok (.enter g args) W) :
  Calls Tryz.prog 140 #[.slice x n c, .func (.func g) #[] cap] w fun e w' => e = .returned (.bool (aL n f)) ∧ Below w.heap.size w w' := (nM.2.2.2.1 g cap x n c _ f w hp.idx (by omega) hF hg).2
def HO (g : Nat) (cap : Array Value) (n : Nat) (ps : List Fc) (f : Nat → Bool) (w : World) : Prop :=
 ∀ i, i < n → ∀ W, Below w.heap.size w W → Calls Tryz.prog g (#[.agg #[.int .i64 (fcAt ps i).id, .slice (fcAt ps i).x (fcAt ps i).n (fcAt ps i).c]] ++ cap) W fun e W' => e = .returned (.bool (f i)) ∧ Below W.heap.size W W'
theorem nE (g : Nat) (cap : Array Value) (x : Option Addr) (n c : Nat) (ps : List Fc) (f : Nat → Bool) (w : World) (hp : tL w x n ps) (hn : n ≤ 1048576) (hF : HO g cap n ps f w)
  (hg : ∀ args W, (callFunc g args).run Tryz.prog W = .ok (.enter g args) W) :
  Calls Tryz.prog 188 #[.slice x n c, .func (.func g) #[] cap] w fun e w' => (∃ r : Int, e = .returned (.int .i64 r) ∧ ((∃ i : Nat, i < n ∧ f i = true ∧ (∀ j, j < i → f j = false) ∧ r = i) ∨ ((∀ j, j < n → f j = false) ∧ r = -1))) ∧ Below w.heap.size w w' := (nM.2.2.2.2.1 g cap x n c _ f w hp.idx (by omega) hF hg).1
theorem rG (g : Nat) (cap : Array Value) (x : Option Addr) (n c : Nat) (ps : List Fc) (f : Nat → Bool) (w : World) (hp : tL w x n ps) (hn : n ≤ 1048576) (hF : HO g cap n ps f w)
  (hg : ∀ args W, (callFunc g args).run Tryz.prog W = .ok (.enter g args) W) :
  Calls Tryz.prog 199 #[.slice x n c, .func (.func g) #[] cap] w fun e w' => e = .returned (.bool (aL n f)) ∧ Below w.heap.size w w' := (nM.2.2.2.2.1 g cap x n c _ f w hp.idx (by omega) hF hg).2
def yL (g : Nat) (cap : Array Value) (n : Nat) (ps : List Rg) (f : Nat → Bool) (w : World) : Prop :=
 ∀ i, i < n → ∀ W, Below w.heap.size w W → Calls Tryz.prog g (#[.agg #[.int .i64 (aJ ps i).a, .int .i64 (aJ ps i).l, .int .i64 (aJ ps i).p]] ++ cap) W fun e W' => e = .returned (.bool (f i)) ∧ Below W.heap.size W W'
theorem wH (g : Nat) (cap : Array Value) (x : Option Addr) (n c : Nat) (ps : List Rg) (f : Nat → Bool) (w : World) (hp : RS w x n ps) (hn : n ≤ 1048576) (hF : yL g cap n ps f w)
  (hg : ∀ args W, (callFunc g args).run Tryz.prog W = .ok (.enter g args) W) :
  Calls Tryz.prog 138 #[.slice x n c, .func (.func g) #[] cap] w fun e w' => (∃ r : Int, e = .returned (.int .i64 r) ∧ ((∃ i : Nat, i < n ∧ f i = true ∧ (∀ j, j < i → f j = false) ∧ r = i) ∨ ((∀ j, j < n → f j = false) ∧ r = -1))) ∧ Below w.heap.size w w' := (nM.2.2.1 g cap x n c _ f w hp.idx (by omega) hF hg).1
theorem dV (g : Nat) (cap : Array Value) (x : Option Addr) (n c : Nat) (ps : List Rg) (f : Nat → Bool) (w : World) (hp : RS w x n ps) (hn : n ≤ 1048576) (hF : yL g cap n ps f w)
  (hg : ∀ args W, (callFunc g args).run Tryz.prog W = .ok (.enter g args) W) :
  Calls Tryz.prog 116 #[.slice x n c, .func (.func g) #[] cap] w fun e w' => e = .returned (.bool (aL n f)) ∧ Below w.heap.size w w' := (nM.2.2.1 g cap x n c _ f w hp.idx (by omega) hF hg).2
def HP (g : Nat) (cap : Array Value) (n : Nat) (ps : List Int) (f : Nat → Bool) (w : World) : Prop :=
 ∀ i, i < n → ∀ W, Below w.heap.size w W → Calls Tryz.prog g (#[.int .i64 (bP ps i)] ++ cap) W fun e W' => e = .returned (.bool (f i)) ∧ Below W.heap.size W W'
theorem wI (g : Nat) (cap : Array Value) (x : Option Addr) (n c : Nat) (ps : List Int) (f : Nat → Bool) (w : World) (hp : IS w x n ps) (hn : n ≤ 1048576) (hF : HP g cap n ps f w)
  (hg : ∀ args W, (callFunc g args).run Tryz.prog W = .ok (.enter g args) W) :
  Calls Tryz.prog 193 #[.slice x n c, .func (.func g) #[] cap] w fun e w' => (∃ r : Int, e = .returned (.int .i64 r) ∧ ((∃ i : Nat, i < n ∧ f i = true ∧ (∀ j, j < i → f j = false) ∧ r = i) ∨ ((∀ j, j < n → f j = false) ∧ r = -1))) ∧ Below w.heap.size w w' := (nM.2.2.2.2.2.1 g cap x n c _ f w hp.idx (by omega) hF hg).1
theorem rH (g : Nat) (cap : Array Value) (x : Option Addr) (n c : Nat) (ps : List Int) (f : Nat → Bool) (w : World) (hp : IS w x n ps) (hn : n ≤ 1048576) (hF : HP g cap n ps f w)
  (hg : ∀ args W, (callFunc g args).run Tryz.prog W = .ok (.enter g args) W) :
  Calls Tryz.prog 221 #[.slice x n c, .func (.func g) #[] cap] w fun e w' => e = .returned (.bool (aL n f)) ∧ Below w.heap.size w w' := (nM.2.2.2.2.2.1 g cap x n c _ f w hp.idx (by omega) hF hg).2
def cR (e : Rg) : List Value := [.int .i64 e.a, .int .i64 e.l, .int .i64 e.p]
def flatR (es : List Rg) : List Value := es.flatMap cR
theorem HQ (e : Rg) : (cR e).length = 3 := rfl
theorem uI : ∀ es : List Rg, (flatR es).length = es.length * 3 := mH HQ
theorem BS (es fs : List Rg) : flatR (es ++ fs) = flatR es ++ flatR fs := by simp [flatR]
theorem OG : ∀ (es : List Rg) (i j : Nat), i < es.length → j < 3 → (flatR es)[i * 3 + j]? = (cR (aJ es i))[j]? := rZ HQ WE
theorem pU (es : List Rg) : ∀ u ∈ flatR es, u.oneCell' = true := fun u hu => by
 obtain ⟨e, -, hu⟩ := List.mem_flatMap.1 hu
 simp only [cR, List.mem_cons, List.not_mem_nil, or_false] at hu
 rcases hu with rfl | rfl | rfl <;> rfl
def bR (w : World) (base : Nat) (v : Value) (es : List Rg) : Prop := w.ownsRow base 51 3 v es.length (flatR es)
theorem bR.later (h : bR w base v es) (hb : Below w.heap.size w w') : bR w' base v es := jF h hb
theorem bR.kept (h : bR w base v es) (hg : w.grownBy w' (some g)) (hne : ∀ k, v.ownBlock = some k → k ≠ g) : bR w' base v es := iL h hg hne
theorem bR.low (h : bR w base v es) (hb : base' ≤ base) : bR w base' v es := jG h hb
theorem bR.lt (h : bR w base v es) : ∀ k, v.ownBlock = some k → base ≤ k ∧ k < w.heap.size := World.ownsRow.lt h
theorem bR.ne {t : TypeId} (h : bR w base v es) (hb : w.heap[b]? = some (.cells cs t fr)) (ht : t ≠ 51) : v.ownBlock ≠ some b := nZ h hb ht
theorem T1 : Ty 51 38 3 (.agg #[.int .i64 0, .int .i64 0, .int .i64 0]) 24 := vG (by kernel_rfl) (by kernel_rfl) rfl (pU [WE]) (by decide) (by decide)
theorem RS.flat_cells (h : RS w (some ad) n es) : ∀ j u, (flatR es)[j]? = some u → w.cell? (ad.add j) = some u :=
 jV (by decide) HQ WE h.len fun i hi => by
  obtain ⟨b, o, hx, d0, d1, d2⟩ := h.cells i hi
  exact ⟨b, o, hx, by rintro (_ | _ | _ | q) u hu <;> first | (cases hu; assumption) | simp [cR] at hu⟩
theorem RS.rw (h : RS w x n es) : Rw w x n 3 (flatR es) :=
 ⟨by rw [uI, h.len], fun h0 e => (by obtain ⟨b, o, hx, -⟩ := h.cells 0 h0; rw [e] at hx; cases hx), pU es, fun ad hx => by subst hx; exact h.flat_cells⟩
theorem bR.mem (h : bR w base v es) : ∃ x c, v = .slice x es.length c ∧ es.length ≤ c ∧ c ≤ 9223372036854775807 ∧ (x = none → es.length = 0 ∧ c = 0) ∧ ∀ i, i < es.length → ∃ b o, x = some ⟨b, o, none⟩ ∧ w.cell? ⟨b, o + i * 3, none⟩ = some (.int .i64 (aJ es i).a) ∧ w.cell? ⟨b, o + i * 3 + 1, none⟩ = some (.int .i64 (aJ es i).l) ∧ w.cell? ⟨b, o + i * 3 + 2, none⟩ = some (.int .i64 (aJ es i).p) := by
 obtain ⟨x, c, hv, h1, h2, h3, h4⟩ := mI h
 refine ⟨x, c, hv, h1, h2, h3, fun i hi => ?_⟩
 obtain ⟨b, o, hx, e⟩ := h4 i hi
 have e := fun j u hj hu => e j u hj ((OG es i j hi hj).trans hu)
 exact ⟨b, o, hx, e 0 _ (by decide) rfl, e 1 _ (by decide) rfl, e 2 _ (by decide) rfl⟩
def cS (e : Sb) : List Value := [.int .i64 e.id, .int .i64 e.a, .int .i64 e.l, .slice e.x e.n e.c]
def flatS (es : List Sb) : List Value := es.flatMap cS
theorem HR (e : Sb) : (cS e).length = 4 := rfl
theorem fW : ∀ es : List Sb, (flatS es).length = es.length * 4 := mH HR
theorem BT (es fs : List Sb) : flatS (es ++ fs) = flatS es ++ flatS fs := by simp [flatS]
theorem oM : ∀ (es : List Sb) (i j : Nat), i < es.length → j < 4 → (flatS es)[i * 4 + j]? = (cS (sbAt es i))[j]? := rZ HR WD
theorem pV (es : List Sb) : ∀ u ∈ flatS es, u.oneCell' = true := fun u hu => by
 obtain ⟨e, -, hu⟩ := List.mem_flatMap.1 hu
 simp only [cS, List.mem_cons, List.not_mem_nil, or_false] at hu
 rcases hu with rfl | rfl | rfl | rfl <;> rfl
def cE (w : World) (base : Nat) (v : Value) (es : List Sb) : Prop := w.ownsRow base 78 4 v es.length (flatS es)
theorem cE.later {es : List Sb} (h : cE w base v es) (hb : Below w.heap.size w w') : cE w' base v es := jF h hb
theorem cE.kept {es : List Sb} (h : cE w base v es) (hg : w.grownBy w' (some g)) (hne : ∀ k, v.ownBlock = some k → k ≠ g) : cE w' base v es := iL h hg hne
theorem cE.low {es : List Sb} (h : cE w base v es) (hb : base' ≤ base) : cE w base' v es := jG h hb
theorem cE.lt {es : List Sb} (h : cE w base v es) : ∀ k, v.ownBlock = some k → base ≤ k ∧ k < w.heap.size := World.ownsRow.lt h
theorem cE.ne {es : List Sb} {t : TypeId} (h : cE w base v es) (hb : w.heap[b]? = some (.cells cs t fr)) (ht : t ≠ 78) : v.ownBlock ≠ some b := nZ h hb ht
theorem T2 : Ty 78 39 4 (.agg #[.int .i64 0, .int .i64 0, .int .i64 0, .slice none 0 0]) 48 := vG (by kernel_rfl) (by kernel_rfl) rfl (pV [WD]) (by decide) (by decide)
theorem SS.flat_cells {es : List Sb} (h : SS w (some ad) n es) : ∀ j u, (flatS es)[j]? = some u → w.cell? (ad.add j) = some u :=
 jV (by decide) HR WD h.len fun i hi => by
  obtain ⟨b, o, hx, d0, d1, d2, d3⟩ := h.cells i hi
  exact ⟨b, o, hx, by rintro (_ | _ | _ | _ | q) u hu <;> first | (cases hu; assumption) | simp [cS] at hu⟩
theorem SS.rw {es : List Sb} (h : SS w x n es) : Rw w x n 4 (flatS es) :=
 ⟨by rw [fW, h.len], fun h0 e => (by obtain ⟨b, o, hx, -⟩ := h.cells 0 h0; rw [e] at hx; cases hx), pV es, fun ad hx => by subst hx; exact h.flat_cells⟩
theorem cE.mem {es : List Sb} (h : cE w base v es) : ∃ x c, v = .slice x es.length c ∧ es.length ≤ c ∧ c ≤ 9223372036854775807 ∧ (x = none → es.length = 0 ∧ c = 0) ∧ ∀ i, i < es.length → ∃ b o, x = some ⟨b, o, none⟩ ∧ w.cell? ⟨b, o + i * 4, none⟩ = some (.int .i64 (sbAt es i).id) ∧ w.cell? ⟨b, o + i * 4 + 1, none⟩ = some (.int .i64 (sbAt es i).a) ∧ w.cell? ⟨b, o + i * 4 + 2, none⟩ = some (.int .i64 (sbAt es i).l) ∧ w.cell? ⟨b, o + i * 4 + 3, none⟩ = some (.slice (sbAt es i).x (sbAt es i).n (sbAt es i).c) := by
 obtain ⟨x, c, hv, h1, h2, h3, h4⟩ := mI h
 refine ⟨x, c, hv, h1, h2, h3, fun i hi => ?_⟩
 obtain ⟨b, o, hx, e⟩ := h4 i hi
 have e := fun j u hj hu => e j u hj ((oM es i j hi hj).trans hu)
 exact ⟨b, o, hx, e 0 _ (by decide) rfl, e 1 _ (by decide) rfl, e 2 _ (by decide) rfl, e 3 _ (by decide) rfl⟩
def cF (e : Fc) : List Value := [.int .i64 e.id, .slice e.x e.n e.c]
def flatF (es : List Fc) : List Value := es.flatMap cF
theorem HS (e : Fc) : (cF e).length = 2 := rfl
theorem iD : ∀ es : List Fc, (flatF es).length = es.length * 2 := mH HS
theorem BU (es fs : List Fc) : flatF (es ++ fs) = flatF es ++ flatF fs := by simp [flatF]
theorem sO : ∀ (es : List Fc) (i j : Nat), i < es.length → j < 2 → (flatF es)[i * 2 + j]? = (cF (fcAt es i))[j]? := rZ HS WC
theorem pW (es : List Fc) : ∀ u ∈ flatF es, u.oneCell' = true := fun u hu => by
 obtain ⟨e, -, hu⟩ := List.mem_flatMap.1 hu
 simp only [cF, List.mem_cons, List.not_mem_nil, or_false] at hu
 rcases hu with rfl | rfl <;> rfl
def eB (w : World) (base : Nat) (v : Value) (es : List Fc) : Prop := w.ownsRow base 80 2 v es.length (flatF es)
theorem eB.later {es : List Fc} (h : eB w base v es) (hb : Below w.heap.size w w') : eB w' base v es := jF h hb
theorem eB.kept {es : List Fc} (h : eB w base v es) (hg : w.grownBy w' (some g)) (hne : ∀ k, v.ownBlock = some k → k ≠ g) : eB w' base v es := iL h hg hne
theorem eB.low {es : List Fc} (h : eB w base v es) (hb : base' ≤ base) : eB w base' v es := jG h hb
theorem eB.lt {es : List Fc} (h : eB w base v es) : ∀ k, v.ownBlock = some k → base ≤ k ∧ k < w.heap.size := World.ownsRow.lt h
theorem eB.ne {es : List Fc} {t : TypeId} (h : eB w base v es) (hb : w.heap[b]? = some (.cells cs t fr)) (ht : t ≠ 80) : v.ownBlock ≠ some b := nZ h hb ht
theorem T3 : Ty 80 76 2 (.agg #[.int .i64 0, .slice none 0 0]) 32 := vG (by kernel_rfl) (by kernel_rfl) rfl (pW [WC]) (by decide) (by decide)
theorem tL.flat_cells {es : List Fc} (h : tL w (some ad) n es) : ∀ j u, (flatF es)[j]? = some u → w.cell? (ad.add j) = some u :=
 jV (by decide) HS WC h.len fun i hi => by
  obtain ⟨b, o, hx, d0, d1⟩ := h.cells i hi
  exact ⟨b, o, hx, by rintro (_ | _ | q) u hu <;> first | (cases hu; assumption) | simp [cF] at hu⟩
theorem tL.rw {es : List Fc} (h : tL w x n es) : Rw w x n 2 (flatF es) :=
 ⟨by rw [iD, h.len], fun h0 e => (by obtain ⟨b, o, hx, -⟩ := h.cells 0 h0; rw [e] at hx; cases hx), pW es, fun ad hx => by subst hx; exact h.flat_cells⟩
theorem eB.mem {es : List Fc} (h : eB w base v es) : ∃ x c, v = .slice x es.length c ∧ es.length ≤ c ∧ c ≤ 9223372036854775807 ∧ (x = none → es.length = 0 ∧ c = 0) ∧ ∀ i, i < es.length → ∃ b o, x = some ⟨b, o, none⟩ ∧ w.cell? ⟨b, o + i * 2, none⟩ = some (.int .i64 (fcAt es i).id) ∧ w.cell? ⟨b, o + i * 2 + 1, none⟩ = some (.slice (fcAt es i).x (fcAt es i).n (fcAt es i).c) := by
 obtain ⟨x, c, hv, h1, h2, h3, h4⟩ := mI h
 refine ⟨x, c, hv, h1, h2, h3, fun i hi => ?_⟩
 obtain ⟨b, o, hx, e⟩ := h4 i hi
 have e := fun j u hj hu => e j u hj ((sO es i j hi hj).trans hu)
 exact ⟨b, o, hx, e 0 _ (by decide) rfl, e 1 _ (by decide) rfl⟩
theorem HT (x : Option Addr) (n c : Nat) (es : List Rg) (w : World) (hl : RS w x n es) (hn : n ≤ 1048576) :
  Calls Tryz.prog 123 #[.slice x n c] w fun e w' => ∃ v, e = .returned v ∧ bR w' w.heap.size v es ∧ Below w.heap.size w w' := by
 obtain rfl := hl.len
 exact oB.2.2.1 _ _ T1 x _ c _ w hl.rw hn
theorem HU (x : Option Addr) (n c : Nat) (es : List Sb) (w : World) (hl : SS w x n es) (hn : n ≤ 1048576) :
  Calls Tryz.prog 124 #[.slice x n c] w fun e w' => ∃ v, e = .returned v ∧ cE w' w.heap.size v es ∧ Below w.heap.size w w' := by
 obtain rfl := hl.len
 exact oB.2.2.2.1 _ _ T2 x _ c _ w hl.rw hn
theorem HV (x : Option Addr) (n c : Nat) (es : List Fc) (w : World) (hl : tL w x n es) (hn : n ≤ 1048576) :
  Calls Tryz.prog 169 #[.slice x n c] w fun e w' => ∃ v, e = .returned v ∧ eB w' w.heap.size v es ∧ Below w.heap.size w w' := by
 obtain rfl := hl.len
 exact oB.2.2.2.2.1 _ _ T3 x _ c _ w hl.rw hn
theorem vL (p r : Rg) (v : Int) (hv : D9 p.a r.a v) (bb kk : Nat) (w : World) (hby : w.cell? ⟨bb, 0, none⟩ = some (.func (.func 164) #[] #[])) :
  Calls Tryz.prog 202 #[.agg #[.int .i64 p.a, .int .i64 p.l, .int .i64 p.p], .agg #[.int .i64 r.a, .int .i64 r.l, .int .i64 r.p], .slice (some ⟨bb, 0, none⟩) 1 kk] w fun e w' => e = .returned (.int .i64 v) ∧ Below w.heap.size w w' := KK.2.2.1 VE.2.2.1 p r v hv bb kk w hby
def OH (e : Rg) (n : Nat) (ps : List Rg) (w : World) (r : Ending) (w' : World) : Prop :=
 ∃ v, r = .returned v ∧ Below w.heap.size w w' ∧ ∃ i, i ≤ n ∧ (∀ j, j < i → ¬ e.a < (aJ ps j).a) ∧ (i < n → e.a < (aJ ps i).a) ∧ bR w' w.heap.size v (ps.take i ++ [e] ++ ps.drop i)
theorem OI (e : Rg) (x : Option Addr) (n c : Nat) (ps : List Rg) (bf k : Nat) (w : World) (hp : RS w x n ps) (hn : n ≤ 32) (hnc : n ≤ c) (hc63 : c ≤ 9223372036854775807) (hx : (x = none ∧ c = 0) ∨ ∃ b o, x = some ⟨b, o, none⟩)
  (hby : w.cell? ⟨bf, 0, none⟩ = some (.func (.func 164) #[] #[])) :
  Calls Tryz.prog 179 #[.slice x n c, .agg #[.int .i64 e.a, .int .i64 e.l, .int .i64 e.p], .slice (some ⟨bf, 0, none⟩) 1 k] w (OH e n ps w) := by
 have hB2 := cC w (.cells #[.int .i64 e.a, .int .i64 e.l, .int .i64 e.p] 51) (.cells #[.slice (some ⟨bf, 0, none⟩) 1 k] 250)
 refine (EM.2.2.1 _ _ T1 e x n c bf 1 k (flatR ps) (fun i => decide (e.a < (aJ ps i).a)) w hp.rw (pU [e]) hn hnc hc63 hx (wH _ _ x n c ps _ _ (hp.later hB2) (by omega) (fun i hi W hW => ?_) jB.2.2.1.2)).mono ?_
 ·obtain ⟨v, hv, hd⟩ := rA e.a (aJ ps i).a
  exact (jB.2.2.1.1 e (aJ ps i) v w.heap.size (w.heap.size + 1) bf 1 k W (fun i => (hW.cell (p := ⟨w.heap.size, i, none⟩) (by show w.heap.size < _; simp; omega)).trans (by simp)) (cell_later hW (by simp)) fun W9 h9 => vL e _ v hv bf k W9 (cell_later h9 (cell_later hW (cell_later hB2 hby)))).mono fun _ _ h => ⟨h.1.trans (congrArg (fun t => Ending.returned (.bool t)) hd.symm), h.2⟩
 ·rintro r w1 ⟨v, rfl, hb, i, hi, hlow, hup, ho⟩
  exact ⟨v, rfl, hb, i, hi, fun j hj => of_decide_eq_false (hlow j hj), fun h => of_decide_eq_true (hup h), kW flatR uI BS hp.len hi ho⟩
theorem vM (p r : Sb) (v : Int) (hv : D9 p.id r.id v) (bb kk : Nat) (w : World) (hby : w.cell? ⟨bb, 0, none⟩ = some (.func (.func 147) #[] #[])) :
  Calls Tryz.prog 185 #[.agg #[.int .i64 p.id, .int .i64 p.a, .int .i64 p.l, .slice p.x p.n p.c], .agg #[.int .i64 r.id, .int .i64 r.a, .int .i64 r.l, .slice r.x r.n r.c], .slice (some ⟨bb, 0, none⟩) 1 kk] w fun e w' => e = .returned (.int .i64 v) ∧ Below w.heap.size w w' := KK.2.2.2.1 VE.2.2.2.1 p r v hv bb kk w hby
def OJ (e : Sb) (n : Nat) (ps : List Sb) (w : World) (r : Ending) (w' : World) : Prop :=
 ∃ v, r = .returned v ∧ Below w.heap.size w w' ∧ ∃ i, i ≤ n ∧ (∀ j, j < i → ¬ e.id < (sbAt ps j).id) ∧ (i < n → e.id < (sbAt ps i).id) ∧ cE w' w.heap.size v (ps.take i ++ [e] ++ ps.drop i)
theorem OK (e : Sb) (x : Option Addr) (n c : Nat) (ps : List Sb) (bf k : Nat) (w : World) (hp : SS w x n ps) (hn : n ≤ 32) (hnc : n ≤ c) (hc63 : c ≤ 9223372036854775807) (hx : (x = none ∧ c = 0) ∨ ∃ b o, x = some ⟨b, o, none⟩)
  (hby : w.cell? ⟨bf, 0, none⟩ = some (.func (.func 147) #[] #[])) :
  Calls Tryz.prog 146 #[.slice x n c, .agg #[.int .i64 e.id, .int .i64 e.a, .int .i64 e.l, .slice e.x e.n e.c], .slice (some ⟨bf, 0, none⟩) 1 k] w (OJ e n ps w) := by
 have hB2 := cC w (.cells #[.int .i64 e.id, .int .i64 e.a, .int .i64 e.l, .slice e.x e.n e.c] 78) (.cells #[.slice (some ⟨bf, 0, none⟩) 1 k] 232)
 refine (EM.2.2.2.1 _ _ T2 e x n c bf 1 k (flatS ps) (fun i => decide (e.id < (sbAt ps i).id)) w hp.rw (pV [e]) hn hnc hc63 hx (nC _ _ x n c ps _ _ (hp.later hB2) (by omega) (fun i hi W hW => ?_) jB.2.2.2.1.2)).mono ?_
 ·obtain ⟨v, hv, hd⟩ := rA e.id (sbAt ps i).id
  exact (jB.2.2.2.1.1 e (sbAt ps i) v w.heap.size (w.heap.size + 1) bf 1 k W (fun i => (hW.cell (p := ⟨w.heap.size, i, none⟩) (by show w.heap.size < _; simp; omega)).trans (by simp)) (cell_later hW (by simp)) fun W9 h9 => vM e _ v hv bf k W9 (cell_later h9 (cell_later hW (cell_later hB2 hby)))).mono fun _ _ h => ⟨h.1.trans (congrArg (fun t => Ending.returned (.bool t)) hd.symm), h.2⟩
 ·rintro r w1 ⟨v, rfl, hb, i, hi, hlow, hup, ho⟩
  exact ⟨v, rfl, hb, i, hi, fun j hj => of_decide_eq_false (hlow j hj), fun h => of_decide_eq_true (hup h), kW flatS fW BT hp.len hi ho⟩
theorem vN (p r : Fc) (v : Int) (hv : D9 p.id r.id v) (bb kk : Nat) (w : World) (hby : w.cell? ⟨bb, 0, none⟩ = some (.func (.func 151) #[] #[])) :
  Calls Tryz.prog 190 #[.agg #[.int .i64 p.id, .slice p.x p.n p.c], .agg #[.int .i64 r.id, .slice r.x r.n r.c], .slice (some ⟨bb, 0, none⟩) 1 kk] w fun e w' => e = .returned (.int .i64 v) ∧ Below w.heap.size w w' := KK.2.2.2.2.1 VE.2.2.2.2.1 p r v hv bb kk w hby
def OL (e : Fc) (n : Nat) (ps : List Fc) (w : World) (r : Ending) (w' : World) : Prop :=
 ∃ v, r = .returned v ∧ Below w.heap.size w w' ∧ ∃ i, i ≤ n ∧ (∀ j, j < i → ¬ e.id < (fcAt ps j).id) ∧ (i < n → e.id < (fcAt ps i).id) ∧ eB w' w.heap.size v (ps.take i ++ [e] ++ ps.drop i)
theorem OM (e : Fc) (x : Option Addr) (n c : Nat) (ps : List Fc) (bf k : Nat) (w : World) (hp : tL w x n ps) (hn : n ≤ 32) (hnc : n ≤ c) (hc63 : c ≤ 9223372036854775807) (hx : (x = none ∧ c = 0) ∨ ∃ b o, x = some ⟨b, o, none⟩)
  (hby : w.cell? ⟨bf, 0, none⟩ = some (.func (.func 151) #[] #[])) :
  Calls Tryz.prog 150 #[.slice x n c, .agg #[.int .i64 e.id, .slice e.x e.n e.c], .slice (some ⟨bf, 0, none⟩) 1 k] w (OL e n ps w) := by
 have hB2 := cC w (.cells #[.int .i64 e.id, .slice e.x e.n e.c] 80) (.cells #[.slice (some ⟨bf, 0, none⟩) 1 k] 236)
 refine (EM.2.2.2.2.1 _ _ T3 e x n c bf 1 k (flatF ps) (fun i => decide (e.id < (fcAt ps i).id)) w hp.rw (pW [e]) hn hnc hc63 hx (nE _ _ x n c ps _ _ (hp.later hB2) (by omega) (fun i hi W hW => ?_) jB.2.2.2.2.1.2)).mono ?_
 ·obtain ⟨v, hv, hd⟩ := rA e.id (fcAt ps i).id
  exact (jB.2.2.2.2.1.1 e (fcAt ps i) v w.heap.size (w.heap.size + 1) bf 1 k W (fun i => (hW.cell (p := ⟨w.heap.size, i, none⟩) (by show w.heap.size < _; simp; omega)).trans (by simp)) (cell_later hW (by simp)) fun W9 h9 => vN e _ v hv bf k W9 (cell_later h9 (cell_later hW (cell_later hB2 hby)))).mono fun _ _ h => ⟨h.1.trans (congrArg (fun t => Ending.returned (.bool t)) hd.symm), h.2⟩
 ·rintro r w1 ⟨v, rfl, hb, i, hi, hlow, hup, ho⟩
  exact ⟨v, rfl, hb, i, hi, fun j hj => of_decide_eq_false (hlow j hj), fun h => of_decide_eq_true (hup h), kW flatF iD BU hp.len hi ho⟩
theorem bR.drew (h : bR w base v es) : bR w.drew base v es := h.later (zD).drew
theorem FF (base g k cap i j : Nat) (es : List Rg) (w : World) (hO : bR w base (.slice (some ⟨g, 0, none⟩) (k + 1) cap) es) (hn : es.length = k + 1) (hi : i ≤ k) (hj : j = i + 1) (hn64 : k ≤ 64) (hnc : k + 1 ≤ cap) (hcm : cap ≤ 9223372036854775807) :
  Calls Tryz.prog 142 #[.slice (some ⟨g, 0, none⟩) (k + 1) cap, .int .i64 i, .int .i64 j] w fun e w' => e = .returned (.slice (some ⟨g, 0, none⟩) k cap) ∧ bR w' base (.slice (some ⟨g, 0, none⟩) k cap) (es.take i ++ es.drop j) ∧ w.grownBy w' (some g) :=
 (pK.2.2.1 _ _ T1 base g k cap i j (flatR es) w (by unfold bR at hO; rw [hn] at hO; exact hO) (pU es) hi hj hn64 hnc hcm).mono fun e w1 h => ⟨h.1, pI flatR uI BS hn (by omega) hj h.2.1, h.2.2⟩
theorem FG (base g k cap i j : Nat) (es : List Sb) (w : World) (hO : cE w base (.slice (some ⟨g, 0, none⟩) (k + 1) cap) es) (hn : es.length = k + 1) (hi : i ≤ k) (hj : j = i + 1) (hn64 : k ≤ 64) (hnc : k + 1 ≤ cap) (hcm : cap ≤ 9223372036854775807) :
  Calls Tryz.prog 148 #[.slice (some ⟨g, 0, none⟩) (k + 1) cap, .int .i64 i, .int .i64 j] w fun e w' => e = .returned (.slice (some ⟨g, 0, none⟩) k cap) ∧ cE w' base (.slice (some ⟨g, 0, none⟩) k cap) (es.take i ++ es.drop j) ∧ w.grownBy w' (some g) :=
 (pK.2.2.2.1 _ _ T2 base g k cap i j (flatS es) w (by unfold cE at hO; rw [hn] at hO; exact hO) (pV es) hi hj hn64 hnc hcm).mono fun e w1 h => ⟨h.1, pI flatS fW BT hn (by omega) hj h.2.1, h.2.2⟩
theorem eB.drew {es : List Fc} (h : eB w base v es) : eB w.drew base v es := h.later (zD).drew
theorem FH (base g k cap i j : Nat) (es : List Fc) (w : World) (hO : eB w base (.slice (some ⟨g, 0, none⟩) (k + 1) cap) es) (hn : es.length = k + 1) (hi : i ≤ k) (hj : j = i + 1) (hn64 : k ≤ 64) (hnc : k + 1 ≤ cap) (hcm : cap ≤ 9223372036854775807) :
  Calls Tryz.prog 156 #[.slice (some ⟨g, 0, none⟩) (k + 1) cap, .int .i64 i, .int .i64 j] w fun e w' => e = .returned (.slice (some ⟨g, 0, none⟩) k cap) ∧ eB w' base (.slice (some ⟨g, 0, none⟩) k cap) (es.take i ++ es.drop j) ∧ w.grownBy w' (some g) :=
 (pK.2.2.2.2.1 _ _ T3 base g k cap i j (flatF es) w (by unfold eB at hO; rw [hn] at hO; exact hO) (pW es) hi hj hn64 hnc hcm).mono fun e w1 h => ⟨h.1, pI flatF iD BU hn (by omega) hj h.2.1, h.2.2⟩
def pX (ps : List Rg) (i : Nat) : Bool := i == 0 || decide ((aJ ps (i - 1)).a < (aJ ps i).a)
def rI (ps : List Rg) : Bool := (List.range ps.length).all (pX ps)
theorem KY (x : Option Addr) (n c : Nat) (ps : List Rg) (bb kk : Nat) (w : World) (hp : RS w x n ps) (hn : n ≤ 64) (hby : w.cell? ⟨bb, 0, none⟩ = some (.func (.func 164) #[] #[])) :
  Calls Tryz.prog 163 #[.slice x n c, .slice (some ⟨bb, 0, none⟩) 1 kk] w fun e w' => e = .returned (.bool (rI ps)) ∧ Below w.heap.size w w' := by
 refine (BM.2.1 (aJ ps) (fun i => decide ((aJ ps i).a < (aJ ps (i + 1)).a)) x n c bb 1 kk w hn (fun i hi => ?_) (fun i hi => ?_)).mono ?_
 ·obtain ⟨b, o, hx, d0, d1, d2⟩ := hp.cells i hi
  exact ⟨b, o, hx, by rintro (_ | _ | _ | q) hq <;> first | assumption | omega⟩
 ·obtain ⟨v, hv, hd⟩ := tU ((aJ ps i).a) ((aJ ps (i + 1)).a)
  exact ⟨v, hd, fun W hW => vL _ _ v hv bb kk W (cell_later hW hby)⟩
 ·rintro e w1 ⟨t, rfl, hb, h⟩
  exact ⟨congrArg (fun t => Ending.returned (.bool t)) ((pM (R := pX ps) rfl (fun _ => rfl) h).trans (by rw [← hp.len]; rfl)), hb⟩
def pY (ps : List Sb) (i : Nat) : Bool := i == 0 || decide ((sbAt ps (i - 1)).id < (sbAt ps i).id)
def mP (ps : List Sb) : Bool := (List.range ps.length).all (pY ps)
theorem KZ (x : Option Addr) (n c : Nat) (ps : List Sb) (bb kk : Nat) (w : World) (hp : SS w x n ps) (hn : n ≤ 64) (hby : w.cell? ⟨bb, 0, none⟩ = some (.func (.func 147) #[] #[])) :
  Calls Tryz.prog 166 #[.slice x n c, .slice (some ⟨bb, 0, none⟩) 1 kk] w fun e w' => e = .returned (.bool (mP ps)) ∧ Below w.heap.size w w' := by
 refine (BM.2.2.1 (sbAt ps) (fun i => decide ((sbAt ps i).id < (sbAt ps (i + 1)).id)) x n c bb 1 kk w hn (fun i hi => ?_) (fun i hi => ?_)).mono ?_
 ·obtain ⟨b, o, hx, d0, d1, d2, d3⟩ := hp.cells i hi
  exact ⟨b, o, hx, by rintro (_ | _ | _ | _ | q) hq <;> first | assumption | omega⟩
 ·obtain ⟨v, hv, hd⟩ := tU ((sbAt ps i).id) ((sbAt ps (i + 1)).id)
  exact ⟨v, hd, fun W hW => vM _ _ v hv bb kk W (cell_later hW hby)⟩
 ·rintro e w1 ⟨t, rfl, hb, h⟩
  exact ⟨congrArg (fun t => Ending.returned (.bool t)) ((pM (R := pY ps) rfl (fun _ => rfl) h).trans (by rw [← hp.len]; rfl)), hb⟩
def iI (ps : List Fc) (i : Nat) : Bool := i == 0 || decide ((fcAt ps (i - 1)).id < (fcAt ps i).id)
def eC (ps : List Fc) : Bool := (List.range ps.length).all (iI ps)
theorem K0 {ps : List Fc} (h : ∀ j, j < ps.length → iI ps j = true) : eC ps = true := by
 unfold eC
 rw [List.all_eq_true]
 intro j hj
 exact h j (by simpa using hj)
theorem K1 (x : Option Addr) (n c : Nat) (ps : List Fc) (bb kk : Nat) (w : World) (hp : tL w x n ps) (hn : n ≤ 64) (hby : w.cell? ⟨bb, 0, none⟩ = some (.func (.func 151) #[] #[])) :
  Calls Tryz.prog 204 #[.slice x n c, .slice (some ⟨bb, 0, none⟩) 1 kk] w fun e w' => e = .returned (.bool (eC ps)) ∧ Below w.heap.size w w' := by
 refine (BM.2.2.2.1 (fcAt ps) (fun i => decide ((fcAt ps i).id < (fcAt ps (i + 1)).id)) x n c bb 1 kk w hn (fun i hi => ?_) (fun i hi => ?_)).mono ?_
 ·obtain ⟨b, o, hx, d0, d1⟩ := hp.cells i hi
  exact ⟨b, o, hx, by rintro (_ | _ | q) hq <;> first | assumption | omega⟩
 ·obtain ⟨v, hv, hd⟩ := tU ((fcAt ps i).id) ((fcAt ps (i + 1)).id)
  exact ⟨v, hd, fun W hW => vN _ _ v hv bb kk W (cell_later hW hby)⟩
 ·rintro e w1 ⟨t, rfl, hb, h⟩
  exact ⟨congrArg (fun t => Ending.returned (.bool t)) ((pM (R := iI ps) rfl (fun _ => rfl) h).trans (by rw [← hp.len]; rfl)), hb⟩
theorem HW (a : Int) (w : World) :
  Calls Tryz.prog 155 #[.int .i64 a] w fun e w' => e = .returned (.int .i64 a) ∧ Below w.heap.size w w' := by
 go_enter Tryz.func155, Tryz.ntmps155
 go_wp2
 go_ret
 exact ⟨rfl, zD⟩
theorem FI (args : Array Value) (W : World) : (callFunc 155 args).run Tryz.prog W = .ok (.enter 155 args) W := by simp [go_sem]
theorem vO (p r v : Int) (hv : D9 p r v) (bb kk : Nat) (w : World) (hby : w.cell? ⟨bb, 0, none⟩ = some (.func (.func 155) #[] #[])) :
  Calls Tryz.prog 195 #[.int .i64 p, .int .i64 r, .slice (some ⟨bb, 0, none⟩) 1 kk] w fun e w' => e = .returned (.int .i64 v) ∧ Below w.heap.size w w' := by
 have hcall := FI
 go_enter Tryz.func195, Tryz.ntmps195
 go_wp2
 go_loopw [12] (fun i wr => ∃ j : Nat, (j = 0 ∨ (j = 1 ∧ v = 0)) ∧ i = .int .i64 j ∧ Below w.heap.size w wr) (fun i _ => 1 - (intOf i).toNat)
 case atStart => exact ⟨0, .inl rfl, rfl, zD⟩
 case round =>
  obtain ⟨j, hj, rfl, hB⟩ := hrel
  rcases hj with rfl | ⟨rfl, hv0⟩
  ·have hz := hB.size
   have e9 : wr.cell? ⟨bb, 0, none⟩ = some (.func (.func 155) #[] #[]) := cell_later hB hby
   go_upto_region 4 with fail
   clear e9
   first | refine aK wr.heap.size (by kernel_rfl) (by kernel_rfl) ?_ | refine rV wr.heap.size ?_
   repeat (go_big_quiet_step (first | (go_at_call 155; exact Calls.in_ws (zE) (HW _ _)) | (go_at_call 159; exact Calls.in_ws_same (xO _ _ _ hv _))))
   refine wpQuiet_nil ?_
   rintro _ ⟨u, rfl⟩
   have hu := hB.trans (u.property.mono hz)
   generalize u.val = wu at hu ⊢
   clear u
   rcases hv with ⟨h, rfl⟩ | ⟨h, rfl⟩ | ⟨h, rfl⟩
   ·go_wp2
    go_ret
    exact ⟨rfl, hu⟩
   ·go_wp2
    go_roundw
    case rel => exact ⟨1, .inr ⟨rfl, trivial⟩, by go_num, hu⟩
    case measure => simp [intOf]
   ·go_wp2
    go_ret
    exact ⟨rfl, hu⟩
  ·subst hv0
   go_wp2
   go_ret
   exact ⟨rfl, hB⟩
def sP (ps : List Int) (i : Nat) : Bool := i == 0 || decide ((bP ps (i - 1)) < (bP ps i))
def lF (ps : List Int) : Bool := (List.range ps.length).all (sP ps)
theorem K2 (x : Option Addr) (n c : Nat) (ps : List Int) (bb kk : Nat) (w : World) (hp : IS w x n ps) (hn : n ≤ 64) (hby : w.cell? ⟨bb, 0, none⟩ = some (.func (.func 155) #[] #[])) :
  Calls Tryz.prog 220 #[.slice x n c, .slice (some ⟨bb, 0, none⟩) 1 kk] w fun e w' => e = .returned (.bool (lF ps)) ∧ Below w.heap.size w w' := by
 refine (BM.2.2.2.2.1 (bP ps) (fun i => decide (bP ps i < bP ps (i + 1))) x n c bb 1 kk w hn (fun i hi => ?_) (fun i hi => ?_)).mono ?_
 ·obtain ⟨b, o, hx, d0⟩ := hp.cells i hi
  exact ⟨b, o, hx, fun q hq => by obtain rfl : q = 0 := (by omega); rw [Nat.mul_one]; exact d0⟩
 ·obtain ⟨v, hv, hd⟩ := tU (bP ps i) (bP ps (i + 1))
  exact ⟨v, hd, fun W hW => vO _ _ v hv bb kk W (cell_later hW hby)⟩
 ·rintro e w1 ⟨t, rfl, hb, h⟩
  exact ⟨congrArg (fun t => Ending.returned (.bool t)) ((pM (R := sP ps) rfl (fun _ => rfl) h).trans (by rw [← hp.len]; rfl)), hb⟩
theorem ON (a l : Int) (t : Int) (h : chk a l = t) (w : World) : Calls Tryz.prog 35 #[.agg #[.int .i64 a, .int .i64 l]] w fun e w' => e = .returned (.int .i64 t) ∧ Below w.heap.size w w' := by
 subst h
 exact check_any a l w
def BV (r : Rg) : Bool := rt r.a r.l && dE r.p 1 65536
theorem yM (r : Rg) (w : World) :
  Calls Tryz.prog 161 #[.agg #[.int .i64 r.a, .int .i64 r.l, .int .i64 r.p]] w fun e w' => e = .returned (.bool (BV r)) ∧ Below w.heap.size w w' := by
 by_cases h : chk r.a r.l = 0
 ·have hr : BV r = dE r.p 1 65536 := by unfold BV rt; rw [h]; simp
  rw [hr]
  go_enter Tryz.func161, Tryz.ntmps161
  go_wp2_with fail
  refine (ON _ _ _ h _).mono ?_
  rintro e w1 ⟨rfl, hb1⟩
  have c2 : w1.cell? ⟨w.heap.size, 2, none⟩ = some (.int .i64 r.p) := cell_later hb1 (by simp)
  go_wp2_with (go_at_call 70; refine (isId_any _ _).mono ?_; rintro e w2 ⟨rfl, rfl⟩)
  go_ret
  exact ⟨rfl, (bl1 w _).trans (hb1.mono (by simp))⟩
 ·have hr : BV r = false := by unfold BV rt; simp [h]
  have h2 : (chk r.a r.l == 0) = false := by simpa using h
  rw [hr]
  go_enter Tryz.func161, Tryz.ntmps161
  go_wp2_with (go_at_call 35; refine (check_any _ _ _).mono ?_; rintro e w1 ⟨rfl, hb1⟩)
  go_ret
  exact ⟨rfl, (bl1 w _).trans (hb1.mono (by simp))⟩
theorem iJ (r : Rg) (t : Bool) (h : BV r = t) (w : World) :
  Calls Tryz.prog 161 #[.agg #[.int .i64 r.a, .int .i64 r.l, .int .i64 r.p]] w fun e w' => e = .returned (.bool t) ∧ Below w.heap.size w w' := by
 subst h
 exact yM r w
def DD (rs : List Rg) (c m : Int) (i : Nat) : Bool := fK (aJ rs i).a (aJ rs i).l c m
theorem wJ (c m : Int) (p : Rg) (b : Nat) (w : World) (h0 : w.cell? ⟨b, 0, none⟩ = some (.int .i64 c)) (h1 : w.cell? ⟨b, 1, none⟩ = some (.int .i64 m)) :
  Calls Tryz.prog 201 #[.agg #[.int .i64 p.a, .int .i64 p.l, .int .i64 p.p], .pointer (some ⟨b, 0, none⟩)] w fun e w' => e = .returned (.bool (fK p.a p.l c m)) ∧ Below w.heap.size w w' := by
 have k0 : ∀ q, (w.alloc q).cell? ⟨b, 0, none⟩ = some (.int .i64 c) := fun q => cell_later (bl1 w q) h0
 have k1 : ∀ q, (w.alloc q).cell? ⟨b, 1, none⟩ = some (.int .i64 m) := fun q => cell_later (bl1 w q) h1
 go_enter Tryz.func201, Tryz.ntmps201
 go_wp2_with (go_at_call 15; refine (meets_any _ _ _ _ _).mono ?_; rintro e w1 ⟨rfl, hb1⟩)
 go_ret
 exact ⟨rfl, (bl1 w _).trans (hb1.mono (by simp))⟩
theorem uJ (args : Array Value) (W : World) : (callFunc 201 args).run Tryz.prog W = .ok (.enter 201 args) W := by simp [go_sem]
theorem AX (c m : Int) (b n : Nat) (rs : List Rg) (w : World) (h0 : w.cell? ⟨b, 0, none⟩ = some (.int .i64 c)) (h1 : w.cell? ⟨b, 1, none⟩ = some (.int .i64 m)) :
  yL 201 #[.pointer (some ⟨b, 0, none⟩)] n rs (DD rs c m) w := fun i _ W hW => wJ c m (aJ rs i) b W (cell_later hW h0) (cell_later hW h1)
theorem oN (c m : Int) (x : Option Addr) (n k : Nat) (rs : List Rg) (w : World) (hp : RS w x n rs) (hn : n ≤ 64) :
  Calls Tryz.prog 162 #[.slice x n k, .agg #[.int .i64 c, .int .i64 m]] w fun e w' => e = .returned (.bool (aL n (DD rs c m))) ∧ Below w.heap.size w w' := by
 go_enter Tryz.func162, Tryz.ntmps162
 go_wp2_with fail
 refine (dV 201 _ x n k rs _ _ (hp.later (bl1 w _)) (by omega) (AX c m w.heap.size n rs _ (by simp) (by simp)) uJ).mono ?_
 rintro e w1 ⟨rfl, hb1⟩
 go_wp2
 go_ret
 exact ⟨rfl, (bl1 w _).trans (hb1.mono (by simp))⟩
def xB (ss : List Sb) (c m : Int) (i : Nat) : Bool := fK (sbAt ss i).a (sbAt ss i).l c m
theorem AY (c m : Int) (p : Sb) (b : Nat) (w : World) (h0 : w.cell? ⟨b, 0, none⟩ = some (.int .i64 c)) (h1 : w.cell? ⟨b, 1, none⟩ = some (.int .i64 m)) :
  Calls Tryz.prog 183 #[.agg #[.int .i64 p.id, .int .i64 p.a, .int .i64 p.l, .slice p.x p.n p.c], .pointer (some ⟨b, 0, none⟩)] w fun e w' => e = .returned (.bool (fK p.a p.l c m)) ∧ Below w.heap.size w w' := by
 have k0 : ∀ q, (w.alloc q).cell? ⟨b, 0, none⟩ = some (.int .i64 c) := fun q => cell_later (bl1 w q) h0
 have k1 : ∀ q, (w.alloc q).cell? ⟨b, 1, none⟩ = some (.int .i64 m) := fun q => cell_later (bl1 w q) h1
 go_enter Tryz.func183, Tryz.ntmps183
 go_wp2_with (go_at_call 15; refine (meets_any _ _ _ _ _).mono ?_; rintro e w1 ⟨rfl, hb1⟩)
 go_ret
 exact ⟨rfl, (bl1 w _).trans (hb1.mono (by simp))⟩
theorem yN (args : Array Value) (W : World) : (callFunc 183 args).run Tryz.prog W = .ok (.enter 183 args) W := by simp [go_sem]
theorem FJ (c m : Int) (b n : Nat) (ss : List Sb) (w : World) (h0 : w.cell? ⟨b, 0, none⟩ = some (.int .i64 c)) (h1 : w.cell? ⟨b, 1, none⟩ = some (.int .i64 m)) :
  uH 183 #[.pointer (some ⟨b, 0, none⟩)] n ss (xB ss c m) w := fun i _ W hW => AY c m (sbAt ss i) b W (cell_later hW h0) (cell_later hW h1)
theorem sQ (c m : Int) (x : Option Addr) (n k : Nat) (ss : List Sb) (w : World) (hp : SS w x n ss) (hn : n ≤ 64) :
  Calls Tryz.prog 145 #[.slice x n k, .agg #[.int .i64 c, .int .i64 m]] w fun e w' => e = .returned (.bool (aL n (xB ss c m))) ∧ Below w.heap.size w w' := by
 go_enter Tryz.func145, Tryz.ntmps145
 go_wp2_with fail
 refine (fQ 183 _ x n k ss _ _ (hp.later (bl1 w _)) (by omega) (FJ c m w.heap.size n ss _ (by simp) (by simp)) yN).mono ?_
 rintro e w1 ⟨rfl, hb1⟩
 go_wp2
 go_ret
 exact ⟨rfl, (bl1 w _).trans (hb1.mono (by simp))⟩
def T4 (rs : List Rg) (c m : Int) (i : Nat) : Bool := jA c m (aJ rs i).a (aJ rs i).l
def kU (n : Nat) (rs : List Rg) (id c m : Int) : Bool := dE id 1 65536 && aL n (T4 rs c m)
theorem AZ (c m : Int) (p : Rg) (b : Nat) (w : World) (h0 : w.cell? ⟨b, 0, none⟩ = some (.int .i64 c)) (h1 : w.cell? ⟨b, 1, none⟩ = some (.int .i64 m)) :
  Calls Tryz.prog 181 #[.agg #[.int .i64 p.a, .int .i64 p.l, .int .i64 p.p], .pointer (some ⟨b, 0, none⟩)] w fun e w' => e = .returned (.bool (jA c m p.a p.l)) ∧ Below w.heap.size w w' := by
 have k0 : ∀ q, (w.alloc q).cell? ⟨b, 0, none⟩ = some (.int .i64 c) := fun q => cell_later (bl1 w q) h0
 have k1 : ∀ q, (w.alloc q).cell? ⟨b, 1, none⟩ = some (.int .i64 m) := fun q => cell_later (bl1 w q) h1
 go_enter Tryz.func181, Tryz.ntmps181
 go_wp2_with (go_at_call 26; refine (inside_any _ _ _ _ _).mono ?_; rintro e w1 ⟨rfl, hb1⟩)
 go_ret
 exact ⟨rfl, (bl1 w _).trans (hb1.mono (by simp))⟩
theorem yO (args : Array Value) (W : World) : (callFunc 181 args).run Tryz.prog W = .ok (.enter 181 args) W := by simp [go_sem]
theorem FK (c m : Int) (b n : Nat) (rs : List Rg) (w : World) (h0 : w.cell? ⟨b, 0, none⟩ = some (.int .i64 c)) (h1 : w.cell? ⟨b, 1, none⟩ = some (.int .i64 m)) :
  yL 181 #[.pointer (some ⟨b, 0, none⟩)] n rs (T4 rs c m) w := fun i _ W hW => AZ c m (aJ rs i) b W (cell_later hW h0) (cell_later hW h1)
theorem DE (vid id c m : Int) (rx sx : Option Addr) (rn rc sn sc : Nat) (rs : List Rg) (w : World) (hp : RS w rx rn rs) (hn : rn ≤ 64) :
  Calls Tryz.prog 143 #[.agg #[.int .i64 vid, .slice rx rn rc, .slice sx sn sc], .int .i64 id, .agg #[.int .i64 c, .int .i64 m]] w fun e w' => e = .returned (.bool (kU rn rs id c m)) ∧ Below w.heap.size w w' := by
 unfold kU
 cases hw : dE id 1 65536
 ·go_enter Tryz.func143, Tryz.ntmps143
  go_wp2_with (go_at_call 70; refine (isId_is _ _ hw _).mono ?_; rintro e w1 ⟨rfl, rfl⟩)
  go_ret
  exact ⟨rfl, cC w _ _⟩
 ·go_enter Tryz.func143, Tryz.ntmps143
  go_wp2_with fail
  refine (isId_is _ _ hw _).mono ?_
  rintro e w1 ⟨rfl, rfl⟩
  go_wp2_with fail
  refine (dV 181 _ rx rn rc rs _ _ (hp.later (cC w _ _)) (by omega) (FK c m (w.heap.size + 1) rn rs _ (by simp) (by simp)) yO).mono ?_
  rintro e w1 ⟨rfl, hb1⟩
  go_wp2
  go_ret
  exact ⟨by simp, (cC w _ _).trans (hb1.mono (by simp; omega))⟩
theorem lA (vid id c m : Int) (rx sx : Option Addr) (rn rc sn sc : Nat) (rs : List Rg) (t : Bool) (h : kU rn rs id c m = t) (w : World) (hp : RS w rx rn rs) (hn : rn ≤ 64) :
  Calls Tryz.prog 143 #[.agg #[.int .i64 vid, .slice rx rn rc, .slice sx sn sc], .int .i64 id, .agg #[.int .i64 c, .int .i64 m]] w fun e w' => e = .returned (.bool t) ∧ Below w.heap.size w w' := by
 subst h
 exact DE vid id c m rx sx rn rc sn sc rs w hp hn
theorem sR (f : Fc) (w : World) (hf : f.n ≤ 9223372036854775807) :
  Calls Tryz.prog 200 #[.agg #[.int .i64 f.id, .slice f.x f.n f.c]] w fun e w' => e = .returned (.bool (decide (4 < f.n))) ∧ Below w.heap.size w w' := by
 by_cases h : 4 < f.n
 all_goals go_enter Tryz.func200, Tryz.ntmps200
 all_goals go_wp2
 all_goals go_ret
 all_goals exact ⟨aM (by simp [h]; try omega), bl1 w _⟩
theorem rJ (args : Array Value) (W : World) : (callFunc 200 args).run Tryz.prog W = .ok (.enter 200 args) W := by simp [go_sem]
def eD (s : Sb) : Bool := decide (8 < s.n) || aL s.n fun i => decide (4 < (fcAt s.fs i).n)
theorem uL (s : Sb) (w : World) (hs : s.n ≤ 9223372036854775807) (hp : tL w s.x s.n s.fs) :
  Calls Tryz.prog 160 #[.agg #[.int .i64 s.id, .int .i64 s.a, .int .i64 s.l, .slice s.x s.n s.c]] w fun e w' => e = .returned (.bool (eD s)) ∧ Below w.heap.size w w' := by
 by_cases h : 8 < s.n
 ·have hr : eD s = true := by unfold eD; simp [h]
  have hd : (decide ((s.n : Int) > 8)) = true := by simp; omega
  rw [hr]
  go_enter Tryz.func160, Tryz.ntmps160
  go_wp2
  go_ret
  exact ⟨rfl, bl1 w _⟩
 ·have hr : eD s = aL s.n fun i => decide (4 < (fcAt s.fs i).n) := by unfold eD; simp [h]
  have hd : (decide ((s.n : Int) > 8)) = false := by simp; omega
  rw [hr]
  have hF : ∀ W, HO 200 #[] s.n s.fs (fun i => decide (4 < (fcAt s.fs i).n)) W := fun W i hi V _ => sR (fcAt s.fs i) V (hp.addrs i hi).2.1
  go_enter Tryz.func160, Tryz.ntmps160
  go_wp2_with fail
  refine (rG 200 #[] s.x s.n s.c s.fs _ _ (hp.later (bl1 w _)) (by omega) (hF _) rJ).mono ?_
  rintro e w1 ⟨rfl, hb1⟩
  go_wp2
  go_ret
  exact ⟨rfl, (bl1 w _).trans (hb1.mono (by simp))⟩
theorem sS (args : Array Value) (W : World) : (callFunc 160 args).run Tryz.prog W = .ok (.enter 160 args) W := by simp [go_sem]
def cT (rn sn : Nat) (ss : List Sb) : Bool := decide (4 < rn) || decide (6 < sn) || aL sn fun i => eD (sbAt ss i)
theorem FL (vid : Int) (rx sx : Option Addr) (rn rc sn sc : Nat) (ss : List Sb) (w : World) (hr63 : rn ≤ 9223372036854775807) (hp : SS w sx sn ss) (hs : sn ≤ 9223372036854775807) :
  Calls Tryz.prog 111 #[.agg #[.int .i64 vid, .slice rx rn rc, .slice sx sn sc]] w fun e w' => e = .returned (.bool (cT rn sn ss)) ∧ Below w.heap.size w w' := by
 by_cases h : 4 < rn
 ·have hr : cT rn sn ss = true := by unfold cT; simp [h]
  have hd : (decide ((rn : Int) > 4)) = true := by simp; omega
  rw [hr]
  go_enter Tryz.func111, Tryz.ntmps111
  go_wp2
  go_ret
  exact ⟨rfl, bl1 w _⟩
 ·have hd : (decide ((rn : Int) > 4)) = false := by simp; omega
  by_cases h2 : 6 < sn
  ·have hr : cT rn sn ss = true := by unfold cT; simp [h2]
   have hd2 : (decide ((sn : Int) > 6)) = true := by simp; omega
   rw [hr]
   go_enter Tryz.func111, Tryz.ntmps111
   go_wp2
   go_ret
   exact ⟨rfl, bl1 w _⟩
  ·have hd2 : (decide ((sn : Int) > 6)) = false := by simp; omega
   have hr : cT rn sn ss = aL sn fun i => eD (sbAt ss i) := by unfold cT; simp [h, h2]
   have hF : uH 160 #[] sn ss (fun i => eD (sbAt ss i)) w := fun i hi V hV => uL (sbAt ss i) V (hp.faces i hi).2.1 ((hp.faces i hi).2.2.later hV)
   rw [hr]
   have hF2 : ∀ q, uH 160 #[] sn ss (fun i => eD (sbAt ss i)) (w.alloc q) := fun q i hi V hV => hF i hi V ((bl1 w q).trans (hV.mono (by simp)))
   go_enter Tryz.func111, Tryz.ntmps111
   go_wp2_with fail
   refine (fQ 160 #[] sx sn sc ss _ _ (hp.later (bl1 w _)) (by omega) (hF2 _) sS).mono ?_
   rintro e w1 ⟨rfl, hb1⟩
   go_wp2
   go_ret
   exact ⟨rfl, (bl1 w _).trans (hb1.mono (by simp))⟩
def qN (a l x : Int) : Bool := decide (a < x) && decide (x < a + sp l - 1)
theorem yP (h0 : 0 ≤ l) (h1 : l ≤ 16) : 1 ≤ sp l ∧ sp l ≤ 65536 := by
 have h : l = 0 ∨ l = 1 ∨ l = 2 ∨ l = 3 ∨ l = 4 ∨ l = 5 ∨ l = 6 ∨ l = 7 ∨ l = 8 ∨ l = 9 ∨ l = 10 ∨ l = 11 ∨ l = 12 ∨ l = 13 ∨ l = 14 ∨ l = 15 ∨ l = 16 := by omega
 rcases h with rfl | rfl | rfl | rfl | rfl | rfl | rfl | rfl | rfl | rfl | rfl | rfl | rfl | rfl | rfl | rfl | rfl <;> decide
theorem RC (a l : Int) (h : rt a l = true) (w : World) :
  Calls Tryz.prog 225 #[.agg #[.int .i64 a, .int .i64 l]] w fun e w' => e = .returned (.int .i64 (sp l)) ∧ Below w.heap.size w w' := by
 have := MY a l w
 rw [h] at this
 exact this
theorem usable_any (a l x : Int) (w : World) (h : rt a l = true) :
  Calls Tryz.prog 218 #[.agg #[.int .i64 a, .int .i64 l], .int .i64 x] w fun e w' => e = .returned (.bool (qN a l x)) ∧ Below w.heap.size w w' := by
 obtain ⟨h0, h1, h2, h3, -⟩ := bO h
 obtain ⟨s0, s1⟩ := yP h0 h1
 unfold qN
 go_enter Tryz.func218, Tryz.ntmps218
 have g0 := Ws.here (w := w.alloc (.cells #[.int .i64 a, .int .i64 l] 49)) (b := w.heap.size) (o := 0) (v := .int .i64 a) (by simp)
 have g1 := Ws.here (w := w.alloc (.cells #[.int .i64 a, .int .i64 l] 49)) (b := w.heap.size) (o := 1) (v := .int .i64 l) (by simp)
 go_upto_region 1 with fail
 have hB := bl1 w (.cells #[.int .i64 a, .int .i64 l] 49)
 generalize w.alloc (.cells #[.int .i64 a, .int .i64 l] 49) = w1 at *
 cases hlt : decide (a < x)
 all_goals refine aK w1.heap.size (by kernel_rfl) (by kernel_rfl) ?_
 all_goals repeat (go_big_quiet_step ((go_at_call 225; exact Calls.in_ws (zE) (RC _ _ h _))))
 all_goals refine wpQuiet_nil ?_
 all_goals rintro _ ⟨u, rfl⟩
 all_goals have hu := hB.trans (u.property.mono hB.size)
 all_goals generalize u.val = wu at hu ⊢
 all_goals clear u g0 g1
 all_goals go_wp2
 all_goals go_ret
 ·exact ⟨aM (by rw [hlt]; rfl), hu⟩
 ·exact ⟨aM (by rw [hlt]; simp), hu⟩
theorem BW (h : j < i) : aJ (rs.take i) j = aJ rs j := by
 unfold aJ
 rw [zF, zF, List.getElem?_take_of_lt h]
theorem uM (h : j < i) : sbAt (ss.take i) j = sbAt ss j := by
 unfold sbAt
 rw [zF, zF, List.getElem?_take_of_lt h]
theorem RS.take (h : RS w x n rs) (hi : i ≤ n) : RS w x i (rs.take i) where
 len := by rw [List.length_take, h.len]; omega
 cells := fun j hj => by rw [BW hj]; exact h.cells j (by omega)
theorem SS.take (h : SS w x n ss) (hi : i ≤ n) : SS w x i (ss.take i) where
 len := by rw [List.length_take, h.len]; omega
 cells := fun j hj => by rw [uM hj]; exact h.cells j (by omega)
 faces := fun j hj => by rw [uM hj]; exact h.faces j (by omega)
theorem iK (hk : k < n) (h : f k = false) : (List.range n).all f = false := by
 rw [List.all_eq_false]
 exact ⟨k, by simpa using hk, by simp [h]⟩
theorem oO (h : ∀ j, j < n → f j = true) : (List.range n).all f = true := by
 rw [List.all_eq_true]
 intro j hj
 exact h j (by simpa using hj)
theorem A0 (rs : List Rg) (i : Nat) (x : Option Addr) (n k : Nat) (w : World) (t : Bool) (hp : RS w x n rs) (hi : i ≤ n) (hn : n ≤ 64) (c m : Int) (h : aL i (DD rs c m) = t) :
  Calls Tryz.prog 162 #[.slice x i k, .agg #[.int .i64 c, .int .i64 m]] w fun e w' => e = .returned (.bool t) ∧ Below w.heap.size w w' := by
 have hm := oN c m x i k (rs.take i) w (hp.take hi) (by omega)
 rw [tY (f := DD (rs.take i) c m) (g := DD rs c m) (fun j hj => by unfold DD; rw [BW hj]), h] at hm
 exact hm
theorem vP (ss : List Sb) (i : Nat) (x : Option Addr) (n k : Nat) (w : World) (t : Bool) (hp : SS w x n ss) (hi : i ≤ n) (hn : n ≤ 64) (c m : Int) (h : aL i (xB ss c m) = t) :
  Calls Tryz.prog 145 #[.slice x i k, .agg #[.int .i64 c, .int .i64 m]] w fun e w' => e = .returned (.bool t) ∧ Below w.heap.size w w' := by
 have hm := sQ c m x i k (ss.take i) w (hp.take hi) (by omega)
 rw [tY (f := xB (ss.take i) c m) (g := xB ss c m) (fun j hj => by unfold xB; rw [uM hj]), h] at hm
 exact hm
abbrev xC (p : Rg) : Obj := .cells #[.int .i64 p.a, .int .i64 p.l, .int .i64 p.p] 51
def sT (rs : List Rg) (i : Nat) : Bool := BV (aJ rs i) && !aL i (DD rs (aJ rs i).a (aJ rs i).l)
def nO (n : Nat) (rs : List Rg) : Bool := (List.range n).all (sT rs) && rI rs
theorem wK (x : Option Addr) (n c : Nat) (rs : List Rg) (w : World) (hp : RS w x n rs) (hn : n ≤ 64) (hnc : n ≤ c) (hc63 : c ≤ 9223372036854775807) :
  Calls Tryz.prog 112 #[.slice x n c] w fun e w' => e = .returned (.bool (nO n rs)) ∧ Below w.heap.size w w' := by
 have hbd : Hid (nO n rs = ((List.range n).all (sT rs) && rI rs)) := rfl
 go_enter Tryz.func112, Tryz.ntmps112
 go_wp2
 go_loopw [7] (fun i wr => ∃ k : Nat, k ≤ n ∧ i = .int .i64 k ∧ Below w.heap.size w wr ∧ (∀ j, j < k → sT rs j = true)) (fun i _ => n - (intOf i).toNat)
 case atStart => exact ⟨0, by omega, rfl, zD, fun j hj => by omega⟩
 case round =>
  obtain ⟨k, hk, rfl, hB, hok⟩ := hrel
  by_cases hlt : k < n
  ·have hpr := hp.later hB
   obtain ⟨b, o, rfl, c0, c1, c2⟩ := hpr.cells k hlt
   have hlt' := hlt
   have hta : Hid (sT rs k = (BV (aJ rs k) && !aL k (DD rs (aJ rs k).a (aJ rs k).l))) := rfl
   go_upto_region 4 with fail
   obtain ⟨w2, hw2⟩ : ∃ w2, w2 = wr.alloc (xC (aJ rs k)) := ⟨_, rfl⟩
   rw [← hw2]
   have h02 : Below wr.heap.size wr w2 := by rw [hw2]; exact bl1 wr _
   have hbox : w2.heap[wr.heap.size]? = some (xC (aJ rs k)) := by rw [hw2]; exact aB _ rfl
   clear hw2 c0 c1 c2
   have hp2 := hpr.later h02
   obtain ⟨hcl, -⟩ := aE hbox
   have g0 := Ws.here (v := .int .i64 (aJ rs k).a) (hcl 0)
   have g1 := Ws.here (v := .int .i64 (aJ rs k).l) (hcl 1)
   have g2 := Ws.here (v := .int .i64 (aJ rs k).p) (hcl 2)
   clear hcl
   cases hu : BV (aJ rs k)
   ·refine aK w2.heap.size (by kernel_rfl) (by kernel_rfl) ?_
    repeat (go_big_quiet_step ((go_at_call 161; exact Calls.in_ws (zE) (iJ _ _ hu _))))
    refine wpQuiet_nil ?_
    rintro _ ⟨u, rfl⟩
    have hB2 := hB.trans (h02.mono hB.size)
    have hu2 := hB2.trans (u.property.mono hB2.size)
    generalize u.val = wu at hu2 ⊢
    clear u g0 g1 g2
    go_wp2
    go_ret
    exact ⟨aM (by rw [hbd.out, iK hlt' (by rw [hta.out, hu]; rfl)]; rfl), hu2⟩
   ·cases ha : aL k (DD rs (aJ rs k).a (aJ rs k).l)
    all_goals refine aK w2.heap.size (by kernel_rfl) (by kernel_rfl) ?_
    all_goals repeat (go_big_quiet_step (first | (go_at_call 161; exact Calls.in_ws (zE) (iJ _ _ hu _)) | (go_at_call 162; exact Calls.in_ws (zE) (A0 rs k _ n _ _ _ (hp2.later (Ws.property _)) (by omega) hn _ _ ha))))
    all_goals refine wpQuiet_nil ?_
    all_goals rintro _ ⟨u, rfl⟩
    all_goals have hB2 := hB.trans (h02.mono hB.size)
    all_goals have hu2 := hB2.trans (u.property.mono hB2.size)
    all_goals generalize u.val = wu at hu2 ⊢
    all_goals clear u g0 g1 g2
    ·go_wp2
     go_roundw
     case rel => exact ⟨k + 1, hlt', by go_num, hu2, fun j hj => by
      by_cases hj2 : j < k
      ·exact hok j hj2
      ·obtain rfl : j = k := by omega
       rw [hta.out, hu, ha]; rfl⟩
     case measure => simp [intOf]; omega
    ·go_wp2
     go_ret
     exact ⟨aM (by rw [hbd.out, iK hlt' (by rw [hta.out, hu, ha]; rfl)]; rfl), hu2⟩
  ·obtain rfl : k = n := by omega
   go_wp2_with fail
   refine (KY x k c rs wr.heap.size 1 _ ((hp.later hB).later (bl1 wr _)) hn (by simp)).mono ?_
   rintro e w1 ⟨rfl, hb1⟩
   go_wp2
   go_ret
   exact ⟨aM (by rw [hbd.out, oO hok]; rfl), hB.trans (((bl1 wr _).trans (hb1.mono (by simp))).mono hB.size)⟩
theorem rangesRight_is (x : Option Addr) (n c : Nat) (rs : List Rg) (t : Bool) (h : nO n rs = t) (w : World) (hp : RS w x n rs) (hn : n ≤ 64) (hnc : n ≤ c) (hc63 : c ≤ 9223372036854775807) :
  Calls Tryz.prog 112 #[.slice x n c] w fun e w' => e = .returned (.bool t) ∧ Below w.heap.size w w' := by
 subst h
 exact wK x n c rs w hp hn hnc hc63
def HX (a l : Int) (n : Nat) (ns : List Int) : Bool := lF ns && !aL n fun i => !qN a l (bP ns i)
theorem wL (a l x : Int) (b : Nat) (w : World) (hr : rt a l = true) (h0 : w.cell? ⟨b, 0, none⟩ = some (.int .i64 a)) (h1 : w.cell? ⟨b, 1, none⟩ = some (.int .i64 l)) :
  Calls Tryz.prog 222 #[.int .i64 x, .pointer (some ⟨b, 0, none⟩)] w fun e w' => e = .returned (.bool (!qN a l x)) ∧ Below w.heap.size w w' := by
 go_enter Tryz.func222, Tryz.ntmps222
 go_wp2_with (go_at_call 218; refine (usable_any _ _ _ _ hr).mono ?_; rintro e w1 ⟨rfl, hb1⟩)
 go_ret
 exact ⟨rfl, hb1⟩
theorem uN (args : Array Value) (W : World) : (callFunc 222 args).run Tryz.prog W = .ok (.enter 222 args) W := by simp [go_sem]
theorem A1 (a l : Int) (hr : rt a l = true) (b n : Nat) (ns : List Int) (w : World) (h0 : w.cell? ⟨b, 0, none⟩ = some (.int .i64 a)) (h1 : w.cell? ⟨b, 1, none⟩ = some (.int .i64 l)) :
  HP 222 #[.pointer (some ⟨b, 0, none⟩)] n ns (fun i => !qN a l (bP ns i)) w := fun i _ W hW => wL a l (bP ns i) b W hr (cell_later hW h0) (cell_later hW h1)
theorem yQ (a l : Int) (x : Option Addr) (n c : Nat) (ns : List Int) (w : World) (hr : rt a l = true) (hp : IS w x n ns) (hn : n ≤ 64) :
  Calls Tryz.prog 203 #[.agg #[.int .i64 a, .int .i64 l], .slice x n c] w fun e w' => e = .returned (.bool (HX a l n ns)) ∧ Below w.heap.size w w' := by
 have hbd : Hid (HX a l n ns = (lF ns && !aL n fun i => !qN a l (bP ns i))) := rfl
 go_enter Tryz.func203, Tryz.ntmps203
 go_wp2_with fail
 refine (K2 x n c ns (w.heap.size + 1) 1 _ (hp.later (cC w _ _)) hn (by simp)).mono ?_
 rintro e w1 ⟨rfl, hb1⟩
 have hB := (cC w _ _).trans (hb1.mono (by simp; omega))
 have c0 : w1.cell? ⟨w.heap.size, 0, none⟩ = some (.int .i64 a) := cell_later hb1 (by simp)
 have c1 : w1.cell? ⟨w.heap.size, 1, none⟩ = some (.int .i64 l) := cell_later hb1 (by simp)
 clear hb1
 cases hri : lF ns
 ·go_wp2
  go_ret
  exact ⟨aM (by rw [hbd.out, hri]; rfl), hB⟩
 ·go_wp2_with fail
  refine (rH 222 _ x n c ns _ _ (hp.later hB) (by omega) (A1 a l hr w.heap.size n ns _ c0 c1) uN).mono ?_
  rintro e w2 ⟨rfl, hb2⟩
  go_wp2
  go_ret
  exact ⟨aM (by rw [hbd.out, hri]; simp), hB.trans (hb2.mono hB.size)⟩
theorem qO (a l : Int) (x : Option Addr) (n c : Nat) (ns : List Int) (t : Bool) (h : HX a l n ns = t) (w : World) (hr : rt a l = true) (hp : IS w x n ns) (hn : n ≤ 64) :
  Calls Tryz.prog 203 #[.agg #[.int .i64 a, .int .i64 l], .slice x n c] w fun e w' => e = .returned (.bool t) ∧ Below w.heap.size w w' := by
 subst h
 exact yQ a l x n c ns w hr hp hn
open Go.RowKit Go.Shelf Go.Maps
theorem key_law : Keyed Tryz.prog 3 := int_keyed under_int
theorem zero_int (w : World) : (zeroValue 3).run Tryz.prog w = .ok (.int .i64 0) w := by kernel_rfl
theorem under_uses : Tryz.prog.underlying 254 = some (.map 3 3) := by kernel_rfl
structure kC (D : DataW Unit) (L : List Int) : Prop where
 isMap : IsMap D
 at_ : ∀ a : Int, D.atKey (.int .i64 a) (.lit (.int .i64 0)) = .lit (.int .i64 (L.count a))
 has_ : ∀ a : Int, has D (.int .i64 a) = decide (a ∈ L)
theorem kC.empty : kC (.map []) [] := ⟨isMap_empty, fun _ => rfl, fun _ => rfl⟩
theorem kC.put {D : DataW Unit} (h : kC D L) (a : Int) : kC (D.put (.int .i64 a) (.lit (.int .i64 ((L.count a : Nat) + 1)))) (L ++ [a]) where
 isMap := h.isMap.put _ _
 at_ := fun b => by
  by_cases e : b = a
  ·subst e
   rw [atKey_put_same h.isMap (by trivial), List.count_append]
   simp
  ·rw [atKey_put_other (by intro e2; exact e (by cases e2; rfl)), h.at_ b, List.count_append]
   simp [Ne.symm e]
 has_ := fun b => by
  by_cases e : b = a
  ·subst e
   rw [has_put_same h.isMap (by trivial)]
   simp
  ·rw [has_put_other (by intro e2; exact e (by cases e2; rfl)), h.has_ b]
   simp [e]
def aN (fs : List Fc) : List Int := fs.flatMap (·.ns)
theorem sU (h : i < fs.length) : fcAt fs i = fs[i] := by simp [fcAt, List.getD_eq_getElem?_getD, h]
theorem HZ (h : k < fs.length) : aN (fs.take (k + 1)) = aN (fs.take k) ++ (fcAt fs k).ns := by
 unfold aN
 rw [List.take_add_one, List.getElem?_eq_getElem h, sU h, Option.toList_some, List.flatMap_append]
 simp only [List.flatMap_cons, List.flatMap_nil, List.append_nil]
theorem FM (h : i < ns.length) : bP ns i = ns[i] := by simp [bP, List.getD_eq_getElem?_getD, h]
theorem RD (h : k < ns.length) : ns.take (k + 1) = ns.take k ++ [bP ns k] := by
 rw [List.take_add_one, List.getElem?_eq_getElem h, FM h, Option.toList_some]
theorem gI (h0 : 0 ≤ a) (h1 : a ≤ 1000000) : (Lit.int .i64 a).wf = true := by
 have e1 : IntKind.i64.min = -9223372036854775808 := by decide
 have e2 : IntKind.i64.max = 9223372036854775807 := by decide
 simp only [Lit.wf, e1, e2, zH, decide_eq_true_eq]
 omega
abbrev T5 (p : Sb) : Obj := .cells #[.int .i64 p.id, .int .i64 p.a, .int .i64 p.l, .slice p.x p.n p.c] 78
theorem yR (id a l : Int) (x : Option Addr) (n c : Nat) (fs : List Fc) (w : World) (hp : tL w x n fs) (hn : n ≤ 64) (hm : ∀ i, i < n → (fcAt fs i).n ≤ 64)
  (hr : ∀ i, i < n → ∀ j, j < (fcAt fs i).n → 0 ≤ bP (fcAt fs i).ns j ∧ bP (fcAt fs i).ns j ≤ 1000000) :
  Calls Tryz.prog 205 #[.agg #[.int .i64 id, .int .i64 a, .int .i64 l, .slice x n c]] w fun e w' => ∃ bm D, e = .returned (.map (some bm)) ∧ w.heap.size ≤ bm ∧ w'.ownsMap Tryz.prog 3 (plainElem Tryz.prog 3) bm (aN fs).length D ∧ kC D (aN fs) ∧ Below w.heap.size w w' := by
 have hmm := @run_makeMap Tryz.prog
 have hfl : Hid (fs.length = n) := hp.len
 go_enter Tryz.func205, Tryz.ntmps205
 go_wp2
 go_loopw [12] (fun i wr => ∃ (k : Nat) (D : DataW Unit), k ≤ n ∧ i = .int .i64 k ∧ Below w.heap.size w wr ∧ wr.ownsMap Tryz.prog 3 (plainElem Tryz.prog 3) (w.heap.size + 1) (aN (fs.take k)).length D ∧ kC D (aN (fs.take k)) ∧ (aN (fs.take k)).length ≤ k * 64) (fun i _ => n - (intOf i).toNat)
 case atStart =>
  refine ⟨0, .map [], by omega, rfl, ?_, ?_, ?_, ?_⟩
  ·exact cC w _ _
  ·have := World.ownsMap_made (H := Unit) (w.alloc (.cells #[.int .i64 id, .int .i64 a, .int .i64 l, .slice x n c] 78)) Tryz.prog 3 (plainElem Tryz.prog 3)
   simpa [aN] using this
  ·exact kC.empty
  ·simp [aN]
 case round =>
  obtain ⟨k, D, hk, rfl, hB, hO, hC, hL⟩ := hrel
  by_cases hlt : k < n
  ·have hlt' : Hid (k < n) := hlt
   have hpr := hp.later hB
   obtain ⟨b, o, rfl, c0, c1⟩ := hpr.cells k hlt
   have hI := (hp.addrs k hlt).2.2
   have hm1 := hm k hlt
   have hr1 := hr k hlt
   have hsz := hB.size
   have hst : Hid (aN (fs.take (k + 1)) = aN (fs.take k) ++ (fcAt fs k).ns) := HZ (by rw [hfl.out]; exact hlt)
   generalize hf : fcAt fs k = f at *
   obtain ⟨fid, fx, fn, fc, ns⟩ := f
   simp only at *
   clear hf
   go_wp2
   obtain ⟨wo, rfl⟩ : ∃ wo, wo = wr := ⟨_, rfl⟩
   go_loopw [19] (fun i wr => ∃ (q : Nat) (D : DataW Unit), q ≤ fn ∧ i = .int .i64 q ∧ Below w.heap.size w wr ∧ wr.ownsMap Tryz.prog 3 (plainElem Tryz.prog 3) (w.heap.size + 1) (aN (fs.take k) ++ ns.take q).length D ∧ kC D (aN (fs.take k) ++ ns.take q)) (fun i _ => fn - (intOf i).toNat)
   case atStart => exact ⟨0, D, by omega, rfl, hB.trans ((bl1 wo _).mono hsz), by simpa using hO.alloc _, by simpa using hC⟩
   case round =>
    obtain ⟨q, D2, hq, rfl, hB2, hO2, hC2⟩ := hrel
    by_cases hq2 : q < fn
    ·have hq' : Hid (q < fn) := hq2
     have hL2 : Hid ((aN (fs.take k) ++ ns.take q).length ≤ k * 64 + q) := by
      show _ ≤ _
      rw [List.length_append, List.length_take]
      omega
     have hst2 : Hid (aN (fs.take k) ++ ns.take (q + 1) = (aN (fs.take k) ++ ns.take q) ++ [bP ns q]) := by
      show _ = _
      rw [RD (by rw [hI.len]; exact hq2), List.append_assoc]
     obtain ⟨b2, o2, rfl, d0⟩ := (hI.later hB2).cells q hq2
     have hkey : keyOf Tryz.prog 3 (.int .i64 (bP ns q)) = some (.int .i64 (bP ns q)) := keyOf_int_mk under_int (gI (hr1 q hq2).1 (hr1 q hq2).2)
     generalize hLd : aN (fs.take k) ++ ns.take q = L at *
     have hat := hC2.at_ (bP ns q)
     have hcl : Hid (L.count (bP ns q) ≤ L.length) := List.count_le_length
     have hmx : L.length < maxLen := by have := hL2.out; unfold maxLen; omega
     go_wp2_with (first
      | (at_lookup; refine wpList_lookup_own_int _ rfl _ _ 254 rfl 3 3 .i64 key_law under_uses under_int (zero_int _) (w.heap.size + 1) _ _ rfl hO2 _ _ rfl hkey ?_; intro cc hat2 hwc; obtain rfl : cc = (L.count (bP ns q) : Nat) := (by rw [hat] at hat2; cases hat2; rfl))
      | (at_mapUpdate; refine wpList_mapUpdate_own _ rfl _ _ _ 254 rfl 3 3 key_law under_uses _ (w.heap.size + 1) _ _ rfl hO2 hmx _ _ _ rfl rfl hkey _ [] (plainElem_int under_int (wrap64_wf _)) ?_; intro w1 hown1 hgrow1)
      | go_in)
     have hP := hC2.put (bP ns q)
     have hwr : wrap64 ((L.count (bP ns q) : Nat) + 1) = (L.count (bP ns q) : Nat) + 1 := by
      have := hcl.out
      have := hL2.out
      unfold wrap64
      omega
     go_roundw
     case rel =>
      refine ⟨q + 1, D2.put (.int .i64 (bP ns q)) (.lit (.int .i64 ((L.count (bP ns q) : Nat) + 1))), hq'.out, by go_num, hB2.grown hgrow1 hB2.size (fun j hj => by cases hj; omega), ?_, ?_⟩
      ·rw [hst2.out, List.length_append]
       rw [hwr] at hown1
       exact hown1
      ·rw [hst2.out]
       exact hP
     case measure => simp [intOf]; have := hq'.out; omega
    ·obtain rfl : q = fn := by omega
     have e : ns.take q = ns := by rw [← hI.len, List.take_length]
     rw [e, ← hst.out] at hO2 hC2
     go_wp2
     go_roundw
     case rel => exact ⟨k + 1, D2, hlt'.out, by go_num, hB2, hO2, hC2, by rw [hst.out, List.length_append, hI.len]; omega⟩
     case measure => simp [intOf]; have := hlt'.out; omega
  ·obtain rfl : k = n := by omega
   have e : fs.take k = fs := by rw [← hfl.out, List.take_length]
   rw [e] at hO hC
   go_wp2
   go_ret
   exact ⟨_, D, rfl, by omega, hO, hC, hB⟩
theorem oP : ∀ L : List Int, (∀ a, L.count a ≤ 1) ↔ L.Nodup
 | [] => by simp
 | x :: L => by
  rw [List.nodup_cons, ← oP L]
  constructor
  ·intro h
   have h1 := h x
   rw [List.count_cons_self] at h1
   refine ⟨fun hm => ?_, fun a => ?_⟩
   ·have := List.count_pos_iff.2 hm
    omega
   ·have := h a
    rw [List.count_cons] at this
    omega
  ·rintro ⟨h1, h2⟩ a
   by_cases e : a = x
   ·subst e
    rw [List.count_cons_self, List.count_eq_zero.2 h1]
    omega
   ·rw [List.count_cons_of_ne (Ne.symm e)]
    exact h2 a
def A2 (L : List Int) : Bool := !decide L.Nodup
theorem RE (h : 1 < L.count a) : A2 L = true := by
 unfold A2
 rw [decide_eq_false]
 ·rfl
 ·intro hn
  have := (oP L).2 hn a
  omega
theorem T6 (h : ∀ a, L.count a ≤ 1) : A2 L = false := by
 unfold A2
 rw [decide_eq_true ((oP L).1 h)]
 rfl
theorem twice_any (bm m : Nat) (D : DataW Unit) (L : List Int) (w : World) (hO : w.ownsMap Tryz.prog 3 (plainElem Tryz.prog 3) bm m D) (hC : kC D L) :
  Calls Tryz.prog 206 #[.map (some bm)] w fun e w' => e = .returned (.bool (A2 L)) ∧ Below w.heap.size w w' := by
 have hDb : Hid (kC D L) := hC
 go_enter Tryz.func206, Tryz.ntmps206
 go_wp2_with (first | (at_range; refine wpList_range_own _ rfl _ 254 rfl 3 3 key_law under_uses _ bm m D rfl hO ?_; intro w0 hrg0 hg0 hs0) | go_in)
 go_frame
 go_loopw [] (fun wr => ∃ left cnt, wr.ranges Tryz.prog 3 (plainElem Tryz.prog 3) bm w.heap.size m D left cnt ∧ Below w.heap.size w wr ∧ (∀ a : Int, has D (.int .i64 a) = true → left (.int .i64 a) = true ∨ L.count a ≤ 1)) (fun wr => wr.rangeLeft bm w.heap.size)
 case atStart => exact ⟨_, _, hrg0, (zD).grown hg0 (zE) (fun j hj => by cases hj), fun a h => .inl h⟩
 case round =>
  obtain ⟨left, cnt, hrg, hB, hall⟩ := hrel
  go_wp2_with (first
   | (at_next; refine wpList_next_ranges_ii _ rfl _ rfl 3 3 .i64 .i64 key_law under_int under_int bm w.heap.size m _ _ _ rfl hrg ?_ ?_)
   | go_in)
  ·intro hc0 hl0
   go_wp2
   go_ret
   exact ⟨aM (T6 fun a => by
    by_cases hm : a ∈ L
    ·rcases hall a (by rw [hDb.out.has_ a]; simpa using hm) with h | h
     ·rw [hl0] at h; cases h
     ·exact h
    ·rw [List.count_eq_zero.2 hm]; omega).symm, hB⟩
  ·intro x c w1 cnt1 hwx hwc hlx hat hrg1 hlt hg1 hs1 hen
   have hcx : c = (L.count x : Nat) := by
    have := hat (.lit (.int .i64 0))
    rw [hDb.out.at_ x] at this
    cases this
    rfl
   have hB1 : Below w.heap.size w w1 := hB.grown hg1 hB.size (fun j hj => by cases hj; omega)
   by_cases hgt : c > 1
   ·go_wp2
    go_ret
    exact ⟨aM (RE (a := x) (by omega)).symm, hB1⟩
   ·go_wp2
    go_roundw
    case rel => exact ⟨_, cnt1, hrg1, hB1, fun a ha => by
     by_cases e : a = x
     ·subst e
      exact .inr (by omega)
     ·rcases hall a ha with h | h
      ·refine .inl ?_
       rw [h, sameKey_ne (by intro e2; exact e (by cases e2; rfl))]
       rfl
      ·exact .inr h⟩
    case measure => rw [hrg1.left_eq, hrg.left_eq]; omega
def eU (a l : Int) (fs : List Fc) (i : Nat) : Bool := dE (fcAt fs i).id 1 65536 && decide (0 < (fcAt fs i).n) && HX a l (fcAt fs i).n (fcAt fs i).ns
def eE (a l : Int) (n : Nat) (fs : List Fc) : Bool := (List.range n).all (eU a l fs) && eC fs && !A2 (aN fs)
theorem FN {x : Int} (hr : rt a l = true) (h : qN a l x = true) : 0 ≤ x ∧ x ≤ 1000000 := by
 obtain ⟨h0, h1, h2, h3, -⟩ := bO hr
 obtain ⟨s0, s1⟩ := yP h0 h1
 unfold qN at h
 simp only [zH, decide_eq_true_eq] at h
 omega
theorem SP (h : HX a l n ns = true) : ∀ j, j < n → qN a l (bP ns j) = true := by
 intro j hj
 unfold HX at h
 rw [zH] at h
 cases hu : qN a l (bP ns j)
 ·have := bD (f := fun i => !qN a l (bP ns i)) hj (by rw [hu]; rfl)
  rw [this] at h
  exact absurd h.2 (by simp)
 ·rfl
theorem yS (id a l : Int) (x : Option Addr) (n c : Nat) (fs : List Fc) (w : World) (hr : rt a l = true) (hp : tL w x n fs) (hn : n ≤ 8) (hm : ∀ i, i < n → (fcAt fs i).n ≤ 4) :
  Calls Tryz.prog 165 #[.agg #[.int .i64 id, .int .i64 a, .int .i64 l, .slice x n c]] w fun e w' => e = .returned (.bool (eE a l n fs)) ∧ Below w.heap.size w w' := by
 have hbd : Hid (eE a l n fs = ((List.range n).all (eU a l fs) && eC fs && !A2 (aN fs))) := rfl
 go_enter Tryz.func165, Tryz.ntmps165
 go_upto_region 1 with fail
 obtain ⟨w2, hw2⟩ : ∃ w2, w2 = w.alloc (.cells #[.int .i64 id, .int .i64 a, .int .i64 l, .slice x n c] 78) := ⟨_, rfl⟩
 rw [← hw2]
 have h02 : Below w.heap.size w w2 := by rw [hw2]; exact bl1 w _
 have hbox : w2.heap[w.heap.size]? = some (.cells #[.int .i64 id, .int .i64 a, .int .i64 l, .slice x n c] 78) := by rw [hw2]; exact aB _ rfl
 clear hw2
 have hp2 := hp.later h02
 obtain ⟨hcl, -⟩ := aE hbox
 have q0 : w2.cell? ⟨w.heap.size, 0, none⟩ = some (.int .i64 id) := hcl 0
 have q1 : w2.cell? ⟨w.heap.size, 1, none⟩ = some (.int .i64 a) := hcl 1
 have q2 : w2.cell? ⟨w.heap.size, 2, none⟩ = some (.int .i64 l) := hcl 2
 have q3 : w2.cell? ⟨w.heap.size, 3, none⟩ = some (.slice x n c) := hcl 3
 clear hcl hbox
 generalize hbk : w.heap.size = bk at *
 go_wp2
 go_loopw [8] (fun i wr => ∃ k : Nat, k ≤ n ∧ i = .int .i64 k ∧ Below w2.heap.size w2 wr ∧ (∀ j, j < k → eU a l fs j = true)) (fun i _ => n - (intOf i).toNat)
 case atStart => exact ⟨0, by omega, rfl, zD, fun j hj => by omega⟩
 case round =>
  obtain ⟨k, hk, rfl, hB, hok⟩ := hrel
  have r0 := cell_later hB q0
  have r1 := cell_later hB q1
  have r2 := cell_later hB q2
  have r3 := cell_later hB q3
  have hall : Below bk w wr := h02.trans (hB.mono (by have := h02.size; omega))
  clear q0 q1 q2 q3
  by_cases hlt : k < n
  ·have hlt' : Hid (k < n) := hlt
   have hpr := hp2.later hB
   obtain ⟨b, o, rfl, c0, c1⟩ := hpr.cells k hlt
   have hI := (hpr.addrs k hlt).2.2
   have hm1 := hm k hlt
   have hta : Hid (eU a l fs k = (dE (fcAt fs k).id 1 65536 && decide (0 < (fcAt fs k).n) && HX a l (fcAt fs k).n (fcAt fs k).ns)) := rfl
   generalize hf : fcAt fs k = f at *
   obtain ⟨fid, fx, fn, fcc, ns⟩ := f
   simp only at *
   clear hf
   go_upto_region 4 with fail
   obtain ⟨w3, hw3⟩ : ∃ w3, w3 = wr.alloc (.cells #[.int .i64 fid, .slice fx fn fcc] 80) := ⟨_, rfl⟩
   rw [← hw3]
   have h23 : Below wr.heap.size wr w3 := by rw [hw3]; exact bl1 wr _
   have hbox : w3.heap[wr.heap.size]? = some (.cells #[.int .i64 fid, .slice fx fn fcc] 80) := by rw [hw3]; exact aB _ rfl
   clear hw3 c0 c1
   have s0 := cell_later h23 r0
   have s1 := cell_later h23 r1
   have s2 := cell_later h23 r2
   have s3 := cell_later h23 r3
   clear r0 r1 r2 r3
   obtain ⟨hcl, -⟩ := aE hbox
   have t0 : w3.cell? ⟨wr.heap.size, 0, none⟩ = some (.int .i64 fid) := hcl 0
   have t1 : w3.cell? ⟨wr.heap.size, 1, none⟩ = some (.slice fx fn fcc) := hcl 1
   clear hcl hbox
   have hall3 : Below bk w w3 := hall.trans (h23.mono (by have := h02.size; have := hB.size; omega))
   have hB3 : Below w2.heap.size w2 w3 := hB.trans (h23.mono hB.size)
   have hI3 := hI.later h23
   cases hw : dE fid 1 65536
   ·go_wp2_with (go_at_call 70; refine (isId_is _ _ hw _).mono ?_; rintro e w4 ⟨rfl, rfl⟩)
    go_ret
    exact ⟨aM (by rw [hbd.out, iK hlt'.out (by rw [hta.out, hw]; rfl)]; rfl), by rw [hbk]; exact hall3⟩
   ·by_cases h0 : 0 < fn
    ·have hd : Hid (decide (0 < fn) = true) := by show _ = _; simpa using h0
     have hne : ((fn : Int) == 0) = false := by simp; omega
     cases had : HX a l fn ns
     ·go_wp2_with (first | (go_at_call 70; refine (isId_is _ _ hw _).mono ?_; rintro e w4 ⟨rfl, rfl⟩) | (go_at_call 203; refine (qO _ _ _ _ _ _ _ had _ hr hI3 (by omega)).mono ?_; rintro e w4 ⟨rfl, hb4⟩))
      go_ret
      exact ⟨aM (by rw [hbd.out, iK hlt'.out (by rw [hta.out, hw, hd.out, had]; rfl)]; rfl), by rw [hbk]; exact hall3.trans (hb4.mono (by have := hall3.size; omega))⟩
     ·go_wp2_with (first | (go_at_call 70; refine (isId_is _ _ hw _).mono ?_; rintro e w4 ⟨rfl, rfl⟩) | (go_at_call 203; refine (qO _ _ _ _ _ _ _ had _ hr hI3 (by omega)).mono ?_; rintro e w4 ⟨rfl, hb4⟩))
      go_roundw
      case rel => exact ⟨k + 1, hlt'.out, by go_num, hB3.trans (hb4.mono hB3.size), fun j hj => by
       by_cases hj2 : j < k
       ·exact hok j hj2
       ·obtain rfl : j = k := by omega
        rw [hta.out, hw, hd.out, had]; rfl⟩
      case measure => simp [intOf]; have := hlt'.out; omega
    ·obtain rfl : fn = 0 := by omega
     go_wp2_with (go_at_call 70; refine (isId_is _ _ hw _).mono ?_; rintro e w4 ⟨rfl, rfl⟩)
     go_ret
     exact ⟨aM (by rw [hbd.out, iK hlt'.out (by rw [hta.out, hw]; rfl)]; rfl), by rw [hbk]; exact hall3⟩
  ·obtain rfl : k = n := by omega
   have hpr := hp2.later hB
   go_wp2_with fail
   refine (K1 x k c fs wr.heap.size 1 _ (hpr.later (bl1 wr _)) (by omega) (by simp)).mono ?_
   rintro e w3 ⟨rfl, hb3⟩
   have h23 := (bl1 wr _).trans (hb3.mono (by simp))
   clear hb3
   have hall3 : Below bk w w3 := hall.trans (h23.mono (by have := h02.size; have := hB.size; omega))
   have s0 := cell_later h23 r0
   have s1 := cell_later h23 r1
   have s2 := cell_later h23 r2
   have s3 := cell_later h23 r3
   clear r0 r1 r2 r3
   cases hri : eC fs
   ·go_wp2
    go_ret
    exact ⟨aM (by rw [hbd.out, hri]; simp), by rw [hbk]; exact hall3⟩
   ·go_wp2_with fail
    refine (yR id a l x k c fs _ (hpr.later h23) (by omega) (fun i hi => by have := hm i hi; omega) (fun i hi j hj => FN hr (SP (by
     have := hok i hi
     unfold eU at this
     simp only [zH] at this
     exact this.2) j hj))).mono ?_
    rintro e w4 ⟨bm, D, rfl, hbm, hO, hC, hb4⟩
    go_wp2_with (go_at_call 206; refine (twice_any _ _ _ _ _ hO hC).mono ?_; rintro e w5 ⟨rfl, hb5⟩)
    go_ret
    have h4 := hall3.trans (hb4.mono (by have := hall3.size; omega))
    exact ⟨aM (by rw [hbd.out, hri, oO hok]; simp), by rw [hbk]; exact h4.trans (hb5.mono (by have := h4.size; omega))⟩
theorem A3 (id a l : Int) (x : Option Addr) (n c : Nat) (fs : List Fc) (t : Bool) (h : eE a l n fs = t) (w : World) (hr : rt a l = true) (hp : tL w x n fs) (hn : n ≤ 8) (hm : ∀ i, i < n → (fcAt fs i).n ≤ 4) :
  Calls Tryz.prog 165 #[.agg #[.int .i64 id, .int .i64 a, .int .i64 l, .slice x n c]] w fun e w' => e = .returned (.bool t) ∧ Below w.heap.size w w' := by
 subst h
 exact yS id a l x n c fs w hr hp hn hm
end Go.Proofs.YtndpilfpejfloaaGreat
