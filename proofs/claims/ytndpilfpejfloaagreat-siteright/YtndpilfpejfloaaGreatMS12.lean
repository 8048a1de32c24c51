/- A part of the proof. -/
import Derived.Test.YtndpilfpejfloaaGreatMS11
set_option maxRecDepth 100000
set_option maxHeartbeats 3200000
namespace Go.Proofs.YtndpilfpejfloaaGreat
variable {vs us : List Vn} {k ty : TypeId} {rs : List Rg} {q p b n c vc ln rn sn base base' g o bs cap i f : Nat} {L M : List ((Int × Int × Int) × Int)} {a t vid t' E : Int} {l : List Oper} {ks : List (Int × Int × Int)} {w w' W w3 : World} {x vx lx : Option Addr} {ps : List Po} {ls ms : List (Int × Int)} {v V vB vV vK : Value} {ss ss' : List Sb} {u : Vn} {cs : Array Value} {P : Program} {Q : Exit → Act → World → Prop} {S : World → Prop} {T : Nat → Bool} {listed : Array Bool} {e : Ending} {r : Rg}
open Go.RowKit Go.Shelf Go.Maps
def H7 (r : Rg) : Int × Int × Int := (r.p, r.a, r.l)
def netR (vs : List Vn) : List (Int × List (Int × Int × Int)) := vs.map fun v => (v.id, v.rs.map H7)
theorem LP {k : Nat} (h : k < vs.length) : netR (vs.drop k) = ((vnAt vs k).id, (vnAt vs k).rs.map H7) :: netR (vs.drop (k + 1)) := by
 have e : vnAt vs k = vs[k] := by simp [vnAt, List.getD_eq_getElem?_getD, h]
 unfold netR
 rw [List.drop_eq_getElem_cons h, List.map_cons, e]
theorem PI (h : q < rs.length) : (rs.drop q).map H7 = H7 (aL rs q) :: (rs.drop (q + 1)).map H7 := by
 have e : aL rs q = rs[q] := by simp [aL, List.getD_eq_getElem?_getD, h]
 rw [List.drop_eq_getElem_cons h, List.map_cons, e]
theorem FN {id : Int} {p l : Int} : H6 id L ((p, a, l) :: ks) = if nI L p a l = id then H6 id (L.filter fun x => !keyB p a l x) ks else none := rfl
theorem PJ {id : Int} {vs : List (Int × List (Int × Int × Int))} (h : H6 id L ks = none) : FL L ((id, ks) :: vs) = false := by
 unfold FL
 simp only [h]
theorem FO {id : Int} {vs : List (Int × List (Int × Int × Int))} (h : H6 id L ks = some M) : FL L ((id, ks) :: vs) = (!uP M id && FL M vs) := by
 conv => lhs; unfold FL
 simp only [h]
theorem jQ {D : DataW Unit} {R : Value → Option (DataW Unit × List MemPlace)} (h : w.ownsMap Tryz.prog k R b n D) (hb : Below w.heap.size w w') : w'.ownsMap Tryz.prog k R b n D := by
 obtain ⟨es, clock, h1, h2⟩ := h
 exact ⟨es, clock, aB hb h1, h2⟩
theorem LQ (t : Int) (x : Option Addr) (n c : Nat) (ps : List Po) (vx : Option Addr) (vn vc : Nat) (vs : List Vn) (lx : Option Addr) (ln lc : Nat) (w : World) (hp : qA w x n ps) (hn : n ≤ 64) (hm : ∀ k, k < n → (poAt ps k).n ≤ 64)
  (hW : ∀ k, k < n → ∀ q, q < (poAt ps k).n → C4 (poAt ps k).id (aM (poAt ps k).ls q).a (aM (poAt ps k).ls q).l ∧ (Lit.int .i64 (aM (poAt ps k).ls q).ow).wf = true)
  (hv : VS w vx vn vs) (hvn : vn ≤ 64) (hrn : ∀ k, k < vn → (vnAt vs k).rn ≤ 64) (hR : ∀ k, k < vn → ∀ q, q < (vnAt vs k).rn → C4 (aL (vnAt vs k).rs q).p (aL (vnAt vs k).rs q).a (aL (vnAt vs k).rs q).l) :
  Calls Tryz.prog 25 #[.agg #[.int .i64 t, .slice x n c, .slice vx vn vc, .slice lx ln lc]] w fun e w' => e = .returned (.bool (FL (bT ps) (netR vs))) ∧ Below w.heap.size w w' := by
 have hvl : Hid (vs.length = vn) := hv.len
 go_enter Tryz.func25, Tryz.ntmps25
 go_upto_region 1 with fail
 obtain ⟨w0, hw0⟩ : ∃ w0, w0 = w.alloc (.cells #[.int .i64 t, .slice x n c, .slice vx vn vc, .slice lx ln lc] 31) := ⟨_, rfl⟩
 rw [← hw0]
 have hB0 : Below w.heap.size w w0 := by rw [hw0]; exact bl1 w _
 have hb0 : w0.heap[w.heap.size]? = some (.cells #[.int .i64 t, .slice x n c, .slice vx vn vc, .slice lx ln lc] 31) := by rw [hw0]; exact aC _ rfl
 clear hw0
 obtain ⟨kb, -⟩ := aA hb0
 have kb0 := kb 0
 have kb1 := kb 1
 go_wp2_with fail
 refine (lF t x n c ps _ (hp.later hB0) hn hm hW).mono ?_
 rintro e w1 ⟨bm, D0, rfl, hbm, hO0, hH0, hb1⟩
 have hB1 := hB0.trans (hb1.mono hB0.size)
 have hb1b := aB hb1 hb0
 have hs0 := hB0.size
 clear hb1 hb0 kb kb0 kb1
 obtain ⟨kb, -⟩ := aA hb1b
 have kb2 := kb 2
 go_wp2
 go_loopw [16] (fun i wr => ∃ (k : Nat) (L : List ((Int × Int × Int) × Int)) (D : DataW Unit), k ≤ vn ∧ i = .int .i64 k ∧ Below w.heap.size w wr ∧ wr.ownsMap Tryz.prog 102 (plainElem Tryz.prog 3) bm (bT ps).length D ∧ F3 D L ∧ Hid (FL (bT ps) (netR vs) = FL L (netR (vs.drop k)))) (fun i _ => vn - (intOf i).toNat)
 case atStart => exact ⟨0, _, D0, by omega, rfl, hB1, hO0, hH0, rfl⟩
 case round =>
  obtain ⟨k, L, D, hk, rfl, hB, hO, hH, hag⟩ := hrel
  clear hb1b hO0 hH0 kb kb2
  by_cases hlt : k < vn
  ·have hlt' : Hid (k < vn) := hlt
   have hvr := hv.later hB
   obtain ⟨b, o, rfl, c0, c1, c2⟩ := hvr.cells k hlt
   have hRS := (hv.vps k hlt).2.2.2.ranges
   have hR1 := hR k hlt
   have hr1 := hrn k hlt
   have hst : Hid (netR (vs.drop k) = ((vnAt vs k).id, (vnAt vs k).rs.map H7) :: netR (vs.drop (k + 1))) := LP (by rw [hvl.out]; exact hlt)
   have hsz := hB.size
   have hol : Hid (bm < wr.heap.size) := hO.lt
   generalize vnAt vs k = v at *
   obtain ⟨vid, rx, rn, rc, rs, sx, sn, sc, ss⟩ := v
   simp only at *
   go_wp2
   obtain ⟨wo, rfl⟩ : ∃ wo, wo = wr := ⟨_, rfl⟩
   clear c0 c1 c2
   go_loopw [23] (fun i wr => ∃ (q : Nat) (M : List ((Int × Int × Int) × Int)) (D : DataW Unit), q ≤ rn ∧ i = .int .i64 q ∧ Below w.heap.size w wr ∧ wr.heap[wo.heap.size]? = some (.cells #[.int .i64 vid, .slice rx rn rc, .slice sx sn sc] 41) ∧ wr.ownsMap Tryz.prog 102 (plainElem Tryz.prog 3) bm (bT ps).length D ∧ F3 D M ∧ Hid (H6 vid L (rs.map H7) = H6 vid M ((rs.drop q).map H7))) (fun i _ => rn - (intOf i).toNat)
   case atStart => exact ⟨0, L, D, by omega, rfl, hB.trans ((bl1 wo _).mono hsz), aC _ rfl, hO.alloc _, hH, rfl⟩
   case round =>
    obtain ⟨q, M, D2, hq, rfl, hB2, hbx, hO2, hH2, har⟩ := hrel
    by_cases hq2 : q < rn
    ·have hq' : Hid (q < rn) := hq2
     obtain ⟨b2, o2, hx2, d0, d1, d2⟩ := (hRS.later hB2).cells q hq2
     have hw3 := hR1 q hq2
     have hst2 : Hid ((rs.drop q).map H7 = H7 (aL rs q) :: (rs.drop (q + 1)).map H7) := PI (by rw [hRS.len]; exact hq2)
     subst hx2
     generalize aL rs q = e at *
     obtain ⟨ea, el, ep⟩ := e
     simp only at *
     go_upto_region 9 with fail
     obtain ⟨w3, hw3'⟩ : ∃ w3, w3 = (wr.alloc (.cells #[.int .i64 ea, .int .i64 el, .int .i64 ep] 51)).alloc (.cells #[.int .i64 ep, .int .i64 ea, .int .i64 el] 102) := ⟨_, rfl⟩
     rw [← hw3']
     have hb23 : Below wr.heap.size wr w3 := by rw [hw3']; exact cB wr _ _
     have hB3 : Below w.heap.size w w3 := hB2.trans (hb23.mono hB2.size)
     have hbx3 := aB hb23 hbx
     have hO3 := jQ hO2 hb23
     have hpb : w3.heap[wr.heap.size + 1]? = some (.cells #[.int .i64 ep, .int .i64 ea, .int .i64 el] 102) := by rw [hw3']; exact aC _ (by simp)
     clear hw3' hb23 hbx hO2 hB2 d0 d1 d2
     obtain ⟨kv, -⟩ := aA hbx3
     obtain ⟨kp, -⟩ := aA hpb
     have e0 := Ws.here (kv 0)
     have e1 := Ws.here (kp 0)
     have e2 := Ws.here (kp 1)
     have e3 := Ws.here (kp 2)
     have hat := hH2.at_ ep ea el hw3
     by_cases hown : nI M ep ea el = vid
     ·rw [hown] at hat
      refine aI w3.heap.size (by kernel_rfl) (by kernel_rfl) ?_
      repeat (go_big_quiet_step (fail))
      refine mT _ _ bm _ D2 ep ea el vid rfl (by rfl) rfl rfl (fun u hu => by obtain ⟨u', rfl⟩ := hu; exact jQ hO3 u'.property) hw3 hat ?_
      simp only [Act.put, List.setIfInBounds_toArray, List.set_cons_zero, List.set_cons_succ]
      repeat (go_big_quiet_step (fail))
      refine wpQuiet_nil ?_
      rintro _ ⟨u, rfl⟩
      have hBu := hB3.trans (u.property.mono hB3.size)
      have hOu := jQ hO3 u.property
      have hbu := aB u.property hbx3
      have hpu := aB u.property hpb
      generalize u.val = wu at hBu hOu hbu hpu ⊢
      clear u e0 e1 e2 e3 kv kp
      obtain ⟨kp, -⟩ := aA hpu
      have f0 := kp 0
      have f1 := kp 1
      have f2 := kp 2
      have hkey := oU hw3.1 hw3.2.1 hw3.2.2
      go_wp2_with (first
       | (at_delete; refine wpList_delete_own _ rfl _ _ 99 102 rfl 3 mA mS _ bm _ D2 rfl hOu _ _ rfl hkey ?_; intro w1' hown1 hturn1)
       | go_in)
      go_roundw
      case rel =>
       refine ⟨q + 1, M.filter fun x => !keyB ep ea el x, D2.del (dU ep ea el), hq'.out, by go_num, hBu.grown hturn1.grown hBu.size (fun j hj => by cases hj; omega), fI hturn1.grown hbu (by have := hol.out; omega), hown1, hH2.del hw3, ?_⟩
       show _ = _
       rw [har.out, hst2.out]
       show H6 vid M ((ep, ea, el) :: _) = _
       rw [FN, if_pos hown]
      case measure => simp [intOf]; have := hq'.out; omega
     ·have hneb : (nI M ep ea el == vid) = false := by simpa using hown
      refine aI w3.heap.size (by kernel_rfl) (by kernel_rfl) ?_
      repeat (go_big_quiet_step (fail))
      refine mT _ _ bm _ D2 ep ea el _ rfl (by rfl) rfl rfl (fun u hu => by obtain ⟨u', rfl⟩ := hu; exact jQ hO3 u'.property) hw3 hat ?_
      simp only [Act.put, List.setIfInBounds_toArray, List.set_cons_zero, List.set_cons_succ]
      repeat (go_big_quiet_step (fail))
      refine wpQuiet_nil ?_
      rintro _ ⟨u, rfl⟩
      have hBu := hB3.trans (u.property.mono hB3.size)
      generalize u.val = wu at hBu ⊢
      clear u e0 e1 e2 e3 kv kp
      go_wp2
      go_ret
      refine ⟨aH ?_, hBu⟩
      rw [hag.out, hst.out, PJ]
      rw [har.out, hst2.out]
      show H6 vid M ((ep, ea, el) :: _) = none
      rw [FN, if_neg hown]
    ·obtain rfl : q = rn := by omega
     have e : rs.drop q = [] := by rw [← hRS.len]; exact List.drop_length
     have hsome : H6 vid L (rs.map H7) = some M := by
      rw [har.out, e]
      rfl
     obtain ⟨kv, -⟩ := aA hbx
     have e0 := kv 0
     go_wp2_with fail
     refine (BK bm _ D2 M vid _ hO2 hH2).mono ?_
     rintro r w4 ⟨rfl, hb4⟩
     have hB4 := hB2.trans (hb4.mono hB2.size)
     have hO4 := jQ hO2 hb4
     clear kv e0 hbx
     cases hany : uP M vid
     ·go_wp2
      go_roundw
      case rel => exact ⟨k + 1, M, D2, hlt'.out, by go_num, hB4, hO4, hH2, by show _ = _; rw [hag.out, hst.out, FO hsome, hany]; rfl⟩
      case measure => simp [intOf]; have := hlt'.out; omega
     ·go_wp2
      go_ret
      exact ⟨aH (by rw [hag.out, hst.out, FO hsome, hany]; rfl), hB4⟩
  ·obtain rfl : k = vn := by omega
   have e : vs.drop k = [] := by rw [← hvl.out]; exact List.drop_length
   go_wp2
   go_ret
   refine ⟨aH ?_, hB⟩
   rw [hag.out, e]
   rfl
open Go.RowKit Go.Shelf
structure Si (w : World) (x : Option Addr) (n c : Nat) (ps : List Po) (vx : Option Addr) (vn vc : Nat) (vs : List Vn) (lx : Option Addr) (ln : Nat) (ls : List (Int × Int)) : Prop where
 bk : Bk w x n c ps
 vps : VS w vx vn vs
 vnc : vn ≤ vc
 v63 : vn ≤ 9223372036854775807
 lk : PS w lx ln ls
 l63 : ln ≤ 9223372036854775807
theorem Si.later {vn : Nat} (h : Si w x n c ps vx vn vc vs lx ln ls) (hb : Below w.heap.size w w') : Si w' x n c ps vx vn vc vs lx ln ls :=
 ⟨h.bk.later hb, h.vps.later hb, h.vnc, h.v63, h.lk.later hb, h.l63⟩
def LR (t : Int) (ps : List Po) (vn : Nat) (vs : List Vn) (ln : Nat) (ls : List (Int × Int)) : Int := if aS t ps ≠ 0 then aS t ps else if bE vn vs ln ls ≠ 0 then bE vn vs ln ls else if FL (bT ps) (netR vs) = true then 0 else 1
theorem CW {v b : Int} (h : dH v a b = true) (ha : 0 ≤ a) (hb : b ≤ 1000000) : (Lit.int .i64 v).wf = true := by
 unfold dH at h
 simp only [Bool.and_eq_true, decide_eq_true_eq] at h
 exact eS (by omega) (by omega)
theorem PK {l : Int} (h : rt a l = true) : (Lit.int .i64 a).wf = true ∧ (Lit.int .i64 l).wf = true := by
 obtain ⟨h0, h1, h2, h3, -⟩ := bH h
 exact ⟨eS h2 (by omega), eS h0 (by omega)⟩
theorem I4 (h : RB t ps) {p : Po} (hp : p ∈ ps) {e : Le} (he : e ∈ p.ls) : C4 p.id e.a e.l ∧ (Lit.int .i64 e.ow).wf = true := by
 have h1 := (h.used p hp).inn (e.a, e.l) (by unfold lp; exact List.mem_map.2 ⟨e, he, rfl⟩)
 obtain ⟨w1, w2⟩ := PK (bB h1).1
 refine ⟨⟨CW (h.idw p hp) (by decide) (by decide), w1, w2⟩, ?_⟩
 rcases h.les p hp e he with g | ⟨-, -, q, hq, g, -⟩ | g
 ·exact CW g.2.1 (by decide) (by decide)
 ·rw [← g]
  exact CW (h.idw q hq) (by decide) (by decide)
 ·rw [g.2.1]
  rfl
theorem dC (h : bE n vs ln ls = 0) : n ≤ 6 ∧ ln ≤ 12 ∧ cQ vs = true ∧ ∀ i, i < n → aV (vnAt vs i).id (vnAt vs i).rn (vnAt vs i).rs (vnAt vs i).sn (vnAt vs i).ss = 0 := by
 unfold bE at h
 split at h
 ·omega
 ·rename_i hm
  simp only [Bool.or_eq_true, decide_eq_true_eq] at hm
  split at h
  ·rename_i hw
   simp only [Bool.and_eq_true] at hw
   have hv := hw.1.1
   unfold eC at hv
   rw [Bool.and_eq_true] at hv
   refine ⟨by omega, by omega, hv.1, fun i hi => ?_⟩
   have hb : kD (vnAt vs i) = false := by
    cases e : kD (vnAt vs i)
    ·rfl
    ·rw [aT (f := fun i => kD (vnAt vs i)) hi e] at hv
     exact absurd hv.2 (by simp)
   unfold kD at hb
   simpa using hb
  ·omega
theorem PL (h : aV vid rn rs sn ss = 0) : rn ≤ 4 ∧ ∀ q, q < rn → C4 (aL rs q).p (aL rs q).a (aL rs q).l := by
 unfold aV at h
 split at h
 ·omega
 ·rename_i hm
  split at h
  ·rename_i hw
   simp only [Bool.and_eq_true] at hw
   refine ⟨(few (by simpa using hm)).1, fun q hq => ?_⟩
   have hr := hw.1.2
   unfold nG at hr
   rw [Bool.and_eq_true, List.all_eq_true] at hr
   have h1 := hr.1 q (by simpa using hq)
   unfold sN at h1
   rw [Bool.and_eq_true] at h1
   have h2 := h1.1
   unfold A2 at h2
   rw [Bool.and_eq_true] at h2
   exact ⟨CW h2.2 (by decide) (by decide), (PK h2.1).1, (PK h2.1).2⟩
  ·omega
theorem zF (t : Int) (x : Option Addr) (n c : Nat) (ps : List Po) (vx : Option Addr) (vn vc : Nat) (vs : List Vn) (lx : Option Addr) (ln lc : Nat) (ls : List (Int × Int)) (w : World) (hs : Si w x n c ps vx vn vc vs lx ln ls) :
  Calls Tryz.prog 12 #[.agg #[.int .i64 t, .slice x n c, .slice vx vn vc, .slice lx ln lc]] w fun e w' => e = .returned (.int .i64 (LR t ps vn vs ln ls)) ∧ Below w.heap.size w w' := by
 have hbd : Hid (LR t ps vn vs ln ls = if aS t ps ≠ 0 then aS t ps else if bE vn vs ln ls ≠ 0 then bE vn vs ln ls else if FL (bT ps) (netR vs) = true then 0 else 1) := rfl
 go_enter Tryz.func12, Tryz.ntmps12
 go_upto_region 1 with fail
 obtain ⟨w0, hw0⟩ : ∃ w0, w0 = w.alloc (.cells #[.int .i64 t, .slice x n c, .slice vx vn vc, .slice lx ln lc] 31) := ⟨_, rfl⟩
 rw [← hw0]
 have hB0 : Below w.heap.size w w0 := by rw [hw0]; exact bl1 w _
 have hb0 : w0.heap[w.heap.size]? = some (.cells #[.int .i64 t, .slice x n c, .slice vx vn vc, .slice lx ln lc] 31) := by rw [hw0]; exact aC _ rfl
 clear hw0
 obtain ⟨kb, -⟩ := aA hb0
 have kb0 := kb 0
 have kb1 := kb 1
 go_wp2_with fail
 refine (fC t x n c ps _ (hs.bk.later hB0)).mono ?_
 rintro e w1 ⟨rfl, hb1⟩
 have hB1 := hB0.trans (hb1.mono hB0.size)
 have hb1b := aB hb1 hb0
 clear hb1 hb0 hB0 kb kb0 kb1
 by_cases c0 : aS t ps = 0
 ·obtain ⟨kb, -⟩ := aA hb1b
  have kb2 := kb 2
  have kb3 := kb 3
  have hbd2 : Hid (LR t ps vn vs ln ls = if bE vn vs ln ls ≠ 0 then bE vn vs ln ls else if FL (bT ps) (netR vs) = true then 0 else 1) := by
   show _ = _
   rw [hbd.out, if_neg (by simp [c0])]
  have hRB : Hid (RB t ps) := jZ hs.bk.full c0
  rw [c0]
  clear hbd c0
  go_wp2_with fail
  refine (rJ vx vn vc vs lx ln lc ls _ (hs.vps.later hB1) hs.v63 hs.vnc (hs.lk.later hB1) hs.l63).mono ?_
  rintro e w2 ⟨rfl, hb2⟩
  have hB2 := hB1.trans (hb2.mono hB1.size)
  have hb2b := aB hb2 hb1b
  clear hb2 hb1b hB1 kb kb2 kb3
  by_cases c1 : bE vn vs ln ls = 0
  ·obtain ⟨kb, -⟩ := aA hb2b
   have kb0 := kb 0
   have kb1 := kb 1
   have kb2 := kb 2
   have kb3 := kb 3
   obtain ⟨n6, -, -, hcv⟩ := dC c1
   have hbd3 : Hid (LR t ps vn vs ln ls = if FL (bT ps) (netR vs) = true then 0 else 1) := by
    show _ = _
    rw [hbd2.out, if_neg (by simp [c1])]
   have hpl := hs.bk.ps.len
   have hn8 := hRB.out.few
   have hag := LQ t x n c ps vx vn vc vs lx ln lc w2 (hs.bk.ps.later hB2) (by omega) (fun k hk => by
    have := hRB.out.n32 _ (poAt_mem (i := k) (by omega))
    rw [hs.bk.full k (by omega)] at this
    omega) (fun k hk q hq => I4 hRB.out (poAt_mem (i := k) (by omega)) (eR (by rw [hs.bk.full k (by omega)]; exact hq))) (hs.vps.later hB2) (by omega) (fun k hk => by
    have := (PL (hcv k hk)).1
    omega) (fun k hk => (PL (hcv k hk)).2)
   rw [c1]
   clear hbd2 c1 hcv
   cases hab : FL (bT ps) (netR vs)
   ·rw [hab] at hag
    go_wp2_with fail
    refine hag.mono ?_
    rintro e w3 ⟨rfl, hb3⟩
    go_wp2
    go_ret
    exact ⟨cN (by rw [hbd3.out, hab]; rfl), hB2.trans (hb3.mono hB2.size)⟩
   ·rw [hab] at hag
    go_wp2_with fail
    refine hag.mono ?_
    rintro e w3 ⟨rfl, hb3⟩
    go_wp2
    go_ret
    exact ⟨cN (by rw [hbd3.out, hab]; rfl), hB2.trans (hb3.mono hB2.size)⟩
  ·have hne : (bE vn vs ln ls == 0) = false := by simpa using c1
   go_wp2
   go_ret
   exact ⟨cN (by rw [hbd2.out, if_pos c1]), hB2⟩
 ·have hne : (aS t ps == 0) = false := by simpa using c0
  go_wp2
  go_ret
  exact ⟨cN (by rw [hbd.out, if_pos c0]), hB1⟩
theorem FP (id : Int) (p : Vn) (b : Nat) (w : World) (h0 : w.cell? ⟨b, 0, none⟩ = some (.int .i64 id)) :
  Calls Tryz.prog 134 #[.agg #[.int .i64 p.id, .slice p.rx p.rn p.rc, .slice p.sx p.sn p.sc], .pointer (some ⟨b, 0, none⟩)] w fun e w' => e = .returned (.bool (p.id == id)) ∧ Below w.heap.size w w' := by
 have k0 : ∀ q, (w.alloc q).cell? ⟨b, 0, none⟩ = some (.int .i64 id) := fun q => cell_later (bl1 w q) h0
 go_enter Tryz.func134, Tryz.ntmps134
 go_wp2
 go_ret
 exact ⟨rfl, bl1 w _⟩
theorem CX (args : Array Value) (W : World) : (callFunc 134 args).run Tryz.prog W = .ok (.enter 134 args) W := by simp [go_sem]
theorem kM (id : Int) (x : Option Addr) (n c : Nat) (vs : List Vn) (lx : Option Addr) (ln lc : Nat) (w : World) (hp : VS w x n vs) (hn : n ≤ 1048576) :
  Calls Tryz.prog 94 #[.agg #[.slice x n c, .slice lx ln lc], .int .i64 id] w fun e w' => e = .returned (.int .i64 (aG n vs id)) ∧ Below w.heap.size w w' := by
 go_enter Tryz.func94, Tryz.ntmps94
 go_wp2_with fail
 refine (fA 134 #[.pointer (some ⟨w.heap.size + 1, 0, none⟩)] x n c vs (fun i => (vnAt vs i).id == id) _ (hp.later (cB w _ _)) hn (fun i _ W hW => FP id (vnAt vs i) (w.heap.size + 1) W (cell_later hW (by simp))) CX).mono ?_
 rintro e w1 ⟨⟨r, rfl, hr⟩, hb1⟩
 have hrv : r = aG n vs id := by
  rcases hr with ⟨i, hi, hf, hno, rfl⟩ | ⟨hno, rfl⟩
  ·exact (mO hi hf hno).symm
  ·exact (uG hno).symm
 subst hrv
 go_wp2
 go_ret
 exact ⟨rfl, (cB w _ _).trans (hb1.mono (by simp; omega))⟩
theorem uQ (id : Int) (x : Option Addr) (n c : Nat) (vs : List Vn) (lx : Option Addr) (ln lc : Nat) (t : Int) (h : aG n vs id = t) (w : World) (hp : VS w x n vs) (hn : n ≤ 1048576) :
  Calls Tryz.prog 94 #[.agg #[.slice x n c, .slice lx ln lc], .int .i64 id] w fun e w' => e = .returned (.int .i64 t) ∧ Below w.heap.size w w' := by
 subst h
 exact kM id x n c vs lx ln lc w hp hn
abbrev wO (t : Int) (vB vV vK : Value) : Obj := .cells #[.int .i64 t, vB, vV, vK] 31
abbrev PM (t : Int) (vB vV vK : Value) : Value := .agg #[.int .i64 t, vB, vV, vK]
structure Cd where
 op : Int
 A : Int
 B : Int
 C : Int
 a : Int
 l : Int
 mn : Int
 mx : Int
 us : Int
 co : Int
abbrev U9 (c : Cd) : Array Value := #[.int .i64 c.op, .int .i64 c.A, .int .i64 c.B, .int .i64 c.C, .int .i64 c.a, .int .i64 c.l, .int .i64 c.mn, .int .i64 c.mx, .int .i64 c.us, .int .i64 c.co]
abbrev CY (c : Cd) : Obj := .cells (U9 c) 65
abbrev R7 (c : Cd) : Value := .agg (U9 c)
abbrev TS (a l : Int) : Obj := .cells #[.int .i64 a, .int .i64 l] 49
abbrev R8 (u : Vn) : Value := .agg #[.int .i64 u.id, .slice u.rx u.rn u.rc, .slice u.sx u.sn u.sc]
def pW (w : World) (base : Nat) (u : Vn) : Prop := bN w base (.slice u.rx u.rn u.rc) u.rs ∧ bY w base (.slice u.sx u.sn u.sc) u.ss ∧ wK w base u.ss
theorem mD.vty (h : mD w base u) : pW w base u := ⟨h.1, h.2.row, h.2.ofa⟩
theorem pW.later (h : pW w base u) (hb : Below w.heap.size w w') : pW w' base u := ⟨bN.later h.1 hb, bY.later h.2.1 hb, fun s hs => (h.2.2 s hs).later hb⟩
theorem pW.low (h : pW w base u) (hb : base' ≤ base) : pW w base' u := ⟨h.1.low hb, h.2.1.low hb, h.2.2.low hb⟩
theorem pW.kept {t : TypeId} (h : pW w base u) (hg : w.grownBy w' (some g)) (hb : w.heap[g]? = some (.cells cs t)) (h0 : t ≠ 51) (h1 : t ≠ 78) (h2 : t ≠ 80) (h3 : t ≠ 3) : pW w' base u :=
 ⟨h.1.kept hg (fun _ hk e => by subst e; exact h.1.ne hb h0 hk), h.2.1.kept hg (fun _ hk e => by subst e; exact h.2.1.ne hb h1 hk), h.2.2.keptOf hg hb h2 h3⟩
theorem pW.ok (h : pW w base u) : lE w u := by
 obtain ⟨x1, c1, e1, h1, h2, h3⟩ := h.1.rs
 obtain ⟨x2, c2, e2, g1, g2, -, g4⟩ := h.2.1.mem
 simp only [Value.slice.injEq] at e1 e2
 obtain ⟨rfl, hrn, rfl⟩ := e1
 obtain ⟨rfl, hsn, rfl⟩ := e2
 unfold lE
 rw [hrn, hsn]
 exact ⟨by omega, by omega, h3, ⟨h2, g1, h1, ⟨rfl, g4, fun i hi => h.2.2.fcb _ (OA hi)⟩⟩⟩
theorem E4.vn (h : E4 w base vid V rs ss) : ∃ u : Vn, V = R8 u ∧ u.id = vid ∧ u.rs = rs ∧ u.rn = rs.length ∧ u.ss = ss ∧ u.sn = ss.length ∧ pW w base u := by
 obtain ⟨vR, vS, rfl, h1, h2, h3⟩ := h
 obtain ⟨x1, c1, rfl, -⟩ := h1.rs
 obtain ⟨x2, c2, rfl, -⟩ := h2.mem
 exact ⟨⟨vid, x1, rs.length, c1, rs, x2, ss.length, c2, ss⟩, rfl, rfl, rfl, rfl, rfl, rfl, h1, h2, h3⟩
structure SO (w : World) (base : Nat) (ps : List Po) (vs : List Vn) (ls : List (Int × Int)) (vB vV vK : Value) : Prop where
 bk : dN w base vB ps ps.length
 row : bX w base vV vs
 net : ∀ u ∈ vs, pW w base u
 lks : bU w base vK ls
def mC (w : World) (b : Nat) (ty : TypeId) : Prop := ∃ cs, w.heap[b]? = some (.cells cs ty)
def R9 (ty : TypeId) : Bool := decide (ty ≠ 59 ∧ ty ≠ 138 ∧ ty ≠ 41 ∧ ty ≠ 51 ∧ ty ≠ 78 ∧ ty ≠ 80 ∧ ty ≠ 3 ∧ ty ≠ 93)
theorem mC.put {b' : Nat} (h : mC w b ty) : mC (w.setCell ⟨b', o, none⟩ v) b ty := by
 obtain ⟨cs, h⟩ := h
 by_cases e : b = b'
 ·subst e
  exact ⟨_, heap_setCell_same w b _ _ _ _ h⟩
 ·exact ⟨cs, (heap_setCell_other _ _ _ _ e).trans h⟩
theorem SO.later (h : SO w base ps vs ls vB vV vK) (hb : Below w.heap.size w w') : SO w' base ps vs ls vB vV vK :=
 ⟨h.bk.later hb, h.row.later hb, fun u hu => (h.net u hu).later hb, h.lks.later hb⟩
theorem SO.low (h : SO w base ps vs ls vB vV vK) (hb : base' ≤ base) : SO w base' ps vs ls vB vV vK :=
 ⟨h.bk.low hb, h.row.low hb, fun u hu => (h.net u hu).low hb, h.lks.low hb⟩
theorem SO.put (h : SO w base ps vs ls vB vV vK) (hb : mC w b ty) (ha : R9 ty = true) : SO (w.setCell ⟨b, o, none⟩ v) base ps vs ls vB vV vK := by
 obtain ⟨cs, hb⟩ := hb
 obtain ⟨h1, h2, h3, h4, h5, h6, h7, h8⟩ := of_decide_eq_true ha
 exact ⟨h.bk.putBox hb h1 h2, h.row.putBox hb h3, fun u hu => (h.net u hu).kept (aJ _ _ _ _) hb h4 h5 h6 h7, h.lks.putBox hb h8⟩
structure lI (w : World) (base bs : Nat) (t : Int) (ps : List Po) (vs : List Vn) (ls : List (Int × Int)) (vB vV vK : Value) : Prop where
 box : w.heap[bs]? = some (wO t vB vV vK)
 low : base ≤ bs
 own : SO w base ps vs ls vB vV vK
theorem lI.later (h : lI w base bs t ps vs ls vB vV vK) (hb : Below w.heap.size w w') : lI w' base bs t ps vs ls vB vV vK := ⟨aB hb h.box, h.low, h.own.later hb⟩
theorem lI.put (h : lI w base bs t ps vs ls vB vV vK) (hb : mC w b ty) (ha : R9 ty = true) (hne : bs ≠ b) : lI (w.setCell ⟨b, o, none⟩ v) base bs t ps vs ls vB vV vK :=
 ⟨(heap_setCell_other _ _ _ _ hne).trans h.box, h.low, h.own.put hb ha⟩
theorem lI.putB {rs : List Po} (h : lI w base bs t ps vs ls vB vV vK) (hv : dN w base v rs rs.length) : lI ((w.setCell ⟨bs, 0, none⟩ (.int .i64 t')).setCell ⟨bs, 1, none⟩ v) base bs t' rs vs ls v vV vK :=
 have hb : mC w bs 31 := ⟨_, h.box⟩
 ⟨heap_setCell_same _ bs _ _ _ _ (heap_setCell_same w bs _ _ _ _ h.box), h.low, ((SO.mk hv h.own.row h.own.net h.own.lks).put hb (by decide)).put hb.put (by decide)⟩
theorem lI.putN {k : Value} (h : lI w base bs t ps vs ls vB vV vK) (hv : bX w base v us) (hu : ∀ u ∈ us, pW w base u) (hk : bU w base k ms) : lI ((w.setCell ⟨bs, 2, none⟩ v).setCell ⟨bs, 3, none⟩ k) base bs t ps us ms vB v k :=
 have hb : mC w bs 31 := ⟨_, h.box⟩
 ⟨heap_setCell_same _ bs _ _ _ _ (heap_setCell_same w bs _ _ _ _ h.box), h.low, ((SO.mk h.own.bk hv hu hk).put hb (by decide)).put hb.put (by decide)⟩
theorem lI.setV (h : lI w base bs t ps vs ls vB (.slice (some ⟨g, 0, none⟩) n cap) vK) (hi : i < vs.length) (hu : pW w base u) : lI (jM w g i u) base bs t ps (vs.set i u) ls vB (.slice (some ⟨g, 0, none⟩) n cap) vK := by
 obtain ⟨hgb, cur, hcur⟩ := h.own.row.block
 have hne : bs ≠ g := fun e => by rw [← e, h.box] at hcur; simp at hcur
 have hV : ∀ v, pW w base v → pW (jM w g i u) base v := fun v hv => by
  have b1 : ∀ (W : World), mC W g 41 → pW W base v → ∀ o x, pW (W.setCell ⟨g, o, none⟩ x) base v := fun W hW hv o x => by
   obtain ⟨cs, hW⟩ := hW
   exact hv.kept (aJ _ _ _ _) hW (by decide) (by decide) (by decide) (by decide)
  have g0 : mC w g 41 := ⟨_, hcur⟩
  exact b1 _ g0.put.put (b1 _ g0.put (b1 _ g0 hv _ _) _ _) _ _
 have hB : ∀ (W : World), mC W g 41 → dN W base vB ps ps.length → ∀ o x, dN (W.setCell ⟨g, o, none⟩ x) base vB ps ps.length := fun W hW hv o x => by
  obtain ⟨cs, hW⟩ := hW
  exact hv.putBox hW (by decide) (by decide)
 have g0 : mC w g 41 := ⟨_, hcur⟩
 refine ⟨(gB hne).trans h.box, h.low, hB _ g0.put.put (hB _ g0.put (hB _ g0 h.own.bk _ _) _ _) _ _, h.own.row.setE i hi u, fun v hv => ?_, h.own.lks.setN h.own.row⟩
 rcases List.mem_or_eq_of_mem_set hv with hv | rfl
 ·exact hV v (h.own.net v hv)
 ·exact hV _ hu
structure eQ (base bs : Nat) (w w' : World) : Prop where
 below : Below base w w'
 box : ∀ k cs ty, k ≠ bs → ty ≠ 41 → w.heap[k]? = some (.cells cs ty) → w'.heap[k]? = some (.cells cs ty)
theorem eQ.of (h : Below w.heap.size w w') (hb : base ≤ w.heap.size) : eQ base bs w w' := ⟨h.mono hb, fun _ _ _ _ _ g => aB h g⟩
theorem eQ.trans {w'' : World} (h : eQ base bs w w') (g : eQ base bs w' w'') : eQ base bs w w'' := ⟨h.below.trans g.below, fun k cs ty h1 h2 h3 => g.box k cs ty h1 h2 (h.box k cs ty h1 h2 h3)⟩
theorem eQ.set (h : eQ base bs w w') (hb : base ≤ bs) : eQ base bs w (w'.setCell ⟨bs, o, none⟩ v) :=
 ⟨h.below.setCell (p := ⟨bs, o, none⟩) hb _, fun k cs ty h1 h2 h3 => (heap_setCell_other _ _ _ _ h1).trans (h.box k cs ty h1 h2 h3)⟩
theorem eQ.put (h : eQ base bs w w') (hb : base ≤ b) (hw : w.heap.size ≤ b) : eQ base bs w (w'.setCell ⟨b, o, none⟩ v) :=
 ⟨h.below.setCell (p := ⟨b, o, none⟩) hb _, fun k cs ty h1 h2 h3 => (heap_setCell_other _ _ _ _ (fun e : k = b => by have := (Array.getElem?_eq_some_iff.1 h3).1; omega)).trans (h.box k cs ty h1 h2 h3)⟩
theorem lI.see (h : lI w base bs t ps vs ls vB vV vK) (hB : aS t ps = 0) :
  ∃ x c X C Y D, vB = .slice x ps.length c ∧ vV = .slice X vs.length C ∧ vK = .slice Y ls.length D ∧ Bk w x ps.length c ps ∧ VS w X vs.length vs ∧ vs.length ≤ C ∧ vs.length ≤ 9223372036854775807 ∧ PS w Y ls.length ls ∧ ls.length ≤ 9223372036854775807 := by
 have hR := jZ h.own.bk.full hB
 obtain ⟨x, c, rfl, h1⟩ := h.own.bk.bk (fun i hi => by
  have := hR.n32 _ (poAt_mem hi)
  rw [h.own.bk.full i hi] at this
  omega)
 obtain ⟨X, C, rfl, h2, h3, h4, -⟩ := h.own.row.vs (fun u hu => (h.own.net u hu).ok)
 obtain ⟨Y, D, rfl, h5, h6, h7, -⟩ := h.own.lks.ps
 exact ⟨x, c, X, C, Y, D, rfl, rfl, rfl, h1, h2, h3, Nat.le_trans h3 h4, h5, Nat.le_trans h6 h7⟩
def uR (ps : List Po) (id z ow a l : Int) (rs : List Po) : Prop := (a, l) = eK (poAt ps (aN ps id).toNat) (mU (poAt ps (aN ps id).toNat) z) ∧
 ∃ qs x' c' ls', cT ps qs ∧ iM ⟨a, l, 1, ow, 0⟩ (poAt ps (aN ps id).toNat).ls ls' ∧ rs = qs.set (aN ps id).toNat (aQ (poAt qs (aN ps id).toNat) x' ls'.length c' ls')
def TT (t : Int) (ps : List Po) (vs : List Vn) (A B C : Int) : Int := if 0 ≤ aG vs.length vs C then 6 else cX t ps A B C
def TV (base bs : Nat) (t : Int) (ps : List Po) (vs : List Vn) (ls : List (Int × Int)) (A B C : Int) (w : World) (e : Ending) (w' : World) : Prop :=
 ∃ a l, e = .returned (.tuple #[.agg #[.int .i64 a, .int .i64 l], .int .i64 (TT t ps vs A B C)]) ∧ eQ base bs w w' ∧
  (TT t ps vs A B C = 0 → ∃ rs vB vV vK, lI w' base bs t rs vs ls vB vV vK ∧ uR ps A B C a l rs)
theorem LT (base bs : Nat) (t : Int) (ps : List Po) (vs : List Vn) (ls : List (Int × Int)) (vB vV vK : Value) (cd : Cd) (w : World) (hS : lI w base bs t ps vs ls vB vV vK) (hB : aS t ps = 0) (hv6 : vs.length ≤ 6) :
  Calls Tryz.prog 47 #[.pointer (some ⟨bs, 0, none⟩), R7 cd] w (TV base bs t ps vs ls cd.A cd.B cd.C w) := by
 have hbl : bs < w.heap.size := (Array.getElem?_eq_some_iff.1 hS.box).1
 have hlow := hS.low
 obtain ⟨x, c, X, C, Y, D, rfl, rfl, rfl, hk, hvs, hvc, hv63, hps, hl63⟩ := hS.see hB
 go_enter Tryz.func47, Tryz.ntmps47
 go_upto_region 1 with fail
 obtain ⟨w0, hw0⟩ : ∃ w0, w0 = (w.alloc (CY cd)).alloc (TS 0 0) := ⟨_, rfl⟩
 rw [← hw0]
 have hB0 : Below w.heap.size w w0 := by rw [hw0]; exact cB w _ _
 have hq0 : w0.heap[w.heap.size]? = some (CY cd) := by rw [hw0]; exact aF _ (aC _ rfl)
 have hq1 : w0.heap[w.heap.size + 1]? = some (TS 0 0) := by rw [hw0]; exact aC _ (by simp)
 have hS0 := hS.later hB0
 clear hw0
 have s2 := Ws.here (aU hS0.box 2 rfl)
 have s3 := Ws.here (aU hS0.box 3 rfl)
 have k3 := Ws.here (aU hq0 3 rfl)
 by_cases hpl : 0 ≤ aG vs.length vs cd.C
 ·have hE : TT t ps vs cd.A cd.B cd.C = 6 := if_pos hpl
  have hge : decide (aG vs.length vs cd.C ≥ 0) = true := by simpa using hpl
  refine aI w0.heap.size (by kernel_rfl) (by kernel_rfl) ?_
  repeat (go_big_quiet_step (first | (go_at_call 94; exact Calls.in_ws (Nat.le_refl _) (kM cd.C X vs.length C vs Y ls.length D _ (hvs.later (hB0.trans ((Ws.property _).mono hB0.size))) (by omega)))))
  refine wpQuiet_nil ?_
  rintro _ ⟨u, rfl⟩
  have hBu := hB0.trans (u.property.mono hB0.size)
  have hpu := aB u.property hq1
  generalize u.val = wu at hBu hpu ⊢
  clear u
  clear s2 s3 k3 hS0 hq0 hq1
  have q0 := (aA hpu).1 0
  have qz0 := (aA hpu).2 0
  have q1 := (aA hpu).1 1
  have qz1 := (aA hpu).2 1
  simp only [List.getElem?_toArray, List.getElem?_cons_zero, List.getElem?_cons_succ] at q0 q1
  go_wp2
  refine bodyPost_ret (v := .tuple #[.agg #[.int .i64 0, .int .i64 0], .int .i64 6]) (by simp [results, Tryz.results47, go_sem, q0, q1]) rfl ?_
  exact ⟨0, 0, by rw [hE], ((eQ.of hBu (by omega)).put (by omega) (by omega)).put (by omega) (by omega), fun h => absurd (hE.symm.trans h) (by decide)⟩
 ·have hE : Hid (TT t ps vs cd.A cd.B cd.C = cX t ps cd.A cd.B cd.C) := if_neg hpl
  have hge : decide (aG vs.length vs cd.C ≥ 0) = false := by simpa using hpl
  refine aI w0.heap.size (by kernel_rfl) (by kernel_rfl) ?_
  repeat (go_big_quiet_step (first | (go_at_call 94; exact Calls.in_ws (Nat.le_refl _) (kM cd.C X vs.length C vs Y ls.length D _ (hvs.later (hB0.trans ((Ws.property _).mono hB0.size))) (by omega)))))
  refine wpQuiet_nil ?_
  rintro _ ⟨u, rfl⟩
  have hBu := hB0.trans (u.property.mono hB0.size)
  have hpu := aB u.property hq1
  have hcu := aB u.property hq0
  have hSu := hS0.later u.property
  generalize u.val = wu at hBu hpu hcu hSu ⊢
  clear u
  clear s2 s3 k3 hS0 hq0 hq1 hge hpl
  go_upto_region 3 with fail
  have s0 := Ws.here (aU hSu.box 0 rfl)
  have s1 := Ws.here (aU hSu.box 1 rfl)
  have k1 := Ws.here (aU hcu 1 rfl)
  have k2 := Ws.here (aU hcu 2 rfl)
  have k3 := Ws.here (aU hcu 3 rfl)
  refine aP [0, 1, 2, 3, 4, 5, 6, 7, 8, 9, 10] 11 [12, 13, 14, 15, 16, 17] [18, 19, 20] (by kernel_rfl) (by kernel_rfl) (fun d _ _ _ _ h => by cases d <;> exact h) ?_
  simp only [List.map_cons, List.map_nil, List.getD_cons_zero, List.getD_cons_succ]
  repeat (go_big_quiet_step (fail))
  refine wpQuiet_nil ?_
  clear s0 s1 k1 k2 k3
  intro K hK
  go_wp2_with fail
  refine (DY t x ps.length c ps cd.A cd.B cd.C wu.drew ((hk.later hBu).later (Below.refl _ _).drew)).mono ?_
  rintro e w1 ⟨v, rs, t', a', l', rfl, hb1, hO1, hE1, hE2⟩
  have hB1 : Below wu.heap.size wu w1 := ⟨hb1.os, hb1.tape, hb1.output, hb1.size, hb1.block⟩
  go_wp2_with fail
  refine aD (hK.out _ _ hB1 ?_)
  clear hK K
  repeat (go_big_quiet_step (fail))
  refine wpQuiet_nil ?_
  have hS1 := hSu.later hB1
  have hp1 := aB hB1 hpu
  have hT1 : eQ base bs w w1 := eQ.of (hBu.trans (hB1.mono hBu.size)) (by omega)
  have hO2 : dN w1 base v rs rs.length := hO1.low (Nat.le_trans (by omega) hBu.size)
  obtain ⟨x1, c1, hv1, -⟩ := hO1.row.mem
  subst hv1
  have hbx : mC w1 (w.heap.size + 1) 49 := ⟨_, hp1⟩
  have ne1 : bs ≠ w.heap.size + 1 := by omega
  have ne4 : ¬ w.heap.size + 1 = bs := by omega
  clear hb1 hO1
  have g0 := (aA hS1.box).1 0
  have gz0 := (aA hS1.box).2 0
  have g1 := (aA hS1.box).1 1
  have gz1 := (aA hS1.box).2 1
  have g2 := (aA hS1.box).1 2
  have gz2 := (aA hS1.box).2 2
  have g3 := (aA hS1.box).1 3
  have gz3 := (aA hS1.box).2 3
  simp only [List.getElem?_toArray, List.getElem?_cons_zero, List.getElem?_cons_succ] at g0 g1 g2 g3
  have q0 := (aA hp1).1 0
  have qz0 := (aA hp1).2 0
  have q1 := (aA hp1).1 1
  have qz1 := (aA hp1).2 1
  simp only [List.getElem?_toArray, List.getElem?_cons_zero, List.getElem?_cons_succ] at q0 q1
  go_upto_region 4 with fail
  obtain ⟨w2, hw2⟩ : ∃ w2, w2 = (((w1.setCell ⟨bs, 0, none⟩ (.int .i64 t')).setCell ⟨bs, 1, none⟩ (.slice x1 rs.length c1)).setCell ⟨w.heap.size + 1, 0, none⟩ (.int .i64 a')).setCell ⟨w.heap.size + 1, 1, none⟩ (.int .i64 l') := ⟨_, rfl⟩
  rw [← hw2]
  have hS2 : lI w2 base bs t' rs vs ls (.slice x1 rs.length c1) (.slice X vs.length C) (.slice Y ls.length D) := by rw [hw2]; exact ((hS1.putB hO2).put hbx.put.put (by decide) ne1).put hbx.put.put.put (by decide) ne1
  have hp2 : w2.heap[w.heap.size + 1]? = some (TS a' l') := by rw [hw2]; exact heap_setCell_same _ _ _ _ _ _ (heap_setCell_same _ _ _ _ _ _ ((heap_setCell_other _ _ _ _ ne4).trans ((heap_setCell_other _ _ _ _ ne4).trans hp1)))
  have hT2 : eQ base bs w w2 := by rw [hw2]; exact (((hT1.set hlow).set hlow).put (by omega) (by omega)).put (by omega) (by omega)
  have hbx2 : mC w2 (w.heap.size + 1) 49 := ⟨_, hp2⟩
  clear hw2 hS1 hp1 hO2 hbx g0 g1 g2 g3 gz0 gz1 gz2 gz3 q0 q1 qz0 qz1
  have q0 := (aA hp2).1 0
  have qz0 := (aA hp2).2 0
  have q1 := (aA hp2).1 1
  have qz1 := (aA hp2).2 1
  simp only [List.getElem?_toArray, List.getElem?_cons_zero, List.getElem?_cons_succ] at q0 q1
  go_wp2
  refine bodyPost_ret (v := .tuple #[.agg #[.int .i64 a', .int .i64 l'], .int .i64 (cX t ps cd.A cd.B cd.C)]) (by simp [results, Tryz.results47, go_sem, q0, q1]) rfl ?_
  refine ⟨a', l', by rw [hE.out], (hT2.put (by omega) (by omega)).put (by omega) (by omega), fun h => ?_⟩
  rw [hE.out] at h
  obtain ⟨rfl, hal, hq⟩ := hE2 h
  exact ⟨rs, _, _, _, (hS2.put hbx2 (by decide) ne1).put hbx2.put (by decide) ne1, hal, hq⟩
def SA (ps : List Po) (vs : List Vn) (ls : List (Int × Int)) (A : Int) : Int := if uP (bT ps) A = true then 6 else iR vs.length vs ls.length ls A
def TW (E : Int) (R : List Vn → List (Int × Int) → Prop) (base bs : Nat) (t : Int) (ps : List Po) (w : World) (e : Ending) (w' : World) : Prop :=
 e = .returned (.int .i64 E) ∧ eQ base bs w w' ∧ (E = 0 → ∃ us ms vB vV vK, lI w' base bs t ps us ms vB vV vK ∧ R us ms)
theorem pX {R : List Vn → List (Int × Int) → Prop} (h0 : E ≠ 0 → V = .agg #[.slice none 0 0, .slice none 0 0]) (h1 : E = 0 → ∃ us ms, NO w base V us ms ∧ R us ms) : ∃ x1 n1 c1 x2 n2 c2, V = .agg #[.slice x1 n1 c1, .slice x2 n2 c2] := by
 by_cases h : E = 0
 ·obtain ⟨us, ms, ⟨v, k, e, g1, -, g2⟩, -⟩ := h1 h
  obtain ⟨x1, c1, rfl, -⟩ := g1.mem
  obtain ⟨x2, c2, rfl, -⟩ := g2.mem
  exact ⟨_, _, _, _, _, _, e⟩
 ·exact ⟨_, _, _, _, _, _, h0 h⟩
theorem I5 (hF : cC ps) (hB : aS t ps = 0) : ps.length ≤ 8 ∧ (∀ k, k < ps.length → (poAt ps k).n ≤ 64) ∧ ∀ k, k < ps.length → ∀ q, q < (poAt ps k).n → C4 (poAt ps k).id (aM (poAt ps k).ls q).a (aM (poAt ps k).ls q).l ∧ (Lit.int .i64 (aM (poAt ps k).ls q).ow).wf = true := by
 have hR := jZ hF hB
 refine ⟨hR.few, fun k hk => ?_, fun k hk q hq => I4 hR (poAt_mem hk) (eR (by rw [hF k hk]; exact hq))⟩
 have := hR.n32 _ (poAt_mem hk)
 rw [hF k hk] at this
 omega
theorem H8 (base bs : Nat) (t : Int) (ps : List Po) (vs : List Vn) (ls : List (Int × Int)) (vB vV vK : Value) (cd : Cd) (w : World) (hS : lI w base bs t ps vs ls vB vV vK) (hB : aS t ps = 0) :
  Calls Tryz.prog 49 #[.pointer (some ⟨bs, 0, none⟩), R7 cd] w (TW (SA ps vs ls cd.A) (FA vs ls cd.A) base bs t ps w) := by
 have hbl : bs < w.heap.size := (Array.getElem?_eq_some_iff.1 hS.box).1
 have hlow := hS.low
 obtain ⟨x, c, X, C, Y, D, rfl, rfl, rfl, hk, hvs, hvc, hv63, hps, hl63⟩ := hS.see hB
 obtain ⟨hn8, hn64, hwf⟩ := I5 hS.own.bk.full hB
 go_enter Tryz.func49, Tryz.ntmps49
 go_upto_region 1 with fail
 obtain ⟨w0, hw0⟩ : ∃ w0, w0 = w.alloc (CY cd) := ⟨_, rfl⟩
 rw [← hw0]
 have hB0 : Below w.heap.size w w0 := by rw [hw0]; exact bl1 w _
 have hq0 : w0.heap[w.heap.size]? = some (CY cd) := by rw [hw0]; exact aC _ rfl
 have hS0 := hS.later hB0
 clear hw0
 have s0 := Ws.here (aU hS0.box 0 rfl)
 have s1 := Ws.here (aU hS0.box 1 rfl)
 have k1 := Ws.here (aU hq0 1 rfl)
 refine aP [0, 1, 2, 3, 5, 6] 4 [] [7] (by kernel_rfl) (by kernel_rfl) (fun d _ _ _ _ h => by cases d <;> exact h) ?_
 simp only [List.map_cons, List.map_nil, List.getD_cons_zero, List.getD_cons_succ]
 repeat (go_big_quiet_step (fail))
 refine wpQuiet_nil ?_
 clear s0 s1 k1
 intro K hK
 go_wp2_with fail
 refine (lF t x ps.length c ps w0.drew ((hk.later hB0).later (Below.refl _ _).drew).ps (by omega) hn64 hwf).mono ?_
 rintro e w1 ⟨bm, Dm, rfl, hbm, hOm, hHm, hb1⟩
 have hB1 : Below w0.heap.size w0 w1 := ⟨hb1.os, hb1.tape, hb1.output, hb1.size, hb1.block⟩
 go_wp2_with fail
 refine aD (hK.out _ _ hB1 ?_)
 clear hK K
 refine wpQuiet_nil ?_
 have hS1 := hS0.later hB1
 have hc1 := aB hB1 hq0
 have hBw1 := hB0.trans (hB1.mono hB0.size)
 clear hS0 hq0 hb1 hB1
 obtain ⟨ta, hta⟩ : ∃ b, uP (bT ps) cd.A = b := ⟨_, rfl⟩
 have hany := BK bm _ Dm _ cd.A w1 hOm hHm
 rw [hta] at hany
 cases ta
 ·have hE : Hid (SA ps vs ls cd.A = iR vs.length vs ls.length ls cd.A) := if_neg (by rw [hta]; decide)
  clear hta
  go_wp2_with fail
  refine hany.mono ?_
  rintro e w2 ⟨rfl, hb2⟩
  have hS2 := hS1.later hb2
  have hc2 := aB hb2 hc1
  have hBw2 := hBw1.trans (hb2.mono hBw1.size)
  clear hS1 hc1 hb2 hany
  go_upto_region 3 with fail
  have s2 := Ws.here (aU hS2.box 2 rfl)
  have s3 := Ws.here (aU hS2.box 3 rfl)
  have k1 := Ws.here (aU hc2 1 rfl)
  refine aP [0, 1, 2, 3, 4, 5, 6] 7 [8, 9, 10, 11, 12] [13, 14] (by kernel_rfl) (by kernel_rfl) (fun d _ _ _ _ h => by cases d <;> exact h) ?_
  simp only [List.map_cons, List.map_nil, List.getD_cons_zero, List.getD_cons_succ]
  repeat (go_big_quiet_step (fail))
  refine wpQuiet_nil ?_
  clear s2 s3 k1
  intro K hK
  go_wp2_with fail
  refine (OO X vs.length C vs Y ls.length D ls cd.A w2.drew ((hvs.later hBw2).later (Below.refl _ _).drew) hv63 hvc ((hps.later hBw2).later (Below.refl _ _).drew) hl63).mono ?_
  rintro e w3 ⟨V, rfl, hb3, hV0, hV1⟩
  have hB1 : Below w2.heap.size w2 w3 := ⟨hb3.os, hb3.tape, hb3.output, hb3.size, hb3.block⟩
  have hS3 := hS2.later hB1
  have hT3 : eQ base bs w w3 := eQ.of (hBw2.trans (hB1.mono hBw2.size)) (by omega)
  obtain ⟨y1, m1, d1, y2, m2, d2, rfl⟩ := pX hV0 hV1
  clear hV0
  go_wp2_with fail
  refine aD (hK.out _ _ hB1 ?_)
  clear hK K
  repeat (go_big_quiet_step (fail))
  refine wpQuiet_nil ?_
  have g0 := (aA hS3.box).1 0
  have gz0 := (aA hS3.box).2 0
  have g1 := (aA hS3.box).1 1
  have gz1 := (aA hS3.box).2 1
  have g2 := (aA hS3.box).1 2
  have gz2 := (aA hS3.box).2 2
  have g3 := (aA hS3.box).1 3
  have gz3 := (aA hS3.box).2 3
  simp only [List.getElem?_toArray, List.getElem?_cons_zero, List.getElem?_cons_succ] at g0 g1 g2 g3
  go_wp2
  go_ret
  refine ⟨by rw [hE.out]; rfl, (hT3.set hlow).set hlow, fun h => ?_⟩
  rw [hE.out] at h
  obtain ⟨us, ms, ⟨v', k', e', hOV, hVo, hOK⟩, hR⟩ := hV1 h
  cases e'
  have hlo : base ≤ w2.drew.heap.size := Nat.le_trans (by omega) hBw2.size
  exact ⟨us, ms, _, _, _, hS3.putN (hOV.low hlo) (fun u hu => ((hVo u hu).low hlo).vty) (hOK.low hlo), hR⟩
 ·have hE : SA ps vs ls cd.A = 6 := if_pos hta
  clear hta
  go_wp2_with fail
  refine hany.mono ?_
  rintro e w2 ⟨rfl, hb2⟩
  go_wp2
  go_ret
  exact ⟨by rw [hE]; rfl, eQ.of (hBw1.trans (hb2.mono hBw1.size)) (by omega), fun h => absurd (hE.symm.trans h) (by decide)⟩
def SB (t : Int) (ps : List Po) (vs : List Vn) (A a l : Int) : Int := if 0 ≤ aG vs.length vs (nI (bT ps) A a l) then 9 else jC t ps A a l
def TX (E : Int) (R : Int → List Po → Prop) (base bs : Nat) (vs : List Vn) (ls : List (Int × Int)) (w : World) (e : Ending) (w' : World) : Prop :=
 e = .returned (.int .i64 E) ∧ eQ base bs w w' ∧ (E = 0 → ∃ t' rs vB vV vK, lI w' base bs t' rs vs ls vB vV vK ∧ R t' rs)
theorem LU (base bs : Nat) (t : Int) (ps : List Po) (vs : List Vn) (ls : List (Int × Int)) (vB vV vK : Value) (cd : Cd) (w : World) (hS : lI w base bs t ps vs ls vB vV vK) (hB : aS t ps = 0) (hv6 : vs.length ≤ 6) (hcw : C4 cd.A cd.a cd.l) :
  Calls Tryz.prog 48 #[.pointer (some ⟨bs, 0, none⟩), R7 cd] w (TX (SB t ps vs cd.A cd.a cd.l) (vC t ps cd.A cd.a cd.l) base bs vs ls w) := by
 have hbl : bs < w.heap.size := (Array.getElem?_eq_some_iff.1 hS.box).1
 have hlow := hS.low
 obtain ⟨x, c, X, C, Y, D, rfl, rfl, rfl, hk, hvs, hvc, hv63, hps, hl63⟩ := hS.see hB
 obtain ⟨hn8, hn64, hwf⟩ := I5 hS.own.bk.full hB
 go_enter Tryz.func48, Tryz.ntmps48
 go_upto_region 1 with fail
 obtain ⟨w0, hw0⟩ : ∃ w0, w0 = w.alloc (CY cd) := ⟨_, rfl⟩
 rw [← hw0]
 have hB0 : Below w.heap.size w w0 := by rw [hw0]; exact bl1 w _
 have hq0 : w0.heap[w.heap.size]? = some (CY cd) := by rw [hw0]; exact aC _ rfl
 have hS0 := hS.later hB0
 clear hw0
 have s0 := Ws.here (aU hS0.box 0 rfl)
 have s1 := Ws.here (aU hS0.box 1 rfl)
 have s2 := Ws.here (aU hS0.box 2 rfl)
 have s3 := Ws.here (aU hS0.box 3 rfl)
 have k1 := Ws.here (aU hq0 1 rfl)
 have k4 := Ws.here (aU hq0 4 rfl)
 have k5 := Ws.here (aU hq0 5 rfl)
 obtain ⟨o, ho⟩ : ∃ o, nI (bT ps) cd.A cd.a cd.l = o := ⟨_, rfl⟩
 refine bQ (fun w' => ∃ u : Ws w0.heap.size w0, w' = u.val) (fun j => decide (j < 16)) 17 _ (by kernel_rfl) rfl rfl ?_
 refine aZ 4 [0, 1, 2, 3, 4, 5, 6, 7, 9, 10, 11, 12, 13] rfl _ rfl (by kernel_rfl) (fun d _ _ _ _ h => by cases d <;> exact h) ⟨⟨_, (Below.refl _ _).drew⟩, rfl⟩ ?_
 simp only [List.map_cons, List.map_nil, List.getD_cons_zero, List.getD_cons_succ]
 repeat (go_big_quiet_step (fail))
 refine wpQuiet_nil ?_
 clear s0 s1 s2 s3 k1 k4 k5
 refine aW 8 _ _ (by kernel_rfl) (by kernel_rfl) rfl rfl ?_
 intro K hK
 simp only [List.getD_cons_zero, List.getD_cons_succ]
 go_wp2_with fail
 refine (lF t x ps.length c ps w0.drew ((hk.later hB0).later (Below.refl _ _).drew).ps (by omega) hn64 hwf).mono ?_
 rintro e w1 ⟨bm, Dm, rfl, hbm, hOm, hHm, hb1⟩
 have hB1 : Below w0.heap.size w0 w1 := ⟨hb1.os, hb1.tape, hb1.output, hb1.size, hb1.block⟩
 go_wp2_with fail
 refine aD (hK.out _ _ ⟨⟨_, hB1⟩, rfl⟩ ?_)
 clear hK K
 refine aW 14 _ _ (by kernel_rfl) (by kernel_rfl) rfl rfl ?_
 intro K hK
 simp only [List.getD_cons_zero, List.getD_cons_succ]
 refine eX (C := fun w' => ∃ u : Ws w1.heap.size w1, w' = u.val) (Q := fun a => ∀ u : Ws w1.heap.size w1, K a u.val) (fun a w hC h => by obtain ⟨u, rfl⟩ := hC; exact aD (h u)) _ _ _ ⟨⟨w1, Below.refl _ _⟩, rfl⟩ ?_
 refine mT _ _ bm _ Dm cd.A cd.a cd.l o rfl (by rfl) rfl rfl (fun u hu => by obtain ⟨u', rfl⟩ := hu; exact jQ hOm u'.property) hcw (by rw [← ho]; exact hHm.at_ _ _ _ hcw) ?_
 refine wpQuiet_nil ?_
 intro u
 have hB2 : Below w0.heap.size w0 u.val := hB1.trans (u.property.mono hB1.size)
 refine hK.out _ _ ⟨⟨_, hB2⟩, rfl⟩ ?_
 clear hK K
 generalize u.val = w2 at hB2 ⊢
 clear u hOm hHm hb1 hB1 hbm
 simp only [Act.put, List.setIfInBounds_toArray, List.set_cons_zero, List.set_cons_succ]
 have hS2 := hS0.later hB2
 have hc2 := aB hB2 hq0
 have hBw2 := hB0.trans (hB2.mono hB0.size)
 clear hS0 hq0
 obtain ⟨tp, htp⟩ : ∃ tp, aG vs.length vs o = tp := ⟨_, rfl⟩
 have hpl := uQ o X vs.length C vs Y ls.length D tp htp w2 (hvs.later hBw2) (by omega)
 refine aW 15 _ _ (by kernel_rfl) (by kernel_rfl) rfl rfl ?_
 intro K hK
 simp only [List.getD_cons_zero, List.getD_cons_succ]
 go_wp2_with fail
 refine hpl.mono ?_
 rintro e w3 ⟨rfl, hb3⟩
 go_wp2_with fail
 refine aD (hK.out _ _ ⟨⟨_, hB2.trans (hb3.mono hB2.size)⟩, rfl⟩ ?_)
 clear hK K hpl
 have hS3 := hS2.later hb3
 have hc3 := aB hb3 hc2
 have hBw3 := hBw2.trans (hb3.mono hBw2.size)
 clear hS2 hc2 hBw2 hB2
 refine aY [16] rfl (by kernel_rfl) ?_
 simp only [List.map_cons, List.map_nil, List.getD_cons_zero, List.getD_cons_succ]
 by_cases h0 : 0 ≤ tp
 ·have hE : SB t ps vs cd.A cd.a cd.l = 9 := if_pos (by rw [ho, htp]; exact h0)
  have hge : decide (tp ≥ 0) = true := by simpa using h0
  go_wp2
  go_ret
  exact ⟨by rw [hE]; rfl, eQ.of hBw3 (by omega), fun h => absurd (hE.symm.trans h) (by decide)⟩
 ·have hE : Hid (SB t ps vs cd.A cd.a cd.l = jC t ps cd.A cd.a cd.l) := if_neg (by rw [ho, htp]; exact h0)
  have hge : decide (tp ≥ 0) = false := by simpa using h0
  clear ho htp
  go_upto_region 3 with fail
  clear hge h0
  have s0 := Ws.here (aU hS3.box 0 rfl)
  have s1 := Ws.here (aU hS3.box 1 rfl)
  have k1 := Ws.here (aU hc3 1 rfl)
  have k4 := Ws.here (aU hc3 4 rfl)
  have k5 := Ws.here (aU hc3 5 rfl)
  refine aP [0, 1, 2, 3, 4, 5, 6, 7, 8] 9 [10, 11, 12, 13, 14] [15, 16] (by kernel_rfl) (by kernel_rfl) (fun d _ _ _ _ h => by cases d <;> exact h) ?_
  simp only [List.map_cons, List.map_nil, List.getD_cons_zero, List.getD_cons_succ]
  repeat (go_big_quiet_step (fail))
  refine wpQuiet_nil ?_
  clear s0 s1 k1 k4 k5
  intro K hK
  go_wp2_with fail
  refine (D7 t x ps.length c ps cd.A cd.a cd.l w3.drew ((hk.later hBw3).later (Below.refl _ _).drew)).mono ?_
  rintro e w4 ⟨v, rs, t', rfl, hb4, hO4, hE0, hE2⟩
  have hB1 : Below w3.heap.size w3 w4 := ⟨hb4.os, hb4.tape, hb4.output, hb4.size, hb4.block⟩
  go_wp2_with fail
  refine aD (hK.out _ _ hB1 ?_)
  clear hK K
  repeat (go_big_quiet_step (fail))
  refine wpQuiet_nil ?_
  have hS4 := hS3.later hB1
  have hT4 : eQ base bs w w4 := eQ.of (hBw3.trans (hB1.mono hBw3.size)) (by omega)
  have hO5 : dN w4 base v rs rs.length := hO4.low (Nat.le_trans (by omega) hBw3.size)
  obtain ⟨x1, c1, hv1, -⟩ := hO4.row.mem
  subst hv1
  clear hb4 hO4 hE0
  have g0 := (aA hS4.box).1 0
  have gz0 := (aA hS4.box).2 0
  have g1 := (aA hS4.box).1 1
  have gz1 := (aA hS4.box).2 1
  have g2 := (aA hS4.box).1 2
  have gz2 := (aA hS4.box).2 2
  have g3 := (aA hS4.box).1 3
  have gz3 := (aA hS4.box).2 3
  simp only [List.getElem?_toArray, List.getElem?_cons_zero, List.getElem?_cons_succ] at g0 g1 g2 g3
  go_wp2
  go_ret
  refine ⟨by rw [hE.out]; rfl, (hT4.set hlow).set hlow, fun h => ?_⟩
  rw [hE.out] at h
  exact ⟨t', rs, _, _, _, hS4.putB hO5, hE2 h⟩
def TY (ps : List Po) (B C : Int) : Rg := ⟨(eK (poAt ps (aN ps B).toNat) (mU (poAt ps (aN ps B).toNat) C)).1, (eK (poAt ps (aN ps B).toNat) (mU (poAt ps (aN ps B).toNat) C)).2, B⟩
def PN (t : Int) (ps : List Po) (vs : List Vn) (ls : List (Int × Int)) (A B C : Int) : Int := if aG vs.length vs A < 0 then 5 else if cX t ps B C A = 0 then iY vs.length vs ls.length ls A (TY ps B C) else cX t ps B C A
def TZ (base bs : Nat) (t : Int) (ps : List Po) (vs : List Vn) (ls : List (Int × Int)) (A B C : Int) (w : World) (e : Ending) (w' : World) : Prop :=
 ∃ a l, e = .returned (.tuple #[.agg #[.int .i64 a, .int .i64 l], .int .i64 (PN t ps vs ls A B C)]) ∧ eQ base bs w w' ∧
  (PN t ps vs ls A B C = 0 → ∃ rs us ms vB vV vK, lI w' base bs t rs us ms vB vV vK ∧ uR ps B C A a l rs ∧ uN vs.length vs ls A ⟨a, l, B⟩ us ms)
theorem LV (base bs : Nat) (t : Int) (ps : List Po) (vs : List Vn) (ls : List (Int × Int)) (vB vV vK : Value) (cd : Cd) (w : World) (hS : lI w base bs t ps vs ls vB vV vK) (hB : aS t ps = 0) (hv6 : vs.length ≤ 6) :
  Calls Tryz.prog 50 #[.pointer (some ⟨bs, 0, none⟩), R7 cd] w (TZ base bs t ps vs ls cd.A cd.B cd.C w) := by
 have hbl : bs < w.heap.size := (Array.getElem?_eq_some_iff.1 hS.box).1
 have hlow := hS.low
 obtain ⟨x, c, X, C, Y, D, rfl, rfl, rfl, hk, hvs, hvc, hv63, hps, hl63⟩ := hS.see hB
 go_enter Tryz.func50, Tryz.ntmps50
 go_upto_region 1 with fail
 obtain ⟨w0, hw0⟩ : ∃ w0, w0 = (w.alloc (CY cd)).alloc (TS 0 0) := ⟨_, rfl⟩
 rw [← hw0]
 have hB0 : Below w.heap.size w w0 := by rw [hw0]; exact cB w _ _
 have hq0 : w0.heap[w.heap.size]? = some (CY cd) := by rw [hw0]; exact aF _ (aC _ rfl)
 have hq1 : w0.heap[w.heap.size + 1]? = some (TS 0 0) := by rw [hw0]; exact aC _ (by simp)
 have hS0 := hS.later hB0
 clear hw0
 have s2 := Ws.here (aU hS0.box 2 rfl)
 have s3 := Ws.here (aU hS0.box 3 rfl)
 have k1 := Ws.here (aU hq0 1 rfl)
 by_cases hpl : aG vs.length vs cd.A < 0
 ·have hE : PN t ps vs ls cd.A cd.B cd.C = 5 := if_pos hpl
  have hge : decide (aG vs.length vs cd.A < 0) = true := by simpa using hpl
  refine aI w0.heap.size (by kernel_rfl) (by kernel_rfl) ?_
  repeat (go_big_quiet_step (first | (go_at_call 94; exact Calls.in_ws (Nat.le_refl _) (kM cd.A X vs.length C vs Y ls.length D _ (hvs.later (hB0.trans ((Ws.property _).mono hB0.size))) (by omega)))))
  refine wpQuiet_nil ?_
  rintro _ ⟨u, rfl⟩
  have hBu := hB0.trans (u.property.mono hB0.size)
  have hpu := aB u.property hq1
  generalize u.val = wu at hBu hpu ⊢
  clear u
  clear s2 s3 k1 hS0 hq0 hq1
  have q0 := (aA hpu).1 0
  have qz0 := (aA hpu).2 0
  have q1 := (aA hpu).1 1
  have qz1 := (aA hpu).2 1
  simp only [List.getElem?_toArray, List.getElem?_cons_zero, List.getElem?_cons_succ] at q0 q1
  go_wp2
  refine bodyPost_ret (v := .tuple #[.agg #[.int .i64 0, .int .i64 0], .int .i64 5]) (by simp [results, Tryz.results50, go_sem, q0, q1]) rfl ?_
  exact ⟨0, 0, by rw [hE], ((eQ.of hBu (by omega)).put (by omega) (by omega)).put (by omega) (by omega), fun h => absurd (hE.symm.trans h) (by decide)⟩
 ·have hE : Hid (PN t ps vs ls cd.A cd.B cd.C = if cX t ps cd.B cd.C cd.A = 0 then iY vs.length vs ls.length ls cd.A (TY ps cd.B cd.C) else cX t ps cd.B cd.C cd.A) := if_neg hpl
  have hge : decide (aG vs.length vs cd.A < 0) = false := by simpa using hpl
  refine aI w0.heap.size (by kernel_rfl) (by kernel_rfl) ?_
  repeat (go_big_quiet_step (first | (go_at_call 94; exact Calls.in_ws (Nat.le_refl _) (kM cd.A X vs.length C vs Y ls.length D _ (hvs.later (hB0.trans ((Ws.property _).mono hB0.size))) (by omega)))))
  refine wpQuiet_nil ?_
  rintro _ ⟨u, rfl⟩
  have hBu := hB0.trans (u.property.mono hB0.size)
  have hpu := aB u.property hq1
  have hcu := aB u.property hq0
  have hSu := hS0.later u.property
  generalize u.val = wu at hBu hpu hcu hSu ⊢
  clear u
  clear s2 s3 k1 hS0 hq0 hq1 hge hpl
  go_upto_region 3 with fail
  have s0 := Ws.here (aU hSu.box 0 rfl)
  have s1 := Ws.here (aU hSu.box 1 rfl)
  have k1 := Ws.here (aU hcu 1 rfl)
  have k2 := Ws.here (aU hcu 2 rfl)
  have k3 := Ws.here (aU hcu 3 rfl)
  refine aP [0, 1, 2, 3, 4, 5, 6, 7, 8, 9, 10] 11 [12, 13, 14, 15, 16, 17] [18, 19, 20] (by kernel_rfl) (by kernel_rfl) (fun d _ _ _ _ h => by cases d <;> exact h) ?_
  simp only [List.map_cons, List.map_nil, List.getD_cons_zero, List.getD_cons_succ]
  repeat (go_big_quiet_step (fail))
  refine wpQuiet_nil ?_
  clear s0 s1 k1 k2 k3
  intro K hK
  go_wp2_with fail
  refine (DY t x ps.length c ps cd.B cd.C cd.A wu.drew ((hk.later hBu).later (Below.refl _ _).drew)).mono ?_
  rintro e w1 ⟨v, rs, t', a', l', rfl, hb1, hO1, hE1, hE2⟩
  have hB1 : Below wu.heap.size wu w1 := ⟨hb1.os, hb1.tape, hb1.output, hb1.size, hb1.block⟩
  have hS1 := hSu.later hB1
  have hp1 := aB hB1 hpu
  have hc1 := aB hB1 hcu
  have hBw1 := hBu.trans (hB1.mono hBu.size)
  have hO2 : dN w1 base v rs rs.length := hO1.low (Nat.le_trans (by omega) hBu.size)
  obtain ⟨x1, c1, hv1, -⟩ := hO1.row.mem
  subst hv1
  have hbx : mC w1 (w.heap.size + 1) 49 := ⟨_, hp1⟩
  have ne1 : bs ≠ w.heap.size + 1 := by omega
  have ne2 : w.heap.size ≠ bs := by omega
  have ne3 : w.heap.size ≠ w.heap.size + 1 := by omega
  have ne4 : w.heap.size + 1 ≠ bs := by omega
  clear hb1 hO1
  by_cases h0 : cX t ps cd.B cd.C cd.A = 0
  ·obtain ⟨rfl, hal, hqq⟩ := hE2 h0
   rw [if_pos h0] at hE
   rw [h0]
   clear hE1 hE2 h0
   go_wp2_with fail
   refine aD (hK.out _ _ hB1 ?_)
   clear hK K
   repeat (go_big_quiet_step (fail))
   refine wpQuiet_nil ?_
   have g0 := (aA hS1.box).1 0
   have gz0 := (aA hS1.box).2 0
   have g1 := (aA hS1.box).1 1
   have gz1 := (aA hS1.box).2 1
   have g2 := (aA hS1.box).1 2
   have gz2 := (aA hS1.box).2 2
   have g3 := (aA hS1.box).1 3
   have gz3 := (aA hS1.box).2 3
   simp only [List.getElem?_toArray, List.getElem?_cons_zero, List.getElem?_cons_succ] at g0 g1 g2 g3
   have q0 := (aA hp1).1 0
   have qz0 := (aA hp1).2 0
   have q1 := (aA hp1).1 1
   have qz1 := (aA hp1).2 1
   simp only [List.getElem?_toArray, List.getElem?_cons_zero, List.getElem?_cons_succ] at q0 q1
   go_upto_region 6 with fail
   obtain ⟨w2, hw2⟩ : ∃ w2, w2 = (((w1.setCell ⟨bs, 0, none⟩ (.int .i64 t')).setCell ⟨bs, 1, none⟩ (.slice x1 rs.length c1)).setCell ⟨w.heap.size + 1, 0, none⟩ (.int .i64 a')).setCell ⟨w.heap.size + 1, 1, none⟩ (.int .i64 l') := ⟨_, rfl⟩
   rw [← hw2]
   have hS2 : lI w2 base bs t' rs vs ls (.slice x1 rs.length c1) (.slice X vs.length C) (.slice Y ls.length D) := by rw [hw2]; exact ((hS1.putB hO2).put hbx.put.put (by decide) ne1).put hbx.put.put.put (by decide) ne1
   have hp2 : w2.heap[w.heap.size + 1]? = some (TS a' l') := by rw [hw2]; exact heap_setCell_same _ _ _ _ _ _ (heap_setCell_same _ _ _ _ _ _ ((heap_setCell_other _ _ _ _ ne4).trans ((heap_setCell_other _ _ _ _ ne4).trans hp1)))
   have hc2 : w2.heap[w.heap.size]? = some (CY cd) := by rw [hw2]; exact (heap_setCell_other _ _ _ _ ne3).trans ((heap_setCell_other _ _ _ _ ne3).trans ((heap_setCell_other _ _ _ _ ne2).trans ((heap_setCell_other _ _ _ _ ne2).trans hc1)))
   have hT2 : eQ base bs w w2 := by rw [hw2]; exact ((((eQ.of hBw1 (by omega)).set hlow).set hlow).put (by omega) (by omega)).put (by omega) (by omega)
   have hsz2 : w.heap.size + 1 < w2.heap.size := (Array.getElem?_eq_some_iff.1 hp2).1
   clear hw2 hS1 hp1 hc1 hO2 hbx g0 g1 g2 g3 gz0 gz1 gz2 gz3 q0 q1 qz0 qz1
   obtain ⟨X', C', hv', hvs2, hvc2, -⟩ := hS2.own.row.vs (fun u hu => (hS2.own.net u hu).ok)
   simp only [Value.slice.injEq] at hv'
   obtain ⟨rfl, -, rfl⟩ := hv'
   obtain ⟨Y', D', hk', hps2, -⟩ := hS2.own.lks.ps
   simp only [Value.slice.injEq] at hk'
   obtain ⟨rfl, -, rfl⟩ := hk'
   have q0 := Ws.here (aU hp2 0 rfl)
   have q1 := Ws.here (aU hp2 1 rfl)
   have s2 := Ws.here (aU hS2.box 2 rfl)
   have s3 := Ws.here (aU hS2.box 3 rfl)
   have k1 := Ws.here (aU hc2 1 rfl)
   have k2 := Ws.here (aU hc2 2 rfl)
   refine aP [0, 1, 2, 3, 4, 5, 6, 7, 8, 9, 10] 11 [12, 13, 14, 15, 16] [17, 18] (by kernel_rfl) (by kernel_rfl) (fun d _ _ _ _ h => by cases d <;> exact h) ?_
   simp only [List.map_cons, List.map_nil, List.getD_cons_zero, List.getD_cons_succ]
   repeat (go_big_quiet_step (fail))
   refine wpQuiet_nil ?_
   clear s2 s3 k1 k2 q0 q1
   intro K hK
   go_wp2_with fail
   refine (K3 X vs.length C vs Y ls.length D ls cd.A ⟨a', l', cd.B⟩ w2.drew (hvs2.later (Below.refl _ _).drew) hv63 hvc (hps2.later (Below.refl _ _).drew) hl63).mono ?_
   rintro e w3 ⟨V, rfl, hb3, hV0, hV1⟩
   have hB1 : Below w2.heap.size w2 w3 := ⟨hb3.os, hb3.tape, hb3.output, hb3.size, hb3.block⟩
   have hS3 := hS2.later hB1
   have hp3 := aB hB1 hp2
   have hT3 : eQ base bs w w3 := hT2.trans (eQ.of hB1 (by omega))
   have hgr : TY ps cd.B cd.C = ⟨a', l', cd.B⟩ := by unfold TY; rw [← hal]
   have hE' : Hid (PN t' ps vs ls cd.A cd.B cd.C = iY vs.length vs ls.length ls cd.A ⟨a', l', cd.B⟩) := by show _ = _; rw [hE.out, hgr]
   obtain ⟨y1, m1, d1, y2, m2, d2, rfl⟩ := pX hV0 hV1
   have hbx3 : mC w3 (w.heap.size + 1) 49 := ⟨_, hp3⟩
   clear hV0 hb3 hgr
   go_wp2_with fail
   refine aD (hK.out _ _ hB1 ?_)
   clear hK K
   repeat (go_big_quiet_step (fail))
   refine wpQuiet_nil ?_
   have g0 := (aA hS3.box).1 0
   have gz0 := (aA hS3.box).2 0
   have g1 := (aA hS3.box).1 1
   have gz1 := (aA hS3.box).2 1
   have g2 := (aA hS3.box).1 2
   have gz2 := (aA hS3.box).2 2
   have g3 := (aA hS3.box).1 3
   have gz3 := (aA hS3.box).2 3
   simp only [List.getElem?_toArray, List.getElem?_cons_zero, List.getElem?_cons_succ] at g0 g1 g2 g3
   have q0 := (aA hp3).1 0
   have qz0 := (aA hp3).2 0
   have q1 := (aA hp3).1 1
   have qz1 := (aA hp3).2 1
   simp only [List.getElem?_toArray, List.getElem?_cons_zero, List.getElem?_cons_succ] at q0 q1
   go_wp2
   refine bodyPost_ret (v := .tuple #[.agg #[.int .i64 a', .int .i64 l'], .int .i64 (iY vs.length vs ls.length ls cd.A ⟨a', l', cd.B⟩)]) (by simp [results, Tryz.results50, go_sem, q0, q1]) rfl ?_
   refine ⟨a', l', by rw [hE'.out], (((hT3.set hlow).set hlow).put (by omega) (by omega)).put (by omega) (by omega), fun h => ?_⟩
   rw [hE'.out] at h
   obtain ⟨us, ms, ⟨v', k', e', hOV, hVo, hOK⟩, hR⟩ := hV1 h
   cases e'
   have hlo : base ≤ w2.drew.heap.size := by show base ≤ w2.heap.size; omega
   exact ⟨rs, us, ms, _, _, _, ((hS3.putN (hOV.low hlo) (fun u hu => ((hVo u hu).low hlo).vty) (hOK.low hlo)).put hbx3.put.put (by decide) ne1).put hbx3.put.put.put (by decide) ne1, ⟨hal, hqq⟩, hR⟩
  ·have hne : (cX t ps cd.B cd.C cd.A != 0) = true := by simpa using h0
   have hE' : Hid (PN t ps vs ls cd.A cd.B cd.C = cX t ps cd.B cd.C cd.A) := by show _ = _; rw [hE.out, if_neg h0]
   have h0' : Hid (cX t ps cd.B cd.C cd.A ≠ 0) := h0
   clear h0 hE hE1 hE2
   go_wp2_with fail
   refine aD (hK.out _ _ hB1 ?_)
   clear hK K
   repeat (go_big_quiet_step (fail))
   refine wpQuiet_nil ?_
   have g0 := (aA hS1.box).1 0
   have gz0 := (aA hS1.box).2 0
   have g1 := (aA hS1.box).1 1
   have gz1 := (aA hS1.box).2 1
   have g2 := (aA hS1.box).1 2
   have gz2 := (aA hS1.box).2 2
   have g3 := (aA hS1.box).1 3
   have gz3 := (aA hS1.box).2 3
   simp only [List.getElem?_toArray, List.getElem?_cons_zero, List.getElem?_cons_succ] at g0 g1 g2 g3
   have q0 := (aA hp1).1 0
   have qz0 := (aA hp1).2 0
   have q1 := (aA hp1).1 1
   have qz1 := (aA hp1).2 1
   simp only [List.getElem?_toArray, List.getElem?_cons_zero, List.getElem?_cons_succ] at q0 q1
   go_upto_region 4 with fail
   obtain ⟨w2, hw2⟩ : ∃ w2, w2 = (((w1.setCell ⟨bs, 0, none⟩ (.int .i64 t')).setCell ⟨bs, 1, none⟩ (.slice x1 rs.length c1)).setCell ⟨w.heap.size + 1, 0, none⟩ (.int .i64 a')).setCell ⟨w.heap.size + 1, 1, none⟩ (.int .i64 l') := ⟨_, rfl⟩
   rw [← hw2]
   have hp2 : w2.heap[w.heap.size + 1]? = some (TS a' l') := by rw [hw2]; exact heap_setCell_same _ _ _ _ _ _ (heap_setCell_same _ _ _ _ _ _ ((heap_setCell_other _ _ _ _ ne4).trans ((heap_setCell_other _ _ _ _ ne4).trans hp1)))
   have hT2 : eQ base bs w w2 := by rw [hw2]; exact ((((eQ.of hBw1 (by omega)).set hlow).set hlow).put (by omega) (by omega)).put (by omega) (by omega)
   clear hw2 hS1 hp1 hO2 hbx g0 g1 g2 g3 gz0 gz1 gz2 gz3 q0 q1 qz0 qz1
   have q0 := (aA hp2).1 0
   have qz0 := (aA hp2).2 0
   have q1 := (aA hp2).1 1
   have qz1 := (aA hp2).2 1
   simp only [List.getElem?_toArray, List.getElem?_cons_zero, List.getElem?_cons_succ] at q0 q1
   go_wp2
   refine bodyPost_ret (v := .tuple #[.agg #[.int .i64 0, .int .i64 0], .int .i64 (cX t ps cd.B cd.C cd.A)]) (by simp [results, Tryz.results50, go_sem, q0, q1]) rfl ?_
   exact ⟨0, 0, by rw [hE'.out], (hT2.put (by omega) (by omega)).put (by omega) (by omega), fun h => absurd (hE'.out.symm.trans h) h0'.out⟩
theorem LW {a : Act} (i j k : Nat) (D1 D2 D3 : Array Bool) (hr : Region.ready .any l.toArray listed = [i, j, k]) (hi : decide (i < l.length ∧ j < l.length ∧ k < l.length) = true) (h1 : listed.setIfInBounds i true = D1) (h2 : listed.setIfInBounds j true = D2) (h3 : listed.setIfInBounds k true = D3)
  (g1 : ∀ K, AP P l Q S T f i D1 K → wpList P l.toArray (qD K Q) [l.getD i oZ] a w) (g2 : ∀ K, AP P l Q S T f j D2 K → wpList P l.toArray (qD K Q) [l.getD j oZ] a w) (g3 : ∀ K, AP P l Q S T f k D3 K → wpList P l.toArray (qD K Q) [l.getD k oZ] a w) : qC P l.toArray Q S T (f + 1) listed a w := by
 subst h1
 subst h2
 subst h3
 obtain ⟨b1, b2, b3⟩ := of_decide_eq_true hi
 refine ⟨fun h1 => (by rw [hr] at h1; cases h1), fun m hm => ?_⟩
 rw [hr] at hm
 have hm' : m = i ∨ m = j ∨ m = k := by simpa using hm
 rcases hm' with rfl | rfl | rfl
 ·exact fB b1 (g1 _ ⟨fun _ _ h1 h2 => ⟨fun _ => h1, h2⟩⟩)
 ·exact fB b2 (g2 _ ⟨fun _ _ h1 h2 => ⟨fun _ => h1, h2⟩⟩)
 ·exact fB b3 (g3 _ ⟨fun _ _ h1 h2 => ⟨fun _ => h1, h2⟩⟩)
structure T0 (v : Vn) (c m : Int) (i : Nat) : Prop where
 lt : i < v.rn
 yes : rpB v.rs c m i = true
 no : ∀ j, j < i → rpB v.rs c m j = false
def V1 (t : Int) (ps : List Po) (vs : List Vn) (A c m E : Int) : Prop := (aG vs.length vs A < 0 ∧ E = 5) ∨ ∃ k : Nat, k < vs.length ∧ aG vs.length vs A = k ∧
 ((gJ (vnAt vs k).id (vnAt vs k).rn (vnAt vs k).rs (vnAt vs k).sn (vnAt vs k).ss c m ≠ 0 ∧ E = gJ (vnAt vs k).id (vnAt vs k).rn (vnAt vs k).rs (vnAt vs k).sn (vnAt vs k).ss c m) ∨
  (gJ (vnAt vs k).id (vnAt vs k).rn (vnAt vs k).rs (vnAt vs k).sn (vnAt vs k).ss c m = 0 ∧ ∃ i, T0 (vnAt vs k) c m i ∧ E = jC t ps (aL (vnAt vs k).rs i).p (aL (vnAt vs k).rs i).a (aL (vnAt vs k).rs i).l))
def V4 (t : Int) (ps : List Po) (vs : List Vn) (A c m t' : Int) (rs : List Po) (us : List Vn) : Prop := ∃ (k i : Nat) (u : Vn), k < vs.length ∧ aG vs.length vs A = k ∧ gJ (vnAt vs k).id (vnAt vs k).rn (vnAt vs k).rs (vnAt vs k).sn (vnAt vs k).ss c m = 0 ∧ T0 (vnAt vs k) c m i ∧
 us = vs.set k u ∧ u.id = (vnAt vs k).id ∧ u.rs = (vnAt vs k).rs.take i ++ (vnAt vs k).rs.drop (i + 1) ∧ u.rn = u.rs.length ∧ bG (vnAt vs k).ss u.ss ∧ u.sn = u.ss.length ∧ vC t ps (aL (vnAt vs k).rs i).p (aL (vnAt vs k).rs i).a (aL (vnAt vs k).rs i).l t' rs
def T1 (base bs : Nat) (t : Int) (ps : List Po) (vs : List Vn) (ls : List (Int × Int)) (A c m : Int) (w : World) (e : Ending) (w' : World) : Prop :=
 ∃ E, e = .returned (.int .i64 E) ∧ eQ base bs w w' ∧ V1 t ps vs A c m E ∧ (E = 0 → ∃ t' rs us vB vV vK, lI w' base bs t' rs us ls vB vV vK ∧ V4 t ps vs A c m t' rs us)
abbrev VA (u : Vn) : Obj := cZ u.id (.slice u.rx u.rn u.rc) (.slice u.sx u.sn u.sc)
def V5 (v : Vn) (c m : Int) (k : Nat) (u : Vn) (r : Rg) : Prop := T0 v c m k ∧ r = aL v.rs k ∧ u.id = v.id ∧ u.rs = v.rs.take k ++ v.rs.drop (k + 1) ∧ u.rn = u.rs.length ∧ bG v.ss u.ss ∧ u.sn = u.ss.length
theorem tI {v : Vn} {c m ed : Int} (hed : gJ v.id v.rn v.rs v.sn v.ss c m = ed) (h : kH v.id v.rn v.rs v.sn v.ss c m w e w') : ∃ u r, e = .returned (.tuple #[R8 u, .agg #[.int .i64 (Rg.a r), .int .i64 r.l, .int .i64 r.p], .int .i64 ed]) ∧ Below w.heap.size w w' ∧
  (ed = 0 → pW w' w.heap.size u) ∧ (ed = 0 → ∃ k, V5 v c m k u r) := by
 obtain ⟨V, r, rfl, hb, h1, h2⟩ := h
 rw [hed] at h1 h2 ⊢
 by_cases h0 : ed = 0
 ·obtain ⟨ts, i, hs, hi, hy, hn, hr, hN⟩ := h2 h0
  obtain ⟨u, rfl, g1, g2, g3, g4, g5, g6⟩ := hN.vn
  exact ⟨u, r, rfl, hb, fun _ => g6, fun _ => ⟨i, ⟨hi, hy, hn⟩, hr, g1, g2, by rw [g3, g2], by rw [g4]; exact hs, by rw [g5, g4]⟩⟩
 ·obtain ⟨rfl, -⟩ := h1 h0
  exact ⟨newV 0, r, rfl, hb, fun h => absurd h h0, fun h => absurd h h0⟩
theorem bD {E : Prop} (hp : w3.heap[p]? = some (cZ 0 (.slice none 0 0) (.slice none 0 0))) (hq : w3.heap[q]? = some (F2 ⟨0, 0, 0⟩)) (h1 : W.heap.size ≤ p) (h2 : W.heap.size ≤ q) (hB : Below W.heap.size W w3) (hu : E → pW w3 W.heap.size u) (hk : E → ∀ k, (Value.slice u.rx u.rn u.rc).ownBlock = some k → k ≠ q) :
  Below W.heap.size W ((((((w3.setCell ⟨p, 0, none⟩ (.int .i64 u.id)).setCell ⟨p, 1, none⟩ (.slice u.rx u.rn u.rc)).setCell ⟨p, 2, none⟩ (.slice u.sx u.sn u.sc)).setCell ⟨q, 0, none⟩ (.int .i64 r.a)).setCell ⟨q, 1, none⟩ (.int .i64 r.l)).setCell ⟨q, 2, none⟩ (.int .i64 r.p)) ∧
  ((((((w3.setCell ⟨p, 0, none⟩ (.int .i64 u.id)).setCell ⟨p, 1, none⟩ (.slice u.rx u.rn u.rc)).setCell ⟨p, 2, none⟩ (.slice u.sx u.sn u.sc)).setCell ⟨q, 0, none⟩ (.int .i64 r.a)).setCell ⟨q, 1, none⟩ (.int .i64 r.l)).setCell ⟨q, 2, none⟩ (.int .i64 r.p)).heap[p]? = some (VA u) ∧
  ((((((w3.setCell ⟨p, 0, none⟩ (.int .i64 u.id)).setCell ⟨p, 1, none⟩ (.slice u.rx u.rn u.rc)).setCell ⟨p, 2, none⟩ (.slice u.sx u.sn u.sc)).setCell ⟨q, 0, none⟩ (.int .i64 r.a)).setCell ⟨q, 1, none⟩ (.int .i64 r.l)).setCell ⟨q, 2, none⟩ (.int .i64 r.p)).heap[q]? = some (F2 r) ∧
  (E → pW ((((((w3.setCell ⟨p, 0, none⟩ (.int .i64 u.id)).setCell ⟨p, 1, none⟩ (.slice u.rx u.rn u.rc)).setCell ⟨p, 2, none⟩ (.slice u.sx u.sn u.sc)).setCell ⟨q, 0, none⟩ (.int .i64 r.a)).setCell ⟨q, 1, none⟩ (.int .i64 r.l)).setCell ⟨q, 2, none⟩ (.int .i64 r.p)) W.heap.size u) := by
 have hne : p ≠ q := fun e => by rw [← e, hp] at hq; simp at hq
 have a1 := heap_setCell_same w3 p 0 _ _ (.int .i64 u.id) hp
 have a2 := heap_setCell_same _ p 1 _ _ (.slice u.rx u.rn u.rc) a1
 have a3 := heap_setCell_same _ p 2 _ _ (.slice u.sx u.sn u.sc) a2
 have b0 := (heap_setCell_other _ ⟨p, 2, none⟩ _ (.slice u.sx u.sn u.sc) hne.symm).trans ((heap_setCell_other _ ⟨p, 1, none⟩ _ (.slice u.rx u.rn u.rc) hne.symm).trans ((heap_setCell_other w3 ⟨p, 0, none⟩ _ (.int .i64 u.id) hne.symm).trans hq))
 have b1 := heap_setCell_same _ q 0 _ _ (.int .i64 r.a) b0
 have b2 := heap_setCell_same _ q 1 _ _ (.int .i64 r.l) b1
 have b3 := heap_setCell_same _ q 2 _ _ (.int .i64 r.p) b2
 refine ⟨(((((hB.setCell (p := ⟨p, 0, none⟩) h1 _).setCell (p := ⟨p, 1, none⟩) h1 _).setCell (p := ⟨p, 2, none⟩) h1 _).setCell (p := ⟨q, 0, none⟩) h2 _).setCell (p := ⟨q, 1, none⟩) h2 _).setCell (p := ⟨q, 2, none⟩) h2 _, (heap_setCell_other _ _ _ _ hne).trans ((heap_setCell_other _ _ _ _ hne).trans ((heap_setCell_other _ _ _ _ hne).trans a3)), b3, fun h => ?_⟩
 have v1 := (((hu h).kept (aJ _ p 0 (.int .i64 u.id)) hp (by decide) (by decide) (by decide) (by decide)).kept (aJ _ p 1 (.slice u.rx u.rn u.rc)) a1 (by decide) (by decide) (by decide) (by decide)).kept (aJ _ p 2 (.slice u.sx u.sn u.sc)) a2 (by decide) (by decide) (by decide) (by decide)
 have st : ∀ (V : World) (cs : Array Value) (o : Nat) (x : Value), V.heap[q]? = some (.cells cs 51) → pW V W.heap.size u → pW (V.setCell ⟨q, o, none⟩ x) W.heap.size u := fun V cs o x hV hv =>
  ⟨hv.1.kept (aJ _ _ _ _) (fun k e => hk h k e), hv.2.1.kept (aJ _ _ _ _) (fun _ g e => by subst e; exact hv.2.1.ne hV (by decide) g), hv.2.2.keptOf (aJ _ _ _ _) hV (by decide) (by decide)⟩
 exact st _ _ _ _ b2 (st _ _ _ _ b1 (st _ _ _ _ b0 v1))
theorem LY (base bs : Nat) (t : Int) (ps : List Po) (vs : List Vn) (ls : List (Int × Int)) (vB vV vK : Value) (cd : Cd) (w : World) (hS : lI w base bs t ps vs ls vB vV vK) (hB : aS t ps = 0) (hv6 : vs.length ≤ 6) :
  Calls Tryz.prog 51 #[.pointer (some ⟨bs, 0, none⟩), R7 cd] w (T1 base bs t ps vs ls cd.A cd.a cd.l w) := by
 have hbl : bs < w.heap.size := (Array.getElem?_eq_some_iff.1 hS.box).1
 have hlow := hS.low
 obtain ⟨x, c, X, C, Y, D, rfl, rfl, rfl, hk, hvs, hvc, hv63, hps, hl63⟩ := hS.see hB
 go_enter Tryz.func51, Tryz.ntmps51
 go_upto_region 1 with fail
 obtain ⟨w0, hw0⟩ : ∃ w0, w0 = w.alloc (CY cd) := ⟨_, rfl⟩
 rw [← hw0]
 have hB0 : Below w.heap.size w w0 := by rw [hw0]; exact bl1 w _
 have hq0 : w0.heap[w.heap.size]? = some (CY cd) := by rw [hw0]; exact aC _ rfl
 have hS0 := hS.later hB0
 clear hw0
 have s2 := Ws.here (aU hS0.box 2 rfl)
 have s3 := Ws.here (aU hS0.box 3 rfl)
 have k1 := Ws.here (aU hq0 1 rfl)
 obtain ⟨tp, htp⟩ : ∃ tp, aG vs.length vs cd.A = tp := ⟨_, rfl⟩
 have hpc := vplace_cases vs.length vs cd.A
 rw [htp] at hpc
 refine aI w0.heap.size (by kernel_rfl) (by kernel_rfl) ?_
 repeat (go_big_quiet_step (first | (go_at_call 94; exact Calls.in_ws (Nat.le_refl _) (uQ cd.A X vs.length C vs Y ls.length D tp htp _ (hvs.later (hB0.trans ((Ws.property _).mono hB0.size))) (by omega)))))
 refine wpQuiet_nil ?_
 rintro _ ⟨u, rfl⟩
 have hBu := hB0.trans (u.property.mono hB0.size)
 have hcu := aB u.property hq0
 have hSu := hS0.later u.property
 generalize u.val = wu at hBu hcu hSu ⊢
 clear u
 clear s2 s3 k1 hS0 hq0
 have hpt : Hid (aG vs.length vs cd.A = tp) := htp
 clear htp
 rcases hpc with ⟨i, hi, -, hti⟩ | hti
 ·subst hti
  have hi0 : ¬ ((i : Int) < 0) := by omega
  have hi' : Hid (i < vs.length) := hi
  obtain ⟨g, C2, hvV⟩ := hSu.own.row.held (by omega)
  simp only [Value.slice.injEq] at hvV
  obtain ⟨rfl, -, rfl⟩ := hvV
  have hvt := hSu.own.net _ (bS hi)
  have hvp := hvt.ok
  obtain ⟨y0, y1, y2⟩ := hSu.own.row.cells i hi
  have hdr := fun W (hW : Below wu.heap.size wu W) => KR (vnAt vs i).id (vnAt vs i).rx (vnAt vs i).rn (vnAt vs i).rc (vnAt vs i).rs (vnAt vs i).sx (vnAt vs i).sn (vnAt vs i).sc (vnAt vs i).ss cd.a cd.l W (hvp.2.2.2.later hW) hvp.1 hvp.2.1 hvp.2.2.1
  have hi1 : (i : Int) < vs.length := by omega
  have hi2 : (0 : Int) ≤ i := by omega
  go_upto_region 4 with fail
  have s2 := Ws.here (aU hSu.box 2 rfl)
  have a0 := Ws.here y0
  have a1 := Ws.here y1
  have a2 := Ws.here y2
  have k4 := Ws.here (aU hcu 4 rfl)
  have k5 := Ws.here (aU hcu 5 rfl)
  clear y0 y1 y2
  obtain ⟨ed, hed⟩ : ∃ ed, gJ (vnAt vs i).id (vnAt vs i).rn (vnAt vs i).rs (vnAt vs i).sn (vnAt vs i).ss cd.a cd.l = ed := ⟨_, rfl⟩
  go_cut [6, 7, 8] (fun p q v wd => v = .int .i64 ed ∧ ∃ bp bq u r, p = .pointer (some ⟨bp, 0, none⟩) ∧ q = .pointer (some ⟨bq, 0, none⟩) ∧ wu.heap.size ≤ bp ∧ wu.heap.size ≤ bq ∧ Below wu.heap.size wu wd ∧ wd.heap[bp]? = some (VA u) ∧ wd.heap[bq]? = some (F2 r) ∧
   (ed = 0 → pW wd wu.heap.size u) ∧ (ed = 0 → ∃ k, V5 (vnAt vs i) cd.a cd.l k u r))
  case first =>
   refine bQ (fun w' => ∃ u : Ws wu.heap.size wu, w' = u.val) (fun j => decide (j < 11) || (decide (j = 15) || decide (j = 16))) 20 _ (by kernel_rfl) rfl rfl ?_
   refine aZ 10 [0, 1, 2, 3, 4, 5, 6, 7, 8, 9] rfl _ rfl (by kernel_rfl) (fun d _ _ _ _ h => by cases d <;> exact h) ⟨⟨_, (Below.refl _ _).drew⟩, rfl⟩ ?_
   simp only [List.map_cons, List.map_nil, List.getD_cons_zero, List.getD_cons_succ]
   repeat (go_big_quiet_step (fail))
   refine wpQuiet_nil ?_
   clear s2 a0 a1 a2 k4 k5 hcu hSu hpt hi1 hi2
   refine LW 10 15 16 _ _ _ (by kernel_rfl) (by kernel_rfl) rfl rfl rfl ?_ ?_ ?_
   ·have hW0 : Below wu.heap.size wu wu.drew := (Below.refl _ _).drew
    intro K hK
    simp only [List.getD_cons_zero, List.getD_cons_succ]
    go_wp2_with fail
    refine (hdr wu.drew hW0).mono ?_
    rintro e w1 hpo
    obtain ⟨u, r, rfl, hbw1, hu, hR⟩ := tI hed hpo
    go_wp2_with fail
    have hW1 : Below wu.heap.size wu w1 := hW0.trans (hbw1.mono hW0.size)
    refine aD (hK.out _ _ ⟨⟨_, hW1⟩, rfl⟩ ?_)
    clear hK K
    refine nT 5 [11, 12, 13, 14] rfl _ rfl (by kernel_rfl) (fun d _ _ _ _ h => by cases d <;> exact h) ?_
    simp only [List.map_cons, List.map_nil, List.getD_cons_zero, List.getD_cons_succ]
    repeat (go_big_quiet_step (fail))
    refine wpQuiet_nil ?_
    refine iD 15 16 _ _ _ _ (by kernel_rfl) (by kernel_rfl) rfl rfl rfl rfl ?_ ?_
    ·intro K hK
     simp only [List.getD_cons_zero, List.getD_cons_succ]
     go_wp2_with fail
     obtain ⟨w2, hww2⟩ : ∃ W, W = w1.alloc (cZ 0 (.slice none 0 0) (.slice none 0 0)) := ⟨_, rfl⟩
     rw [← hww2]
     have hbw2 : Below w1.heap.size w1 w2 := by rw [hww2]; exact bl1 w1 _
     have hx15 : w2.heap[w1.heap.size]? = some (cZ 0 (.slice none 0 0) (.slice none 0 0)) := by rw [hww2]; exact aC _ rfl
     clear hww2
     have hW2 : Below wu.heap.size wu w2 := hW1.trans (hbw2.mono hW1.size)
     refine aD (hK.out _ _ ⟨⟨_, hW2⟩, rfl⟩ ?_)
     clear hK K
     refine aW 16 _ _ (by kernel_rfl) (by kernel_rfl) rfl rfl ?_
     intro K hK
     simp only [List.getD_cons_zero, List.getD_cons_succ]
     go_wp2_with fail
     obtain ⟨w3, hww3⟩ : ∃ W, W = w2.alloc (F2 ⟨0, 0, 0⟩) := ⟨_, rfl⟩
     rw [← hww3]
     have hbw3 : Below w2.heap.size w2 w3 := by rw [hww3]; exact bl1 w2 _
     have hx16 : w3.heap[w2.heap.size]? = some (F2 ⟨0, 0, 0⟩) := by rw [hww3]; exact aC _ rfl
     clear hww3
     have hW3 : Below wu.heap.size wu w3 := hW2.trans (hbw3.mono hW2.size)
     refine aD (hK.out _ _ ⟨⟨_, hW3⟩, rfl⟩ ?_)
     clear hK K
     have hy15 := aB hbw3 (hx15)
     have hy16 := hx16
     have hu3 : ed = 0 → pW w3 wu.heap.size u := fun h => ((((hu h).low (hW0.size))).later hbw2).later hbw3
     have e0 : wu.heap.size ≤ w1.heap.size := hbw1.size
     have e1 : w1.heap.size ≤ w2.heap.size := hbw2.size
     have e2 : w2.heap.size ≤ w3.heap.size := hbw3.size
     have l16 : w2.heap.size < w3.heap.size := (Array.getElem?_eq_some_iff.1 hx16).1
     have l15 : w1.heap.size < w2.heap.size := (Array.getElem?_eq_some_iff.1 hx15).1
     have nq1 : ¬ w1.heap.size = w2.heap.size := by omega
     have nq2 : ¬ w2.heap.size = w1.heap.size := by omega
     have hk3 : ed = 0 → ∀ k, (Value.slice u.rx u.rn u.rc).ownBlock = some k → k ≠ w2.heap.size := fun h k hk => by
      have e : wu.heap.size ≤ k ∧ k < w1.heap.size := (hu h).1.lt k hk
      omega
     have hz15 : wu.heap.size ≤ w1.heap.size := hW1.size
     have hz16 : wu.heap.size ≤ w2.heap.size := hW2.size
     clear hu hdr
     refine aY [17, 18, 19] rfl (by kernel_rfl) ?_
     simp only [List.map_cons, List.map_nil, List.getD_cons_zero, List.getD_cons_succ]
     have p0 := (aA hy15).1 0
     have pz0 := (aA hy15).2 0
     have p1 := (aA hy15).1 1
     have pz1 := (aA hy15).2 1
     have p2 := (aA hy15).1 2
     have pz2 := (aA hy15).2 2
     simp only [List.getElem?_toArray, List.getElem?_cons_zero, List.getElem?_cons_succ] at p0 p1 p2
     have q0 := (aA hy16).1 0
     have qz0 := (aA hy16).2 0
     have q1 := (aA hy16).1 1
     have qz1 := (aA hy16).2 1
     have q2 := (aA hy16).1 2
     have qz2 := (aA hy16).2 2
     simp only [List.getElem?_toArray, List.getElem?_cons_zero, List.getElem?_cons_succ] at q0 q1 q2
     go_wp2_with fail
     go_meet
     case rel => exact ⟨rfl, _, _, u, r, rfl, rfl, hz15, hz16, (bD hy15 hy16 hz15 hz16 hW3 hu3 hk3).1, (bD hy15 hy16 hz15 hz16 hW3 hu3 hk3).2.1, (bD hy15 hy16 hz15 hz16 hW3 hu3 hk3).2.2.1, (bD hy15 hy16 hz15 hz16 hW3 hu3 hk3).2.2.2, hR⟩
    ·intro K hK
     simp only [List.getD_cons_zero, List.getD_cons_succ]
     go_wp2_with fail
     obtain ⟨w2, hww2⟩ : ∃ W, W = w1.alloc (F2 ⟨0, 0, 0⟩) := ⟨_, rfl⟩
     rw [← hww2]
     have hbw2 : Below w1.heap.size w1 w2 := by rw [hww2]; exact bl1 w1 _
     have hx16 : w2.heap[w1.heap.size]? = some (F2 ⟨0, 0, 0⟩) := by rw [hww2]; exact aC _ rfl
     clear hww2
     have hW2 : Below wu.heap.size wu w2 := hW1.trans (hbw2.mono hW1.size)
     refine aD (hK.out _ _ ⟨⟨_, hW2⟩, rfl⟩ ?_)
     clear hK K
     refine aW 15 _ _ (by kernel_rfl) (by kernel_rfl) rfl rfl ?_
     intro K hK
     simp only [List.getD_cons_zero, List.getD_cons_succ]
     go_wp2_with fail
     obtain ⟨w3, hww3⟩ : ∃ W, W = w2.alloc (cZ 0 (.slice none 0 0) (.slice none 0 0)) := ⟨_, rfl⟩
     rw [← hww3]
     have hbw3 : Below w2.heap.size w2 w3 := by rw [hww3]; exact bl1 w2 _
     have hx15 : w3.heap[w2.heap.size]? = some (cZ 0 (.slice none 0 0) (.slice none 0 0)) := by rw [hww3]; exact aC _ rfl
     clear hww3
     have hW3 : Below wu.heap.size wu w3 := hW2.trans (hbw3.mono hW2.size)
     refine aD (hK.out _ _ ⟨⟨_, hW3⟩, rfl⟩ ?_)
     clear hK K
     have hy15 := hx15
     have hy16 := aB hbw3 (hx16)
     have hu3 : ed = 0 → pW w3 wu.heap.size u := fun h => ((((hu h).low (hW0.size))).later hbw2).later hbw3
     have e0 : wu.heap.size ≤ w1.heap.size := hbw1.size
     have e1 : w1.heap.size ≤ w2.heap.size := hbw2.size
     have e2 : w2.heap.size ≤ w3.heap.size := hbw3.size
     have l16 : w1.heap.size < w2.heap.size := (Array.getElem?_eq_some_iff.1 hx16).1
     have l15 : w2.heap.size < w3.heap.size := (Array.getElem?_eq_some_iff.1 hx15).1
     have nq1 : ¬ w2.heap.size = w1.heap.size := by omega
     have nq2 : ¬ w1.heap.size = w2.heap.size := by omega
     have hk3 : ed = 0 → ∀ k, (Value.slice u.rx u.rn u.rc).ownBlock = some k → k ≠ w1.heap.size := fun h k hk => by
      have e : wu.heap.size ≤ k ∧ k < w1.heap.size := (hu h).1.lt k hk
      omega
     have hz15 : wu.heap.size ≤ w2.heap.size := hW2.size
     have hz16 : wu.heap.size ≤ w1.heap.size := hW1.size
     clear hu hdr
     refine aY [17, 18, 19] rfl (by kernel_rfl) ?_
     simp only [List.map_cons, List.map_nil, List.getD_cons_zero, List.getD_cons_succ]
     have p0 := (aA hy15).1 0
     have pz0 := (aA hy15).2 0
     have p1 := (aA hy15).1 1
     have pz1 := (aA hy15).2 1
     have p2 := (aA hy15).1 2
     have pz2 := (aA hy15).2 2
     simp only [List.getElem?_toArray, List.getElem?_cons_zero, List.getElem?_cons_succ] at p0 p1 p2
     have q0 := (aA hy16).1 0
     have qz0 := (aA hy16).2 0
     have q1 := (aA hy16).1 1
     have qz1 := (aA hy16).2 1
     have q2 := (aA hy16).1 2
     have qz2 := (aA hy16).2 2
     simp only [List.getElem?_toArray, List.getElem?_cons_zero, List.getElem?_cons_succ] at q0 q1 q2
     go_wp2_with fail
     go_meet
     case rel => exact ⟨rfl, _, _, u, r, rfl, rfl, hz15, hz16, (bD hy15 hy16 hz15 hz16 hW3 hu3 hk3).1, (bD hy15 hy16 hz15 hz16 hW3 hu3 hk3).2.1, (bD hy15 hy16 hz15 hz16 hW3 hu3 hk3).2.2.1, (bD hy15 hy16 hz15 hz16 hW3 hu3 hk3).2.2.2, hR⟩
   ·have hW0 : Below wu.heap.size wu wu.drew := (Below.refl _ _).drew
    intro K hK
    simp only [List.getD_cons_zero, List.getD_cons_succ]
    go_wp2_with fail
    obtain ⟨w1, hww1⟩ : ∃ W, W = (wu.alloc (cZ 0 (.slice none 0 0) (.slice none 0 0))).drew := ⟨_, rfl⟩
    rw [← hww1]
    have hbw1 : Below wu.drew.heap.size wu.drew w1 := by rw [hww1]; exact ⟨rfl, rfl, rfl, (bl1 wu _).size, (bl1 wu _).block⟩
    have hx15 : w1.heap[wu.heap.size]? = some (cZ 0 (.slice none 0 0) (.slice none 0 0)) := by rw [hww1]; exact aC (W := wu) _ rfl
    clear hww1
    have hW1 : Below wu.heap.size wu w1 := hW0.trans (hbw1.mono hW0.size)
    refine aD (hK.out _ _ ⟨⟨_, hW1⟩, rfl⟩ ?_)
    clear hK K
    refine iD 10 16 _ _ _ _ (by kernel_rfl) (by kernel_rfl) rfl rfl rfl rfl ?_ ?_
    ·intro K hK
     simp only [List.getD_cons_zero, List.getD_cons_succ]
     go_wp2_with fail
     refine (hdr w1 hW1).mono ?_
     rintro e w2 hpo
     obtain ⟨u, r, rfl, hbw2, hu, hR⟩ := tI hed hpo
     go_wp2_with fail
     have hW2 : Below wu.heap.size wu w2 := hW1.trans (hbw2.mono hW1.size)
     refine aD (hK.out _ _ ⟨⟨_, hW2⟩, rfl⟩ ?_)
     clear hK K
     refine nT 4 [11, 12, 13, 14] rfl _ rfl (by kernel_rfl) (fun d _ _ _ _ h => by cases d <;> exact h) ?_
     simp only [List.map_cons, List.map_nil, List.getD_cons_zero, List.getD_cons_succ]
     repeat (go_big_quiet_step (fail))
     refine wpQuiet_nil ?_
     refine aW 16 _ _ (by kernel_rfl) (by kernel_rfl) rfl rfl ?_
     intro K hK
     simp only [List.getD_cons_zero, List.getD_cons_succ]
     go_wp2_with fail
     obtain ⟨w3, hww3⟩ : ∃ W, W = w2.alloc (F2 ⟨0, 0, 0⟩) := ⟨_, rfl⟩
     rw [← hww3]
     have hbw3 : Below w2.heap.size w2 w3 := by rw [hww3]; exact bl1 w2 _
     have hx16 : w3.heap[w2.heap.size]? = some (F2 ⟨0, 0, 0⟩) := by rw [hww3]; exact aC _ rfl
     clear hww3
     have hW3 : Below wu.heap.size wu w3 := hW2.trans (hbw3.mono hW2.size)
     refine aD (hK.out _ _ ⟨⟨_, hW3⟩, rfl⟩ ?_)
     clear hK K
     have hy15 := aB hbw3 (aB hbw2 (hx15))
     have hy16 := hx16
     have hu3 : ed = 0 → pW w3 wu.heap.size u := fun h => (((hu h).low (hW1.size))).later hbw3
     have e0 : wu.heap.size ≤ w1.heap.size := hbw1.size
     have e1 : w1.heap.size ≤ w2.heap.size := hbw2.size
     have e2 : w2.heap.size ≤ w3.heap.size := hbw3.size
     have l16 : w2.heap.size < w3.heap.size := (Array.getElem?_eq_some_iff.1 hx16).1
     have l15 : wu.heap.size < w1.heap.size := (Array.getElem?_eq_some_iff.1 hx15).1
     have nq1 : ¬ wu.heap.size = w2.heap.size := by omega
     have nq2 : ¬ w2.heap.size = wu.heap.size := by omega
     have hk3 : ed = 0 → ∀ k, (Value.slice u.rx u.rn u.rc).ownBlock = some k → k ≠ w2.heap.size := fun h k hk => by
      have e : w1.heap.size ≤ k ∧ k < w2.heap.size := (hu h).1.lt k hk
      omega
     have hz15 : wu.heap.size ≤ wu.heap.size := Nat.le_refl _
     have hz16 : wu.heap.size ≤ w2.heap.size := hW2.size
     clear hu hdr
     refine aY [17, 18, 19] rfl (by kernel_rfl) ?_
     simp only [List.map_cons, List.map_nil, List.getD_cons_zero, List.getD_cons_succ]
     have p0 := (aA hy15).1 0
     have pz0 := (aA hy15).2 0
     have p1 := (aA hy15).1 1
     have pz1 := (aA hy15).2 1
     have p2 := (aA hy15).1 2
     have pz2 := (aA hy15).2 2
     simp only [List.getElem?_toArray, List.getElem?_cons_zero, List.getElem?_cons_succ] at p0 p1 p2
     have q0 := (aA hy16).1 0
     have qz0 := (aA hy16).2 0
     have q1 := (aA hy16).1 1
     have qz1 := (aA hy16).2 1
     have q2 := (aA hy16).1 2
     have qz2 := (aA hy16).2 2
     simp only [List.getElem?_toArray, List.getElem?_cons_zero, List.getElem?_cons_succ] at q0 q1 q2
     go_wp2_with fail
     go_meet
     case rel => exact ⟨rfl, _, _, u, r, rfl, rfl, hz15, hz16, (bD hy15 hy16 hz15 hz16 hW3 hu3 hk3).1, (bD hy15 hy16 hz15 hz16 hW3 hu3 hk3).2.1, (bD hy15 hy16 hz15 hz16 hW3 hu3 hk3).2.2.1, (bD hy15 hy16 hz15 hz16 hW3 hu3 hk3).2.2.2, hR⟩
    ·intro K hK
     simp only [List.getD_cons_zero, List.getD_cons_succ]
     go_wp2_with fail
     obtain ⟨w2, hww2⟩ : ∃ W, W = w1.alloc (F2 ⟨0, 0, 0⟩) := ⟨_, rfl⟩
     rw [← hww2]
     have hbw2 : Below w1.heap.size w1 w2 := by rw [hww2]; exact bl1 w1 _
     have hx16 : w2.heap[w1.heap.size]? = some (F2 ⟨0, 0, 0⟩) := by rw [hww2]; exact aC _ rfl
     clear hww2
     have hW2 : Below wu.heap.size wu w2 := hW1.trans (hbw2.mono hW1.size)
     refine aD (hK.out _ _ ⟨⟨_, hW2⟩, rfl⟩ ?_)
     clear hK K
     refine aW 10 _ _ (by kernel_rfl) (by kernel_rfl) rfl rfl ?_
     intro K hK
     simp only [List.getD_cons_zero, List.getD_cons_succ]
     go_wp2_with fail
     refine (hdr w2 hW2).mono ?_
     rintro e w3 hpo
     obtain ⟨u, r, rfl, hbw3, hu, hR⟩ := tI hed hpo
     go_wp2_with fail
     have hW3 : Below wu.heap.size wu w3 := hW2.trans (hbw3.mono hW2.size)
     refine aD (hK.out _ _ ⟨⟨_, hW3⟩, rfl⟩ ?_)
     clear hK K
     refine nT 3 [11, 12, 13, 14] rfl _ rfl (by kernel_rfl) (fun d _ _ _ _ h => by cases d <;> exact h) ?_
     simp only [List.map_cons, List.map_nil, List.getD_cons_zero, List.getD_cons_succ]
     repeat (go_big_quiet_step (fail))
     refine wpQuiet_nil ?_
     have hy15 := aB hbw3 (aB hbw2 (hx15))
     have hy16 := aB hbw3 (hx16)
     have hu3 : ed = 0 → pW w3 wu.heap.size u := fun h => ((hu h).low (hW2.size))
     have e0 : wu.heap.size ≤ w1.heap.size := hbw1.size
     have e1 : w1.heap.size ≤ w2.heap.size := hbw2.size
     have e2 : w2.heap.size ≤ w3.heap.size := hbw3.size
     have l16 : w1.heap.size < w2.heap.size := (Array.getElem?_eq_some_iff.1 hx16).1
     have l15 : wu.heap.size < w1.heap.size := (Array.getElem?_eq_some_iff.1 hx15).1
     have nq1 : ¬ wu.heap.size = w1.heap.size := by omega
     have nq2 : ¬ w1.heap.size = wu.heap.size := by omega
     have hk3 : ed = 0 → ∀ k, (Value.slice u.rx u.rn u.rc).ownBlock = some k → k ≠ w1.heap.size := fun h k hk => by
      have e : w2.heap.size ≤ k ∧ k < w3.heap.size := (hu h).1.lt k hk
      omega
     have hz15 : wu.heap.size ≤ wu.heap.size := Nat.le_refl _
     have hz16 : wu.heap.size ≤ w1.heap.size := hW1.size
     clear hu hdr
     refine aY [17, 18, 19] rfl (by kernel_rfl) ?_
     simp only [List.map_cons, List.map_nil, List.getD_cons_zero, List.getD_cons_succ]
     have p0 := (aA hy15).1 0
     have pz0 := (aA hy15).2 0
     have p1 := (aA hy15).1 1
     have pz1 := (aA hy15).2 1
     have p2 := (aA hy15).1 2
     have pz2 := (aA hy15).2 2
     simp only [List.getElem?_toArray, List.getElem?_cons_zero, List.getElem?_cons_succ] at p0 p1 p2
     have q0 := (aA hy16).1 0
     have qz0 := (aA hy16).2 0
     have q1 := (aA hy16).1 1
     have qz1 := (aA hy16).2 1
     have q2 := (aA hy16).1 2
     have qz2 := (aA hy16).2 2
     simp only [List.getElem?_toArray, List.getElem?_cons_zero, List.getElem?_cons_succ] at q0 q1 q2
     go_wp2_with fail
     go_meet
     case rel => exact ⟨rfl, _, _, u, r, rfl, rfl, hz15, hz16, (bD hy15 hy16 hz15 hz16 hW3 hu3 hk3).1, (bD hy15 hy16 hz15 hz16 hW3 hu3 hk3).2.1, (bD hy15 hy16 hz15 hz16 hW3 hu3 hk3).2.2.1, (bD hy15 hy16 hz15 hz16 hW3 hu3 hk3).2.2.2, hR⟩
   ·have hW0 : Below wu.heap.size wu wu.drew := (Below.refl _ _).drew
    intro K hK
    simp only [List.getD_cons_zero, List.getD_cons_succ]
    go_wp2_with fail
    obtain ⟨w1, hww1⟩ : ∃ W, W = (wu.alloc (F2 ⟨0, 0, 0⟩)).drew := ⟨_, rfl⟩
    rw [← hww1]
    have hbw1 : Below wu.drew.heap.size wu.drew w1 := by rw [hww1]; exact ⟨rfl, rfl, rfl, (bl1 wu _).size, (bl1 wu _).block⟩
    have hx16 : w1.heap[wu.heap.size]? = some (F2 ⟨0, 0, 0⟩) := by rw [hww1]; exact aC (W := wu) _ rfl
    clear hww1
    have hW1 : Below wu.heap.size wu w1 := hW0.trans (hbw1.mono hW0.size)
    refine aD (hK.out _ _ ⟨⟨_, hW1⟩, rfl⟩ ?_)
    clear hK K
    refine iD 10 15 _ _ _ _ (by kernel_rfl) (by kernel_rfl) rfl rfl rfl rfl ?_ ?_
    ·intro K hK
     simp only [List.getD_cons_zero, List.getD_cons_succ]
     go_wp2_with fail
     refine (hdr w1 hW1).mono ?_
     rintro e w2 hpo
     obtain ⟨u, r, rfl, hbw2, hu, hR⟩ := tI hed hpo
     go_wp2_with fail
     have hW2 : Below wu.heap.size wu w2 := hW1.trans (hbw2.mono hW1.size)
     refine aD (hK.out _ _ ⟨⟨_, hW2⟩, rfl⟩ ?_)
     clear hK K
     refine nT 4 [11, 12, 13, 14] rfl _ rfl (by kernel_rfl) (fun d _ _ _ _ h => by cases d <;> exact h) ?_
     simp only [List.map_cons, List.map_nil, List.getD_cons_zero, List.getD_cons_succ]
     repeat (go_big_quiet_step (fail))
     refine wpQuiet_nil ?_
     refine aW 15 _ _ (by kernel_rfl) (by kernel_rfl) rfl rfl ?_
     intro K hK
     simp only [List.getD_cons_zero, List.getD_cons_succ]
     go_wp2_with fail
     obtain ⟨w3, hww3⟩ : ∃ W, W = w2.alloc (cZ 0 (.slice none 0 0) (.slice none 0 0)) := ⟨_, rfl⟩
     rw [← hww3]
     have hbw3 : Below w2.heap.size w2 w3 := by rw [hww3]; exact bl1 w2 _
     have hx15 : w3.heap[w2.heap.size]? = some (cZ 0 (.slice none 0 0) (.slice none 0 0)) := by rw [hww3]; exact aC _ rfl
     clear hww3
     have hW3 : Below wu.heap.size wu w3 := hW2.trans (hbw3.mono hW2.size)
     refine aD (hK.out _ _ ⟨⟨_, hW3⟩, rfl⟩ ?_)
     clear hK K
     have hy15 := hx15
     have hy16 := aB hbw3 (aB hbw2 (hx16))
     have hu3 : ed = 0 → pW w3 wu.heap.size u := fun h => (((hu h).low (hW1.size))).later hbw3
     have e0 : wu.heap.size ≤ w1.heap.size := hbw1.size
     have e1 : w1.heap.size ≤ w2.heap.size := hbw2.size
     have e2 : w2.heap.size ≤ w3.heap.size := hbw3.size
     have l16 : wu.heap.size < w1.heap.size := (Array.getElem?_eq_some_iff.1 hx16).1
     have l15 : w2.heap.size < w3.heap.size := (Array.getElem?_eq_some_iff.1 hx15).1
     have nq1 : ¬ w2.heap.size = wu.heap.size := by omega
     have nq2 : ¬ wu.heap.size = w2.heap.size := by omega
     have hk3 : ed = 0 → ∀ k, (Value.slice u.rx u.rn u.rc).ownBlock = some k → k ≠ wu.heap.size := fun h k hk => by
      have e : w1.heap.size ≤ k ∧ k < w2.heap.size := (hu h).1.lt k hk
      omega
     have hz15 : wu.heap.size ≤ w2.heap.size := hW2.size
     have hz16 : wu.heap.size ≤ wu.heap.size := Nat.le_refl _
     clear hu hdr
     refine aY [17, 18, 19] rfl (by kernel_rfl) ?_
     simp only [List.map_cons, List.map_nil, List.getD_cons_zero, List.getD_cons_succ]
     have p0 := (aA hy15).1 0
     have pz0 := (aA hy15).2 0
     have p1 := (aA hy15).1 1
     have pz1 := (aA hy15).2 1
     have p2 := (aA hy15).1 2
     have pz2 := (aA hy15).2 2
     simp only [List.getElem?_toArray, List.getElem?_cons_zero, List.getElem?_cons_succ] at p0 p1 p2
     have q0 := (aA hy16).1 0
     have qz0 := (aA hy16).2 0
     have q1 := (aA hy16).1 1
     have qz1 := (aA hy16).2 1
     have q2 := (aA hy16).1 2
     have qz2 := (aA hy16).2 2
     simp only [List.getElem?_toArray, List.getElem?_cons_zero, List.getElem?_cons_succ] at q0 q1 q2
     go_wp2_with fail
     go_meet
     case rel => exact ⟨rfl, _, _, u, r, rfl, rfl, hz15, hz16, (bD hy15 hy16 hz15 hz16 hW3 hu3 hk3).1, (bD hy15 hy16 hz15 hz16 hW3 hu3 hk3).2.1, (bD hy15 hy16 hz15 hz16 hW3 hu3 hk3).2.2.1, (bD hy15 hy16 hz15 hz16 hW3 hu3 hk3).2.2.2, hR⟩
    ·intro K hK
     simp only [List.getD_cons_zero, List.getD_cons_succ]
     go_wp2_with fail
     obtain ⟨w2, hww2⟩ : ∃ W, W = w1.alloc (cZ 0 (.slice none 0 0) (.slice none 0 0)) := ⟨_, rfl⟩
     rw [← hww2]
     have hbw2 : Below w1.heap.size w1 w2 := by rw [hww2]; exact bl1 w1 _
     have hx15 : w2.heap[w1.heap.size]? = some (cZ 0 (.slice none 0 0) (.slice none 0 0)) := by rw [hww2]; exact aC _ rfl
     clear hww2
     have hW2 : Below wu.heap.size wu w2 := hW1.trans (hbw2.mono hW1.size)
     refine aD (hK.out _ _ ⟨⟨_, hW2⟩, rfl⟩ ?_)
     clear hK K
     refine aW 10 _ _ (by kernel_rfl) (by kernel_rfl) rfl rfl ?_
     intro K hK
     simp only [List.getD_cons_zero, List.getD_cons_succ]
     go_wp2_with fail
     refine (hdr w2 hW2).mono ?_
     rintro e w3 hpo
     obtain ⟨u, r, rfl, hbw3, hu, hR⟩ := tI hed hpo
     go_wp2_with fail
     have hW3 : Below wu.heap.size wu w3 := hW2.trans (hbw3.mono hW2.size)
     refine aD (hK.out _ _ ⟨⟨_, hW3⟩, rfl⟩ ?_)
     clear hK K
     refine nT 3 [11, 12, 13, 14] rfl _ rfl (by kernel_rfl) (fun d _ _ _ _ h => by cases d <;> exact h) ?_
     simp only [List.map_cons, List.map_nil, List.getD_cons_zero, List.getD_cons_succ]
     repeat (go_big_quiet_step (fail))
     refine wpQuiet_nil ?_
     have hy15 := aB hbw3 (hx15)
     have hy16 := aB hbw3 (aB hbw2 (hx16))
     have hu3 : ed = 0 → pW w3 wu.heap.size u := fun h => ((hu h).low (hW2.size))
     have e0 : wu.heap.size ≤ w1.heap.size := hbw1.size
     have e1 : w1.heap.size ≤ w2.heap.size := hbw2.size
     have e2 : w2.heap.size ≤ w3.heap.size := hbw3.size
     have l16 : wu.heap.size < w1.heap.size := (Array.getElem?_eq_some_iff.1 hx16).1
     have l15 : w1.heap.size < w2.heap.size := (Array.getElem?_eq_some_iff.1 hx15).1
     have nq1 : ¬ w1.heap.size = wu.heap.size := by omega
     have nq2 : ¬ wu.heap.size = w1.heap.size := by omega
     have hk3 : ed = 0 → ∀ k, (Value.slice u.rx u.rn u.rc).ownBlock = some k → k ≠ wu.heap.size := fun h k hk => by
      have e : w2.heap.size ≤ k ∧ k < w3.heap.size := (hu h).1.lt k hk
      omega
     have hz15 : wu.heap.size ≤ w1.heap.size := hW1.size
     have hz16 : wu.heap.size ≤ wu.heap.size := Nat.le_refl _
     clear hu hdr
     refine aY [17, 18, 19] rfl (by kernel_rfl) ?_
     simp only [List.map_cons, List.map_nil, List.getD_cons_zero, List.getD_cons_succ]
     have p0 := (aA hy15).1 0
     have pz0 := (aA hy15).2 0
     have p1 := (aA hy15).1 1
     have pz1 := (aA hy15).2 1
     have p2 := (aA hy15).1 2
     have pz2 := (aA hy15).2 2
     simp only [List.getElem?_toArray, List.getElem?_cons_zero, List.getElem?_cons_succ] at p0 p1 p2
     have q0 := (aA hy16).1 0
     have qz0 := (aA hy16).2 0
     have q1 := (aA hy16).1 1
     have qz1 := (aA hy16).2 1
     have q2 := (aA hy16).1 2
     have qz2 := (aA hy16).2 2
     simp only [List.getElem?_toArray, List.getElem?_cons_zero, List.getElem?_cons_succ] at q0 q1 q2
     go_wp2_with fail
     go_meet
     case rel => exact ⟨rfl, _, _, u, r, rfl, rfl, hz15, hz16, (bD hy15 hy16 hz15 hz16 hW3 hu3 hk3).1, (bD hy15 hy16 hz15 hz16 hW3 hu3 hk3).2.1, (bD hy15 hy16 hz15 hz16 hW3 hu3 hk3).2.2.1, (bD hy15 hy16 hz15 hz16 hW3 hu3 hk3).2.2.2, hR⟩
  case rest =>
   clear s2 a0 a1 a2 k4 k5 hdr
   obtain ⟨rfl, bp, bq, u, r, rfl, rfl, hbp, hbq, hBc, hxp, hxq, hu, hRk⟩ := hcut
   have hSc := hSu.later hBc
   have hcc := aB hBc hcu
   have hBw := hBu.trans (hBc.mono hBu.size)
   clear hSu hcu
   by_cases h0 : ed = 0
   ·obtain ⟨k, hK0⟩ := hRk h0
    have hDk : Hid (V5 (vnAt vs i) cd.a cd.l k u r) := hK0
    have hVt := hu h0
    clear hK0
    subst h0
    clear hu hRk
    go_upto_region 7 with fail
    obtain ⟨hgb, cur, hcur⟩ := hSc.own.row.block
    obtain ⟨y0, y1, y2⟩ := hSc.own.row.cells i hi
    have z0 := hSc.own.row.frozen (i * 3)
    have z1 := hSc.own.row.frozen (i * 3 + 1)
    have z2 := hSc.own.row.frozen (i * 3 + 2)
    have m2 := Ws.here (aU hSc.box 2 rfl)
    have u0 := Ws.here (aU hxp 0 rfl)
    have u1 := Ws.here (aU hxp 1 rfl)
    have u2 := Ws.here (aU hxp 2 rfl)
    refine bQ (fun w' => ∃ u : Ws wc.heap.size wc, w' = u.val) (fun j => decide (j < 8)) 9 _ (by kernel_rfl) rfl rfl ?_
    refine aZ 1 [0, 1, 2, 3, 4, 5, 6, 7] rfl _ rfl (by kernel_rfl) (fun d _ _ _ _ h => by cases d <;> exact h) ⟨⟨_, (Below.refl _ _).drew⟩, rfl⟩ ?_
    simp only [List.map_cons, List.map_nil, List.getD_cons_zero, List.getD_cons_succ]
    repeat (go_big_quiet_step (fail))
    refine wpQuiet_nil ?_
    clear m2 u0 u1 u2
    refine aY [8] rfl (by kernel_rfl) ?_
    simp only [List.map_cons, List.map_nil, List.getD_cons_zero, List.getD_cons_succ]
    have y0 : wc.drew.cell? ⟨g, i * 3, none⟩ = some (.int .i64 (vnAt vs i).id) := y0
    have y1 : wc.drew.cell? ⟨g, i * 3 + 1, none⟩ = some (.slice (vnAt vs i).rx (vnAt vs i).rn (vnAt vs i).rc) := y1
    have y2 : wc.drew.cell? ⟨g, i * 3 + 2, none⟩ = some (.slice (vnAt vs i).sx (vnAt vs i).sn (vnAt vs i).sc) := y2
    go_upto_region 8 with fail
    obtain ⟨w5, hw5⟩ : ∃ w5, w5 = (jM wc g i u).drew := ⟨_, rfl⟩
    have hwu := hBu.size
    have hS5 := (hSc.setV hi (hVt.low (base' := base) (by omega))).later (Below.refl _ _).drew
    have hng : ∀ b ty cs, wc.heap[b]? = some (.cells cs ty) → ty ≠ 41 → b ≠ g := fun b ty cs h1 h2 e => by rw [e, hcur] at h1; simp only [Option.some.injEq, Obj.cells.injEq] at h1; exact h2 h1.2.1.symm
    have hxq5 : (jM wc g i u).drew.heap[bq]? = some (F2 r) := (gB (hng _ _ _ hxq (by decide))).trans hxq
    have hT5 : eQ base bs w (jM wc g i u).drew := ⟨(mR (hBw.mono (by omega)) hgb).drew, fun k cs ty _ h2 h3 => (gB (hng _ _ _ (aB hBw h3) h2)).trans (aB hBw h3)⟩
    rw [← hw5] at hS5 hxq5 hT5
    unfold jM at hw5
    rw [← hw5]
    clear hw5 hSc hcc hxp hxq y0 y1 y2 z0 z1 z2 hcur hng hVt
    have hO5 := hS5.own.bk
    have hk5 : Bk w5 x ps.length c ps := by
     obtain ⟨x', c', e', h'⟩ := hO5.bk (fun i hi => by
      have := (jZ hO5.full hB).n32 _ (poAt_mem hi)
      rw [hO5.full i hi] at this
      omega)
     simp only [Value.slice.injEq] at e'
     obtain ⟨rfl, -, rfl⟩ := e'
     exact h'
    have s0 := Ws.here (aU hS5.box 0 rfl)
    have s1 := Ws.here (aU hS5.box 1 rfl)
    have r0 := Ws.here (aU hxq5 0 rfl)
    have r1 := Ws.here (aU hxq5 1 rfl)
    have r2 := Ws.here (aU hxq5 2 rfl)
    refine aP [0, 1, 2, 3, 4, 5, 6, 7, 8] 9 [10, 11, 12, 13, 14] [15, 16] (by kernel_rfl) (by kernel_rfl) (fun d _ _ _ _ h => by cases d <;> exact h) ?_
    simp only [List.map_cons, List.map_nil, List.getD_cons_zero, List.getD_cons_succ]
    repeat (go_big_quiet_step (fail))
    refine wpQuiet_nil ?_
    clear s0 s1 r0 r1 r2
    intro K hK
    go_wp2_with fail
    refine (D7 t x ps.length c ps r.p r.a r.l w5.drew (hk5.later (Below.refl _ _).drew)).mono ?_
    rintro e w6 ⟨v, rs, t', rfl, hb6, hO6, hE0, hE2⟩
    have hB1 : Below w5.heap.size w5 w6 := ⟨hb6.os, hb6.tape, hb6.output, hb6.size, hb6.block⟩
    go_wp2_with fail
    refine aD (hK.out _ _ hB1 ?_)
    clear hK K
    repeat (go_big_quiet_step (fail))
    refine wpQuiet_nil ?_
    have hS6 := hS5.later hB1
    have hsz5 : base ≤ w5.heap.size := Nat.le_trans hlow (Nat.le_of_lt (Array.getElem?_eq_some_iff.1 hS5.box).1)
    have hT6 : eQ base bs w w6 := hT5.trans (eQ.of hB1 hsz5)
    have hO7 : dN w6 base v rs rs.length := hO6.low hsz5
    obtain ⟨x1, c1, hv1, -⟩ := hO6.row.mem
    subst hv1
    clear hb6 hO6 hE0
    have g0 := (aA hS6.box).1 0
    have gz0 := (aA hS6.box).2 0
    have g1 := (aA hS6.box).1 1
    have gz1 := (aA hS6.box).2 1
    have g2 := (aA hS6.box).1 2
    have gz2 := (aA hS6.box).2 2
    have g3 := (aA hS6.box).1 3
    have gz3 := (aA hS6.box).2 3
    simp only [List.getElem?_toArray, List.getElem?_cons_zero, List.getElem?_cons_succ] at g0 g1 g2 g3
    go_wp2
    go_ret
    obtain ⟨hRg, hr, hu1, hu2, hu3, hu4, hu5⟩ := hDk.out
    refine ⟨_, rfl, (hT6.set hlow).set hlow, .inr ⟨i, hi'.out, hpt.out, .inr ⟨hed, k, hRg, by rw [hr]⟩⟩, fun h => ?_⟩
    refine ⟨t', rs, _, _, _, _, hS6.putB hO7, i, k, u, hi'.out, hpt.out, hed, hRg, rfl, hu1, hu2, hu3, hu4, hu5, ?_⟩
    rw [← hr]
    exact hE2 h
   ·have hne : (ed != 0) = true := by simpa using h0
    have h0' : Hid (ed ≠ 0) := h0
    clear h0 hu hRk
    go_wp2
    go_ret
    exact ⟨_, rfl, eQ.of hBw (by omega), .inr ⟨i, hi'.out, hpt.out, .inl ⟨by rw [hed]; exact h0'.out, hed.symm⟩⟩, fun h => absurd h h0'.out⟩
 ·subst hti
  go_wp2
  go_ret
  exact ⟨5, rfl, eQ.of hBu (by omega), .inl ⟨by rw [hpt.out]; decide, rfl⟩, fun h => absurd h (by decide)⟩
def wY (v : Vn) (cd : Cd) (E n : Int) : Prop :=
 if cd.op = 10 then E = rK v.id v.rn v.rs v.sn v.ss cd.B cd.a cd.l ∧ n = 0 else if cd.op = 11 then E = lC v.id v.rn v.rs v.sn v.ss cd.B ∧ n = 0 else if cd.op = 12 then nA v.id v.rn v.rs v.sn v.ss cd.B cd.C E n else if cd.op = 13 then vN v.id v.rn v.rs v.sn v.ss cd.B cd.C E n else E = wL v.id v.rn v.rs v.sn v.ss cd.B cd.C ∧ n = 0
def P0 (v : Vn) (cd : Cd) (y : Int) (ss' : List Sb) : Prop :=
 if cd.op = 10 then ∃ ts, bG v.ss ts ∧ OB ⟨cd.B, cd.a, cd.l, none, 0, 0, []⟩ ts ss'
 else if cd.op = 11 then ∃ ts i, bG v.ss ts ∧ i < ts.length ∧ (sbAt v.ss i).id = cd.B ∧ (∀ j, j < i → (sbAt v.ss j).id ≠ cd.B) ∧ ss' = ts.take i ++ ts.drop (i + 1)
 else if cd.op = 12 then ∃ ts i x n c fx gs, qL v.sn v.ss cd.B i ∧ mZ (sbAt v.ss i) cd.C 0 y ∧ bG v.ss ts ∧ A8 ⟨cd.C, fx, 1, 1, [y]⟩ (sbAt ts i).fs gs ∧ n = gs.length ∧ ss' = ts.set i (bK (sbAt ts i) x n c gs)
 else if cd.op = 13 then ∃ ts i j x c ns, gY v.sn v.ss cd.B cd.C i j ∧ qM (sbAt v.ss i) (fcAt (sbAt v.ss i).fs j) 0 y ∧ bG v.ss ts ∧ A9 y (fcAt (sbAt ts i).fs j).ns ns ∧ ss' = ts.set i (bK (sbAt ts i) (sbAt ts i).x (sbAt ts i).n (sbAt ts i).c ((sbAt ts i).fs.set j (withA (fcAt (sbAt ts i).fs j) x ns.length c ns)))
 else ∃ ts i j x n c, gY v.sn v.ss cd.B cd.C i j ∧ bG v.ss ts ∧ n = ((sbAt ts i).fs.take j ++ (sbAt ts i).fs.drop (j + 1)).length ∧ ss' = ts.set i (bK (sbAt ts i) x n c ((sbAt ts i).fs.take j ++ (sbAt ts i).fs.drop (j + 1)))
def T2 (v : Vn) (cd : Cd) (y : Int) (u : Vn) : Prop := u.id = v.id ∧ u.rs = v.rs ∧ u.rn = v.rs.length ∧ P0 v cd y u.ss ∧ u.sn = u.ss.length
def rO (F : Value → Int → Int → Value) (v : Vn) (cd : Cd) (w : World) (e : Ending) (w' : World) : Prop :=
 ∃ u n E, e = .returned (F (R8 u) n E) ∧ Below w.heap.size w w' ∧ wY v cd E n ∧ (E = 0 → pW w' w.heap.size u) ∧ (E = 0 → T2 v cd n u)
def wP (V : Value) (_ E : Int) : Value := .tuple #[V, .int .i64 E]
def FQ (V : Value) (n E : Int) : Value := .tuple #[V, .int .i64 n, .int .i64 E]
theorem zG {F : Value → Int → Int → Value} {v : Vn} {cd : Cd} {n : Int} (h0 : E ≠ 0) (hV : V = .agg #[.int .i64 0, .slice none 0 0, .slice none 0 0]) (he : e = .returned (F V n E)) (hb : Below w.heap.size w w') (hA : wY v cd E n) : rO F v cd w e w' :=
 ⟨newV 0, n, E, by rw [he, hV]; rfl, hb, hA, fun h => absurd h h0, fun h => absurd h h0⟩
theorem FR {F : Value → Int → Int → Value} {v : Vn} {cd : Cd} {n : Int} (h : E4 w' w.heap.size v.id V v.rs ss') (he : e = .returned (F V n E)) (hb : Below w.heap.size w w') (hA : wY v cd E n) (hR : P0 v cd n ss') : rO F v cd w e w' := by
 obtain ⟨u, rfl, g1, g2, g3, g4, g5, g6⟩ := h.vn
 exact ⟨u, n, E, he, hb, hA, fun _ => g6, fun _ => ⟨g1, g2, g3, by rw [g4]; exact hR, by rw [g5, g4]⟩⟩
theorem T3 (v : Vn) (cd : Cd) (w : World) (hv : lE w v) (h : cd.op = 10) :
  Calls Tryz.prog 100 #[R8 v, .int .i64 cd.B, .agg #[.int .i64 cd.a, .int .i64 cd.l]] w (rO wP v cd w) := by
 refine (OC v.id v.rx v.rn v.rc v.rs v.sx v.sn v.sc v.ss cd.B cd.a cd.l w hv.2.2.2 hv.1 hv.2.1 hv.2.2.1).mono ?_
 rintro e w' ⟨V, he, hb, h0, h1⟩
 have hA : wY v cd (rK v.id v.rn v.rs v.sn v.ss cd.B cd.a cd.l) 0 := by unfold wY; rw [if_pos h]; exact ⟨rfl, rfl⟩
 by_cases hE : rK v.id v.rn v.rs v.sn v.ss cd.B cd.a cd.l = 0
 ·obtain ⟨ts, ss', hN, hs, hp⟩ := h1 hE
  exact FR (F := wP) hN he hb hA (by unfold P0; rw [if_pos h]; exact ⟨ts, hs, hp⟩)
 ·exact zG (F := wP) hE (h0 hE) he hb hA
theorem PO (v : Vn) (cd : Cd) (w : World) (hv : lE w v) (h : cd.op = 11) :
  Calls Tryz.prog 101 #[R8 v, .int .i64 cd.B] w (rO wP v cd w) := by
 refine (HI v.id v.rx v.rn v.rc v.rs v.sx v.sn v.sc v.ss cd.B w hv.2.2.2 hv.1 hv.2.1 hv.2.2.1).mono ?_
 rintro e w' ⟨V, he, hb, h0, h1⟩
 have hA : wY v cd (lC v.id v.rn v.rs v.sn v.ss cd.B) 0 := by unfold wY; rw [if_neg (by omega), if_pos h]; exact ⟨rfl, rfl⟩
 by_cases hE : lC v.id v.rn v.rs v.sn v.ss cd.B = 0
 ·obtain ⟨ts, i, hs, hi, hy, hn, hN⟩ := h1 hE
  exact FR (F := wP) hN he hb hA (by unfold P0; rw [if_neg (by omega), if_pos h]; exact ⟨ts, i, hs, hi, hy, hn, rfl⟩)
 ·exact zG (F := wP) hE (h0 hE) he hb hA
theorem RA (v : Vn) (cd : Cd) (w : World) (hv : lE w v) (h : cd.op = 12) :
  Calls Tryz.prog 102 #[R8 v, .int .i64 cd.B, .int .i64 cd.C] w (rO FQ v cd w) := by
 refine (KV v.id v.rx v.rn v.rc v.rs v.sx v.sn v.sc v.ss cd.B cd.C w hv.2.2.2 hv.1 hv.2.1 hv.2.2.1).mono ?_
 rintro e w' ⟨V, y, E, he, hb, hA0, h0, h1⟩
 have hA : wY v cd E y := by unfold wY; rw [if_neg (by omega), if_neg (by omega), if_pos h]; exact hA0
 by_cases hE : E = 0
 ·obtain ⟨-, ts, i, x, n, c, fx, gs, g1, g2, g3, g4, g5, hN⟩ := h1 hE
  exact FR (F := FQ) hN he hb hA (by unfold P0; rw [if_neg (by omega), if_neg (by omega), if_pos h]; exact ⟨ts, i, x, n, c, fx, gs, g1, g2, g3, g4, g5, rfl⟩)
 ·exact zG (F := FQ) hE (h0 hE).1 he hb hA
theorem RC (v : Vn) (cd : Cd) (w : World) (hv : lE w v) (h : cd.op = 13) :
  Calls Tryz.prog 103 #[R8 v, .int .i64 cd.B, .int .i64 cd.C] w (rO FQ v cd w) := by
 refine (KW v.id v.rx v.rn v.rc v.rs v.sx v.sn v.sc v.ss cd.B cd.C w hv.2.2.2 hv.1 hv.2.1 hv.2.2.1).mono ?_
 rintro e w' ⟨V, y, E, he, hb, hA0, h0, h1⟩
 have hA : wY v cd E y := by unfold wY; rw [if_neg (by omega), if_neg (by omega), if_neg (by omega), if_pos h]; exact hA0
 by_cases hE : E = 0
 ·obtain ⟨-, ts, i, j, x, c, ns, g1, g2, g3, g4, hN⟩ := h1 hE
  exact FR (F := FQ) hN he hb hA (by unfold P0; rw [if_neg (by omega), if_neg (by omega), if_neg (by omega), if_pos h]; exact ⟨ts, i, j, x, c, ns, g1, g2, g3, g4, rfl⟩)
 ·exact zG (F := FQ) hE (h0 hE).1 he hb hA
theorem LZ (v : Vn) (cd : Cd) (w : World) (hv : lE w v) (h : ¬ cd.op = 10 ∧ ¬ cd.op = 11 ∧ ¬ cd.op = 12 ∧ ¬ cd.op = 13) :
  Calls Tryz.prog 104 #[R8 v, .int .i64 cd.B, .int .i64 cd.C] w (rO wP v cd w) := by
 refine (E5 v.id v.rx v.rn v.rc v.rs v.sx v.sn v.sc v.ss cd.B cd.C w hv.2.2.2 hv.1 hv.2.1 hv.2.2.1).mono ?_
 rintro e w' ⟨V, he, hb, h0, h1⟩
 have hA : wY v cd (wL v.id v.rn v.rs v.sn v.ss cd.B cd.C) 0 := by unfold wY; rw [if_neg h.1, if_neg h.2.1, if_neg h.2.2.1, if_neg h.2.2.2]; exact ⟨rfl, rfl⟩
 by_cases hE : wL v.id v.rn v.rs v.sn v.ss cd.B cd.C = 0
 ·obtain ⟨ts, i, j, x, n, c, g1, g2, g3, hN⟩ := h1 hE
  exact FR (F := wP) hN he hb hA (by unfold P0; rw [if_neg h.1, if_neg h.2.1, if_neg h.2.2.1, if_neg h.2.2.2]; exact ⟨ts, i, j, x, n, c, g1, g2, g3, rfl⟩)
 ·exact zG (F := wP) hE (h0 hE) he hb hA
theorem CZ {v : Vn} {cd : Cd} {n : Int} (h : cd.op ≠ 12 ∧ cd.op ≠ 13) (hA : wY v cd E n) : n = 0 := by
 unfold wY at hA
 rw [if_neg h.1, if_neg h.2] at hA
 split at hA
 ·exact hA.2
 ·split at hA
  ·exact hA.2
  ·exact hA.2
def PP (base bs : Nat) (t : Int) (ps : List Po) (vs : List Vn) (ls : List (Int × Int)) (cd : Cd) (w : World) (e : Ending) (w' : World) : Prop :=
 ∃ E n, e = .returned (.tuple #[.int .i64 n, .int .i64 E]) ∧ eQ base bs w w' ∧ ((aG vs.length vs cd.A < 0 ∧ E = 5 ∧ n = 0) ∨ ∃ k : Nat, k < vs.length ∧ aG vs.length vs cd.A = k ∧ wY (vnAt vs k) cd E n) ∧
  (E = 0 → ∃ (k : Nat) (u : Vn) (vB vV vK : Value), k < vs.length ∧ aG vs.length vs cd.A = k ∧ T2 (vnAt vs k) cd n u ∧ lI w' base bs t ps (vs.set k u) ls vB vV vK)
theorem zH {y : Int} {cd : Cd} {wu w1 : World} (hBw : Below w.heap.size w wu) (hlow : base ≤ bs) (hbl : bs < w.heap.size) (hS : lI wu base bs t ps vs ls vB (.slice (some ⟨g, 0, none⟩) n cap) vK) (hi : i < vs.length) (hpt : aG vs.length vs cd.A = i) (hb : Below wu.heap.size wu w1)
  (hA : wY (vnAt vs i) cd E y) (hV : E = 0 → pW w1 wu.heap.size u) (hR : E = 0 → T2 (vnAt vs i) cd y u) : PP base bs t ps vs ls cd w (.returned (.tuple #[.int .i64 y, .int .i64 E])) (jM w1 g i u) := by
 have hS1 := hS.later hb
 obtain ⟨hgb, cur, hcur⟩ := hS1.own.row.block
 have hBw1 := hBw.trans (hb.mono hBw.size)
 have hng : ∀ b ty cs, w1.heap[b]? = some (.cells cs ty) → ty ≠ 41 → b ≠ g := fun b ty cs h1 h2 e => by rw [e, hcur] at h1; simp only [Option.some.injEq, Obj.cells.injEq] at h1; exact h2 h1.2.1.symm
 have hz := hBw.size
 refine ⟨E, y, rfl, ⟨mR (hBw1.mono (by omega)) hgb, fun k cs ty _ h2 h3 => (gB (hng _ _ _ (aB hBw1 h3) h2)).trans (aB hBw1 h3)⟩, .inr ⟨i, hi, hpt, hA⟩, fun h => ⟨i, u, _, _, _, hi, hpt, hR h, hS1.setV hi ((hV h).low (by omega))⟩⟩
theorem iU (base bs : Nat) (t : Int) (ps : List Po) (vs : List Vn) (ls : List (Int × Int)) (vB vV vK : Value) (cd : Cd) (w : World) (hS : lI w base bs t ps vs ls vB vV vK) (hB : aS t ps = 0) (hv6 : vs.length ≤ 6) :
  Calls Tryz.prog 52 #[.pointer (some ⟨bs, 0, none⟩), R7 cd] w (PP base bs t ps vs ls cd w) := by
 have hbl : bs < w.heap.size := (Array.getElem?_eq_some_iff.1 hS.box).1
 have hlow := hS.low
 obtain ⟨x, c, X, C, Y, D, rfl, rfl, rfl, hk, hvs, hvc, hv63, hps, hl63⟩ := hS.see hB
 go_enter Tryz.func52, Tryz.ntmps52
 go_upto_region 1 with fail
 obtain ⟨w0, hw0⟩ : ∃ w0, w0 = w.alloc (CY cd) := ⟨_, rfl⟩
 rw [← hw0]
 have hB0 : Below w.heap.size w w0 := by rw [hw0]; exact bl1 w _
 have hq0 : w0.heap[w.heap.size]? = some (CY cd) := by rw [hw0]; exact aC _ rfl
 have hS0 := hS.later hB0
 clear hw0
 have s2 := Ws.here (aU hS0.box 2 rfl)
 have s3 := Ws.here (aU hS0.box 3 rfl)
 have k1 := Ws.here (aU hq0 1 rfl)
 obtain ⟨tp, htp⟩ : ∃ tp, aG vs.length vs cd.A = tp := ⟨_, rfl⟩
 have hpc := vplace_cases vs.length vs cd.A
 rw [htp] at hpc
 refine aI w0.heap.size (by kernel_rfl) (by kernel_rfl) ?_
 repeat (go_big_quiet_step (first | (go_at_call 94; exact Calls.in_ws (Nat.le_refl _) (uQ cd.A X vs.length C vs Y ls.length D tp htp _ (hvs.later (hB0.trans ((Ws.property _).mono hB0.size))) (by omega)))))
 refine wpQuiet_nil ?_
 rintro _ ⟨u, rfl⟩
 have hBu := hB0.trans (u.property.mono hB0.size)
 have hcu := aB u.property hq0
 have hSu := hS0.later u.property
 generalize u.val = wu at hBu hcu hSu ⊢
 clear u
 clear s2 s3 k1 hS0 hq0
 have hpt : Hid (aG vs.length vs cd.A = tp) := htp
 clear htp
 rcases hpc with ⟨i, hi, -, hti⟩ | hti
 ·subst hti
  have hi0 : ¬ ((i : Int) < 0) := by omega
  have hi' : Hid (i < vs.length) := hi
  obtain ⟨g, C2, hvV⟩ := hSu.own.row.held (by omega)
  simp only [Value.slice.injEq] at hvV
  obtain ⟨rfl, -, rfl⟩ := hvV
  have hvp := (hSu.own.net _ (bS hi)).ok
  have hi1 : (i : Int) < vs.length := by omega
  have hi2 : (0 : Int) ≤ i := by omega
  have m2 := aU hSu.box 2 rfl
  have m0 := aU hcu 0 rfl
  obtain ⟨y0, y1, y2⟩ := hSu.own.row.cells i hi
  by_cases h10 : cd.op = 10
  ·have hd10 : (cd.op == 10) = true := by simpa using h10
   have hq : Hid (cd.op = 10) := h10
   clear h10
   go_upto_region 8 with fail
   have a0 := Ws.here y0
   have a1 := Ws.here y1
   have a2 := Ws.here y2
   have k2 := Ws.here (aU hcu 2 rfl)
   have k4 := Ws.here (aU hcu 4 rfl)
   have k5 := Ws.here (aU hcu 5 rfl)
   refine aP [0, 1, 2, 3, 4, 5, 6, 7] 8 [9, 10, 11, 12] [13, 14] (by kernel_rfl) (by kernel_rfl) (fun d _ _ _ _ h => by cases d <;> exact h) ?_
   simp only [List.map_cons, List.map_nil, List.getD_cons_zero, List.getD_cons_succ]
   repeat (go_big_quiet_step (fail))
   refine wpQuiet_nil ?_
   clear a0 a1 a2 k2 k4 k5
   intro K hK
   go_wp2_with fail
   refine (T3 (vnAt vs i) cd wu.drew (hvp.later (Below.refl _ _).drew) hq.out).mono ?_
   rintro e w1 ⟨u, n, E, rfl, hb1, hA, hV, hR⟩
   have hB1 : Below wu.heap.size wu w1 := ⟨hb1.os, hb1.tape, hb1.output, hb1.size, hb1.block⟩
   unfold wP
   go_wp2_with fail
   refine aD (hK.out _ _ hB1 ?_)
   clear hK K
   repeat (go_big_quiet_step (fail))
   refine wpQuiet_nil ?_
   obtain ⟨b0, b1, b2⟩ := (hSu.later hB1).own.row.cells i hi
   have z0 := (hSu.later hB1).own.row.frozen (i * 3)
   have z1 := (hSu.later hB1).own.row.frozen (i * 3 + 1)
   have z2 := (hSu.later hB1).own.row.frozen (i * 3 + 2)
   go_wp2
   refine bodyPost_ret (v := .tuple #[.int .i64 0, .int .i64 E]) (by simp [results, Tryz.results52, go_sem]) rfl ?_
   have hn0 : n = 0 := CZ (by have := hq.out; omega) hA
   subst hn0
   exact zH hBu hlow hbl hSu hi'.out hpt.out hB1 hA hV hR
  ·have hd10 : (cd.op == 10) = false := by simpa using h10
   by_cases h11 : cd.op = 11
   ·have hd11 : (cd.op == 11) = true := by simpa using h11
    have hq : Hid (cd.op = 11) := h11
    clear h11
    go_upto_region 10 with fail
    have a0 := Ws.here y0
    have a1 := Ws.here y1
    have a2 := Ws.here y2
    have k2 := Ws.here (aU hcu 2 rfl)
    refine aP [0, 1, 2, 3, 4, 5] 6 [7, 8, 9, 10] [11, 12] (by kernel_rfl) (by kernel_rfl) (fun d _ _ _ _ h => by cases d <;> exact h) ?_
    simp only [List.map_cons, List.map_nil, List.getD_cons_zero, List.getD_cons_succ]
    repeat (go_big_quiet_step (fail))
    refine wpQuiet_nil ?_
    clear a0 a1 a2 k2
    intro K hK
    go_wp2_with fail
    refine (PO (vnAt vs i) cd wu.drew (hvp.later (Below.refl _ _).drew) hq.out).mono ?_
    rintro e w1 ⟨u, n, E, rfl, hb1, hA, hV, hR⟩
    have hB1 : Below wu.heap.size wu w1 := ⟨hb1.os, hb1.tape, hb1.output, hb1.size, hb1.block⟩
    unfold wP
    go_wp2_with fail
    refine aD (hK.out _ _ hB1 ?_)
    clear hK K
    repeat (go_big_quiet_step (fail))
    refine wpQuiet_nil ?_
    obtain ⟨b0, b1, b2⟩ := (hSu.later hB1).own.row.cells i hi
    have z0 := (hSu.later hB1).own.row.frozen (i * 3)
    have z1 := (hSu.later hB1).own.row.frozen (i * 3 + 1)
    have z2 := (hSu.later hB1).own.row.frozen (i * 3 + 2)
    go_wp2
    refine bodyPost_ret (v := .tuple #[.int .i64 0, .int .i64 E]) (by simp [results, Tryz.results52, go_sem]) rfl ?_
    have hn0 : n = 0 := CZ (by have := hq.out; omega) hA
    subst hn0
    exact zH hBu hlow hbl hSu hi'.out hpt.out hB1 hA hV hR
   ·have hd11 : (cd.op == 11) = false := by simpa using h11
    by_cases h12 : cd.op = 12
    ·have hd12 : (cd.op == 12) = true := by simpa using h12
     have hq : Hid (cd.op = 12) := h12
     clear h12
     go_upto_region 12 with fail
     have a0 := Ws.here y0
     have a1 := Ws.here y1
     have a2 := Ws.here y2
     have k2 := Ws.here (aU hcu 2 rfl)
     have k3 := Ws.here (aU hcu 3 rfl)
     refine aP [0, 1, 2, 3, 4, 5, 6, 7] 8 [9, 10, 11, 12, 13] [14, 15, 16] (by kernel_rfl) (by kernel_rfl) (fun d _ _ _ _ h => by cases d <;> exact h) ?_
     simp only [List.map_cons, List.map_nil, List.getD_cons_zero, List.getD_cons_succ]
     repeat (go_big_quiet_step (fail))
     refine wpQuiet_nil ?_
     clear a0 a1 a2 k2 k3
     intro K hK
     go_wp2_with fail
     refine (RA (vnAt vs i) cd wu.drew (hvp.later (Below.refl _ _).drew) hq.out).mono ?_
     rintro e w1 ⟨u, n, E, rfl, hb1, hA, hV, hR⟩
     have hB1 : Below wu.heap.size wu w1 := ⟨hb1.os, hb1.tape, hb1.output, hb1.size, hb1.block⟩
     unfold FQ
     go_wp2_with fail
     refine aD (hK.out _ _ hB1 ?_)
     clear hK K
     repeat (go_big_quiet_step (fail))
     refine wpQuiet_nil ?_
     obtain ⟨b0, b1, b2⟩ := (hSu.later hB1).own.row.cells i hi
     have z0 := (hSu.later hB1).own.row.frozen (i * 3)
     have z1 := (hSu.later hB1).own.row.frozen (i * 3 + 1)
     have z2 := (hSu.later hB1).own.row.frozen (i * 3 + 2)
     go_wp2
     refine bodyPost_ret (v := .tuple #[.int .i64 n, .int .i64 E]) (by simp [results, Tryz.results52, go_sem]) rfl ?_
     exact zH hBu hlow hbl hSu hi'.out hpt.out hB1 hA hV hR
    ·have hd12 : (cd.op == 12) = false := by simpa using h12
     by_cases h13 : cd.op = 13
     ·have hd13 : (cd.op == 13) = true := by simpa using h13
      have hq : Hid (cd.op = 13) := h13
      clear h13
      go_upto_region 14 with fail
      have a0 := Ws.here y0
      have a1 := Ws.here y1
      have a2 := Ws.here y2
      have k2 := Ws.here (aU hcu 2 rfl)
      have k3 := Ws.here (aU hcu 3 rfl)
      refine aP [0, 1, 2, 3, 4, 5, 6, 7] 8 [9, 10, 11, 12, 13] [14, 15, 16] (by kernel_rfl) (by kernel_rfl) (fun d _ _ _ _ h => by cases d <;> exact h) ?_
      simp only [List.map_cons, List.map_nil, List.getD_cons_zero, List.getD_cons_succ]
      repeat (go_big_quiet_step (fail))
      refine wpQuiet_nil ?_
      clear a0 a1 a2 k2 k3
      intro K hK
      go_wp2_with fail
      refine (RC (vnAt vs i) cd wu.drew (hvp.later (Below.refl _ _).drew) hq.out).mono ?_
      rintro e w1 ⟨u, n, E, rfl, hb1, hA, hV, hR⟩
      have hB1 : Below wu.heap.size wu w1 := ⟨hb1.os, hb1.tape, hb1.output, hb1.size, hb1.block⟩
      unfold FQ
      go_wp2_with fail
      refine aD (hK.out _ _ hB1 ?_)
      clear hK K
      repeat (go_big_quiet_step (fail))
      refine wpQuiet_nil ?_
      obtain ⟨b0, b1, b2⟩ := (hSu.later hB1).own.row.cells i hi
      have z0 := (hSu.later hB1).own.row.frozen (i * 3)
      have z1 := (hSu.later hB1).own.row.frozen (i * 3 + 1)
      have z2 := (hSu.later hB1).own.row.frozen (i * 3 + 2)
      go_wp2
      refine bodyPost_ret (v := .tuple #[.int .i64 n, .int .i64 E]) (by simp [results, Tryz.results52, go_sem]) rfl ?_
      exact zH hBu hlow hbl hSu hi'.out hpt.out hB1 hA hV hR
     ·have hd13 : (cd.op == 13) = false := by simpa using h13
      have hq : Hid (¬ cd.op = 10 ∧ ¬ cd.op = 11 ∧ ¬ cd.op = 12 ∧ ¬ cd.op = 13) := ⟨h10, h11, h12, h13⟩
      clear h10 h11 h12 h13
      go_upto_region 6 with fail
      have a0 := Ws.here y0
      have a1 := Ws.here y1
      have a2 := Ws.here y2
      have k2 := Ws.here (aU hcu 2 rfl)
      have k3 := Ws.here (aU hcu 3 rfl)
      refine aP [0, 1, 2, 3, 4, 5, 6, 7] 8 [9, 10, 11, 12] [13, 14] (by kernel_rfl) (by kernel_rfl) (fun d _ _ _ _ h => by cases d <;> exact h) ?_
      simp only [List.map_cons, List.map_nil, List.getD_cons_zero, List.getD_cons_succ]
      repeat (go_big_quiet_step (fail))
      refine wpQuiet_nil ?_
      clear a0 a1 a2 k2 k3
      intro K hK
      go_wp2_with fail
      refine (LZ (vnAt vs i) cd wu.drew (hvp.later (Below.refl _ _).drew) hq.out).mono ?_
      rintro e w1 ⟨u, n, E, rfl, hb1, hA, hV, hR⟩
      have hB1 : Below wu.heap.size wu w1 := ⟨hb1.os, hb1.tape, hb1.output, hb1.size, hb1.block⟩
      unfold wP
      go_wp2_with fail
      refine aD (hK.out _ _ hB1 ?_)
      clear hK K
      repeat (go_big_quiet_step (fail))
      refine wpQuiet_nil ?_
      obtain ⟨b0, b1, b2⟩ := (hSu.later hB1).own.row.cells i hi
      have z0 := (hSu.later hB1).own.row.frozen (i * 3)
      have z1 := (hSu.later hB1).own.row.frozen (i * 3 + 1)
      have z2 := (hSu.later hB1).own.row.frozen (i * 3 + 2)
      go_wp2
      refine bodyPost_ret (v := .tuple #[.int .i64 0, .int .i64 E]) (by simp [results, Tryz.results52, go_sem]) rfl ?_
      have hn0 : n = 0 := CZ (by have := hq.out; omega) hA
      subst hn0
      exact zH hBu hlow hbl hSu hi'.out hpt.out hB1 hA hV hR
 ·subst hti
  go_wp2
  refine bodyPost_ret (v := .tuple #[.int .i64 0, .int .i64 5]) (by simp [results, Tryz.results52, go_sem]) rfl ?_
  exact ⟨5, 0, rfl, eQ.of hBu (by omega), .inl ⟨by rw [hpt.out]; decide, rfl, rfl⟩, fun h => absurd h (by decide)⟩
end Go.Proofs.YtndpilfpejfloaaGreat
