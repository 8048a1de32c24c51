/- A part of the proof. -/
import Derived.Test.YtndpilfpejfloaaGreatMC11
set_option maxRecDepth 100000
set_option maxHeartbeats 20000000
namespace Go.Proofs.YtndpilfpejfloaaGreat
variable {r : Rg} {rs rs' : List Rg} {w w' : World} {x lx rx sx fx : Option Addr} {n c ln lc i base p j rn sn k sn' : Nat} {vs us : List Vn} {eg a b m vid y l : Int} {v u : Vn} {e : Ending} {fs gs : List Fc} {ss ts ss' : List Sb} {V : Value} {ms ls ps : List (Int × Int)} {q : Int × Int} {ns : List Int} {s : Sb}
open Go.RowKit Go.Shelf
def posRg (r : Rg) (rs : List Rg) : Nat := ((List.range rs.length).find? fun i => decide (r.a < (aJ rs i).a)).getD rs.length
def gV (r : Rg) (rs : List Rg) : List Rg := rs.take (posRg r rs) ++ [r] ++ rs.drop (posRg r rs)
theorem LR (h : SQ r rs rs') : rs' = gV r rs := by
 obtain ⟨i, hi, hlo, hup, rfl⟩ := h
 have : posRg r rs = i := by
  unfold posRg
  by_cases h : i < rs.length
  ·have : (List.range rs.length).find? (fun i => decide (r.a < (aJ rs i).a)) = some i := by
    rw [List.find?_range_eq_some]
    exact ⟨by simpa using hup h, by simpa using h, fun j hj => by simpa using hlo j hj⟩
   rw [this]
   rfl
  ·obtain rfl : i = rs.length := by omega
   have : (List.range rs.length).find? (fun i => decide (r.a < (aJ rs i).a)) = none := by
    rw [List.find?_eq_none]
    intro j hj
    have := hlo j (by simpa using hj)
    simpa using this
   rw [this]
   rfl
 unfold gV
 rw [this]
theorem B4 : (gV r rs).length = rs.length + 1 := by
 have h1 : rs.length = (rs.take (posRg r rs)).length + (rs.drop (posRg r rs)).length := by
  rw [← List.length_append, List.take_append_drop]
 unfold gV
 rw [List.length_append, List.length_append, List.length_singleton]
 omega
def zV (v : Vn) (rs : List Rg) : Vn := ⟨v.id, v.rx, rs.length, v.rc, rs, v.sx, v.sn, v.sc, v.ss⟩
def growVs (vs : List Vn) (i : Nat) (r : Rg) : List Vn := vs.set i (zV (aC vs i) (gV r (aC vs i).rs))
def iZ (n : Nat) (vs : List Vn) (ln : Nat) (ls : List (Int × Int)) (id : Int) (r : Rg) : Int :=
 if bU n vs ln ls = 0 then (if aI n vs id < 0 then 5 else if eV (aC vs (aI n vs id).toNat).id (aC vs (aI n vs id).toNat).rn (aC vs (aI n vs id).toNat).rs (aC vs (aI n vs id).toNat).sn (aC vs (aI n vs id).toNat).ss r = 0 then (if sX ls n (growVs vs (aI n vs id).toNat r) = false then 9 else 0) else eV (aC vs (aI n vs id).toNat).id (aC vs (aI n vs id).toNat).rn (aC vs (aI n vs id).toNat).rs (aC vs (aI n vs id).toNat).sn (aC vs (aI n vs id).toNat).ss r) else bU n vs ln ls
def uY (n : Nat) (vs : List Vn) (ls : List (Int × Int)) (id : Int) (r : Rg) (us : List Vn) (ms : List (Int × Int)) : Prop := cI (growVs vs (aI n vs id).toNat r) us ∧ ms = ls
theorem vplace_cases (n : Nat) (vs : List Vn) (id : Int) : (∃ i : Nat, i < n ∧ (aC vs i).id = id ∧ aI n vs id = i) ∨ aI n vs id = -1 := by
 unfold aI
 cases h : (List.range n).find? (fun i => (aC vs i).id == id) with
 | none => exact .inr rfl
 | some i =>
  obtain ⟨h1, h2, -⟩ := List.find?_range_eq_some.1 h
  exact .inl ⟨i, by simpa using h2, by simpa using h1, rfl⟩
structure TQ (w W : World) (x : Option Addr) (n c : Nat) (lx : Option Addr) (ln lc : Nat) (r : Rg) : Prop where
 hb : W.heap[w.heap.size]? = some (sW x n c lx ln lc)
 hp : W.heap[w.heap.size + 1]? = some (.cells #[.int .i64 r.a, .int .i64 r.l, .int .i64 r.p] 51)
 hs : W.heap[w.heap.size + 2]? = some (eF (.slice none 0 0) (.slice none 0 0))
 below : Below w.heap.size w W
theorem TQ.later {W W' : World} (h : TQ w W x n c lx ln lc r) (hb : Below W.heap.size W W') : TQ w W' x n c lx ln lc r :=
 ⟨aA hb h.hb, aA hb h.hp, aA hb h.hs, h.below.trans (hb.mono h.below.size)⟩
theorem PF : dG (growVs vs i r) = dG vs := by
 unfold growVs dG
 refine List.ext_getElem (by simp) fun j h1 h2 => ?_
 have hj : j < vs.length := by simpa using h2
 rw [List.getElem_map, List.getElem_map, List.getElem_set]
 split
 ·rename_i e
  subst e
  rw [← gK hj]
  rfl
 ·rfl
theorem JL (hl : v.ss.length = v.sn) (he : eV v.id v.rn v.rs v.sn v.ss r = eg) (h : fY v.id v.rn v.rs v.sn v.ss r w e w') :
  ∃ u : Vn, e = .returned (.tuple #[WU u, .int .i64 eg]) ∧ Below w.heap.size w w' ∧ (eg = 0 → mD w' w.heap.size u ∧ nI (zV v (gV r v.rs)) u) := by
 obtain ⟨V, h1, h2, h3, h4⟩ := h
 rw [he] at h1 h3 h4
 by_cases h0 : eg = 0
 ·obtain ⟨u, rfl, hu, hid, hpr, hss⟩ := h4 h0
  refine ⟨u, h1, h2, fun _ => ⟨hu, ?_⟩⟩
  have hrs := LR hpr
  obtain ⟨x1, c1, e1, -⟩ := hu.1.rs
  obtain ⟨x2, c2, e2, -⟩ := hu.2.subs
  simp only [Value.slice.injEq] at e1 e2
  refine ⟨hid.symm, ?_, hrs.symm, ?_, hss⟩
  ·rw [e1.2.1, hrs]
   rfl
  ·show v.sn = u.sn
   rw [e2.2.1, ← hl]
   exact hss.1
 ·refine ⟨VK, ?_, h2, fun h => absurd h h0⟩
  rw [h1, h3 h0]
  rfl
theorem cI.grow (h : cI vs us) (hi : i < vs.length) (hu : nI (zV (aC vs i) (gV r (aC vs i).rs)) u) : cI (growVs vs i r) (us.set i u) := by
 unfold growVs
 refine ⟨by rw [List.length_set, List.length_set]; exact h.1, fun j hj => ?_⟩
 rw [List.length_set] at hj
 rw [cH hi, cH (by rw [← h.1]; exact hi)]
 by_cases e : i = j
 ·rw [if_pos e, if_pos e]; exact hu
 ·rw [if_neg e, if_neg e]; exact h.2 j hj
theorem LT (x : Option Addr) (n c : Nat) (vs : List Vn) (lx : Option Addr) (ln lc : Nat) (ls : List (Int × Int)) (id : Int) (r : Rg) (w : World) (hp : VS w x n vs) (hn : n ≤ 9223372036854775807) (hnc : n ≤ c) (hl : PS w lx ln ls) (hln : ln ≤ 9223372036854775807) :
  Calls Tryz.prog 98 #[.agg #[.slice x n c, .slice lx ln lc], .int .i64 id, .agg #[.int .i64 r.a, .int .i64 r.l, .int .i64 r.p]] w (dJ (iZ n vs ln ls id r) (uY n vs ls id r) w) := by
 have hvl : Hid (vs.length = n) := hp.len
 have hll : Hid (ls.length = ln) := hl.len
 obtain ⟨E, hEE⟩ : ∃ E, E = iZ n vs ln ls id r := ⟨_, rfl⟩
 rw [← hEE]
 unfold iZ at hEE
 replace hEE := Hid.mk' hEE
 go_enter Tryz.func98, Tryz.ntmps98
 go_upto_region 1 with fail
 obtain ⟨w0, hw0⟩ : ∃ w0, w0 = ((w.alloc (sW x n c lx ln lc)).alloc (.cells #[.int .i64 r.a, .int .i64 r.l, .int .i64 r.p] 51)).alloc (eF (.slice none 0 0) (.slice none 0 0)) := ⟨_, rfl⟩
 rw [← hw0]
 have hT0 : TQ w w0 x n c lx ln lc r := by
  rw [hw0]
  exact ⟨aF _ (aF _ (aB _ rfl)), aF _ (aB _ (by simp)), aB _ (by simp), (cC w _ _).trans ((bl1 _ _).mono (by simp; omega))⟩
 clear hw0
 obtain ⟨k0, k1⟩ := aR hT0.hb rfl rfl
 obtain ⟨ks0, ks1⟩ := aR hT0.hs rfl rfl
 obtain ⟨kz0, kz1⟩ := cA hT0.hs
 by_cases hc0 : bU n vs ln ls = 0
 ·have hck := fX x n c vs lx ln lc ls 0 hc0 w0 (hp.later hT0.below) hn hnc (hl.later hT0.below) hln
  obtain ⟨h6, h12, hfew⟩ := rQ hc0
  rw [if_pos hc0] at hEE
  obtain ⟨-, -, hvb, hlb, -⟩ := eR hc0
  have hvf := yX hvb
  have hlk0 := uS hvl.out hlb
  have hr4 : ∀ i, i < n → (aC vs i).rs.length ≤ 4 := fun i hi => by
   rw [(hp.vps i hi).2.2.2.ranges.len]
   exact (cN (lY hvb i hi)).1
  clear hc0 hvb hlb
  go_wp2_with fail
  refine hck.mono ?_
  rintro e w1 ⟨rfl, hb⟩
  have hT1 := hT0.later hb
  clear k0 k1 ks0 ks1 kz0 kz1
  obtain ⟨k0, k1⟩ := aR hT1.hb rfl rfl
  obtain ⟨ks0, ks1⟩ := aR hT1.hs rfl rfl
  obtain ⟨kz0, kz1⟩ := cA hT1.hs
  clear hck
  obtain ⟨t, ht⟩ : ∃ t, aI n vs id = t := ⟨_, rfl⟩
  have hpl := sV id x n c vs lx ln lc t ht w1 (hp.later hT1.below) (by omega)
  have hvc := vplace_cases n vs id
  have hRt : Hid (∀ us ms, cI (growVs vs t.toNat r) us → ms = ls → uY n vs ls id r us ms) := fun us ms h1 h2 => ⟨by rw [ht]; exact h1, h2⟩
  rw [ht] at hEE hvc
  clear ht
  rcases hvc with ⟨i, hi, -, hti⟩ | hti
  ·subst hti
   have hi0 : ¬ ((i : Int) < 0) := by omega
   rw [if_neg hi0, Int.toNat_natCast] at hEE
   rw [Int.toNat_natCast] at hRt
   go_wp2_with fail
   refine hpl.mono ?_
   rintro e w2 ⟨rfl, hb⟩
   have hT2 := hT1.later hb
   clear k0 k1 ks0 ks1 kz0 kz1
   obtain ⟨k0, k1⟩ := aR hT2.hb rfl rfl
   obtain ⟨ks0, ks1⟩ := aR hT2.hs rfl rfl
   obtain ⟨kz0, kz1⟩ := cA hT2.hs
   clear hpl
   have hi' : Hid (i < n) := hi
   have hvp := (hp.later hT2.below).vps i hi
   have hgr := fun W (hW : Below w2.heap.size w2 W) => IL (aC vs i).id (aC vs i).rx (aC vs i).rn (aC vs i).rc (aC vs i).rs (aC vs i).sx (aC vs i).sn (aC vs i).sc (aC vs i).ss r W (hvp.2.2.2.later hW) hvp.1 hvp.2.1 hvp.2.2.1
   have hsl : Hid ((aC vs i).ss.length = (aC vs i).sn) := hvp.2.2.2.subs.len
   obtain ⟨bx, ox, hxo, d0, d1, d2⟩ := (hp.later hT2.below).cells i hi
   subst hxo
   have hi1 : (i : Int) < n := by omega
   have a0 := Ws.here k0
   have a1 := Ws.here d0
   have a2 := Ws.here d1
   have a3 := Ws.here d2
   have a4 := Ws.here (aX hT2.hp 0 rfl)
   have a5 := Ws.here (aX hT2.hp 1 rfl)
   have a6 := Ws.here (aX hT2.hp 2 rfl)
   go_upto_region 7 with fail
   clear d0 d1 d2
   obtain ⟨eg, heg⟩ : ∃ eg, eV (aC vs i).id (aC vs i).rn (aC vs i).rs (aC vs i).sn (aC vs i).ss r = eg := ⟨_, rfl⟩
   rw [heg] at hEE
   go_cut [10, 11] (fun p v wd => v = .int .i64 eg ∧ ∃ bp u, p = .pointer (some ⟨bp, 0, none⟩) ∧ w2.heap.size ≤ bp ∧ Below w2.heap.size w2 wd ∧ wd.heap[bp]? = some (T7 u) ∧ (eg = 0 → mD wd w2.heap.size u ∧ nI (zV (aC vs i) (gV r (aC vs i).rs)) u))
   case first =>
    clear k0 k1 ks0 ks1 kz0 kz1
    have hbd : Below w2.heap.size w2 w2.drew := (zD).drew
    refine bG (fun w' => ∃ u : Ws w2.heap.size w2, w' = u.val) (fun j => decide (j < 12)) 13 _ (by kernel_rfl) rfl rfl ?_
    refine aY 7 [0, 1, 2, 3, 4, 5] rfl _ rfl (by kernel_rfl) (fun d _ _ _ _ h => by cases d <;> exact h) ⟨⟨_, hbd⟩, rfl⟩ ?_
    simp only [zK, zM, zI, zJ]
    repeat (go_big_quiet_step (fail))
    refine wpQuiet_nil ?_
    clear a0 a1 a2 a3 a4 a5 a6
    refine dU 6 10 _ _ _ _ (by kernel_rfl) (by kernel_rfl) rfl rfl rfl rfl ?_ ?_
    ·intro K hK
     simp only [zI, zJ]
     go_wp2_with fail
     refine (hgr w2.drew hbd).mono ?_
     rintro e w3 hpo
     obtain ⟨u, rfl, hb3, hu⟩ := JL hsl.out heg hpo
     have hB3 : Below w2.heap.size w2 w3 := ⟨hb3.os, hb3.tape, hb3.output, hb3.size, hb3.block⟩
     go_wp2_with fail
     refine aD (hK.out _ _ ⟨⟨_, hB3⟩, rfl⟩ ?_)
     clear hK K
     refine aY 3 [7, 8, 9] rfl _ rfl (by kernel_rfl) (fun d _ _ _ _ h => by cases d <;> exact h) ⟨⟨_, hB3⟩, rfl⟩ ?_
     simp only [zK, zM, zI, zJ]
     repeat (go_big_quiet_step (fail))
     refine wpQuiet_nil ?_
     refine aS 10 _ _ (by kernel_rfl) (by kernel_rfl) rfl rfl ?_
     intro K hK
     simp only [zI, zJ]
     go_wp2_with fail
     have hB4 : Below w2.heap.size w2 (w3.alloc (dH 0 (.slice none 0 0) (.slice none 0 0))) := hB3.trans ((bl1 w3 _).mono hB3.size)
     refine aD (hK.out _ _ ⟨⟨_, hB4⟩, rfl⟩ ?_)
     clear hK K
     obtain ⟨w4, hw4⟩ : ∃ w4, w4 = w3.alloc (dH 0 (.slice none 0 0) (.slice none 0 0)) := ⟨_, rfl⟩
     rw [← hw4] at hB4 ⊢
     have h34 : Below w3.heap.size w3 w4 := by rw [hw4]; exact bl1 w3 _
     have hy : w4.heap[w3.heap.size]? = some (dH 0 (.slice none 0 0) (.slice none 0 0)) := by rw [hw4]; exact aB _ rfl
     clear hw4
     have hnb : w2.heap.size ≤ w3.heap.size := hB3.size
     have hu4 := fun h => ((hu h).1.low (base' := w2.heap.size) (zE)).later h34
     have hsu := fun h => (hu h).2
     obtain ⟨bp, hbp⟩ : ∃ bp, bp = w3.heap.size := ⟨_, rfl⟩
     rw [← hbp] at hy hnb ⊢
     clear hbp
     obtain ⟨q0, q1, q2⟩ := bL hy rfl rfl rfl
     obtain ⟨f0, f1, f2⟩ := dS hy
     refine aS 11 _ _ (by kernel_rfl) (by kernel_rfl) rfl rfl ?_
     intro K hK
     simp only [zI, zJ]
     go_wp2_with fail
     have hB5 : Below w2.heap.size w2 (((w4.setCell ⟨bp, 0, none⟩ (.int .i64 u.id)).setCell ⟨bp, 1, none⟩ (.slice u.rx u.rn u.rc)).setCell ⟨bp, 2, none⟩ (.slice u.sx u.sn u.sc)) := ((hB4.setCell (p := ⟨bp, 0, none⟩) hnb _).setCell (p := ⟨bp, 1, none⟩) hnb _).setCell (p := ⟨bp, 2, none⟩) hnb _
     refine aD (hK.out _ _ ⟨⟨_, hB5⟩, rfl⟩ ?_)
     clear hK K q0 q1 q2 f0 f1 f2
     refine aU [12] rfl (by kernel_rfl) ?_
     simp only [zK, zM, zI, zJ]
     go_wp2_with fail
     go_meet
     case rel => exact ⟨rfl, bp, u, rfl, hnb, hB5, DH hy, fun h => ⟨(((hu4 h).putBox (o := 0) (u := .int .i64 u.id) hy (by decide) (by decide) (by decide) (by decide)).putBox (o := 1) (u := .slice u.rx u.rn u.rc) (heap_setCell_same w4 bp 0 _ _ _ hy) (by decide) (by decide) (by decide) (by decide)).putBox (o := 2) (u := .slice u.sx u.sn u.sc) (heap_setCell_same _ bp 1 _ _ _ (heap_setCell_same w4 bp 0 _ _ _ hy)) (by decide) (by decide) (by decide) (by decide), hsu h⟩⟩
    ·intro K hK
     simp only [zI, zJ]
     go_wp2_with fail
     have hB3 : Below w2.heap.size w2 (w2.alloc (dH 0 (.slice none 0 0) (.slice none 0 0))).drew := (bl1 w2 _).drew
     refine aD (hK.out _ _ ⟨⟨_, hB3⟩, rfl⟩ ?_)
     clear hK K
     have hy0 : ((w2.alloc (dH 0 (.slice none 0 0) (.slice none 0 0))).drew).heap[w2.heap.size]? = some (dH 0 (.slice none 0 0) (.slice none 0 0)) := aB (W := w2) _ rfl
     refine aS 6 _ _ (by kernel_rfl) (by kernel_rfl) rfl rfl ?_
     intro K hK
     simp only [zI, zJ]
     go_wp2_with fail
     refine (hgr _ hB3).mono ?_
     rintro e w4 hpo
     obtain ⟨u, rfl, hb3, hu⟩ := JL hsl.out heg hpo
     have hB4 : Below w2.heap.size w2 w4 := hB3.trans (hb3.mono hB3.size)
     go_wp2_with fail
     refine aD (hK.out _ _ ⟨⟨_, hB4⟩, rfl⟩ ?_)
     clear hK K
     refine aY 2 [7, 8, 9] rfl _ rfl (by kernel_rfl) (fun d _ _ _ _ h => by cases d <;> exact h) ⟨⟨_, hB4⟩, rfl⟩ ?_
     simp only [zK, zM, zI, zJ]
     repeat (go_big_quiet_step (fail))
     refine wpQuiet_nil ?_
     have hy := aA hb3 hy0
     have hnb : w2.heap.size ≤ w2.heap.size := zE
     have hu4 := fun h => (hu h).1.low (base' := w2.heap.size) hB3.size
     have hsu := fun h => (hu h).2
     obtain ⟨q0, q1, q2⟩ := bL hy rfl rfl rfl
     obtain ⟨f0, f1, f2⟩ := dS hy
     refine aS 11 _ _ (by kernel_rfl) (by kernel_rfl) rfl rfl ?_
     intro K hK
     simp only [zI, zJ]
     go_wp2_with fail
     have hB5 : Below w2.heap.size w2 (((w4.setCell ⟨w2.heap.size, 0, none⟩ (.int .i64 u.id)).setCell ⟨w2.heap.size, 1, none⟩ (.slice u.rx u.rn u.rc)).setCell ⟨w2.heap.size, 2, none⟩ (.slice u.sx u.sn u.sc)) := ((hB4.setCell (p := ⟨w2.heap.size, 0, none⟩) hnb _).setCell (p := ⟨w2.heap.size, 1, none⟩) hnb _).setCell (p := ⟨w2.heap.size, 2, none⟩) hnb _
     refine aD (hK.out _ _ ⟨⟨_, hB5⟩, rfl⟩ ?_)
     clear hK K q0 q1 q2 f0 f1 f2
     refine aU [12] rfl (by kernel_rfl) ?_
     simp only [zK, zM, zI, zJ]
     go_wp2_with fail
     go_meet
     case rel => exact ⟨rfl, w2.heap.size, u, rfl, hnb, hB5, DH hy, fun h => ⟨(((hu4 h).putBox (o := 0) (u := .int .i64 u.id) hy (by decide) (by decide) (by decide) (by decide)).putBox (o := 1) (u := .slice u.rx u.rn u.rc) (heap_setCell_same w4 w2.heap.size 0 _ _ _ hy) (by decide) (by decide) (by decide) (by decide)).putBox (o := 2) (u := .slice u.sx u.sn u.sc) (heap_setCell_same _ w2.heap.size 1 _ _ _ (heap_setCell_same w4 w2.heap.size 0 _ _ _ hy)) (by decide) (by decide) (by decide) (by decide), hsu h⟩⟩
   case rest =>
    obtain ⟨rfl, bp, u, rfl, hnb, hBc, hbp, hu⟩ := hcut
    have hTc := hT2.later hBc
    clear k0 k1 ks0 ks1 kz0 kz1
    clear a0 a1 a2 a3 a4 a5 a6 hgr
    obtain ⟨k0, k1⟩ := aR hTc.hb rfl rfl
    obtain ⟨ks0, ks1⟩ := aR hTc.hs rfl rfl
    obtain ⟨kz0, kz1⟩ := cA hTc.hs
    by_cases heg0 : eg = 0
    ·rw [if_pos heg0] at hEE
     obtain ⟨hVu, hsu⟩ := hu heg0
     have hne : (eg != 0) = false := by simp [heg0]
     have hEH : Hid (E = if sX ls n (growVs vs i r) = false then 9 else 0) := hEE.out
     have hru : Hid (u.rn ≤ 64) := by
      show _ ≤ _
      rw [← hsu.2.1]
      have h1 := hr4 i hi'.out
      show (gV r (aC vs i).rs).length ≤ 64
      rw [B4]
      omega
     have hfn := gO (some ⟨bx, ox, none⟩) n c vs lx ln lc ls wc (hp.later hTc.below) (by omega) (hl.later hTc.below) (by omega) hfew
     clear hEE heg0 hu heg
     go_wp2_with fail
     refine hfn.mono ?_
     rintro e w4 ⟨vV, vK, us, rfl, hsv, hOV, hVo, hOK, hb4⟩
     have hT4 := hTc.later hb4
     clear hfn hne
     have hul : Hid (us.length = n) := by show _ = _; rw [← hsv.1]; exact hvl.out
     have hiu : i < us.length := by rw [hul.out]; exact hi'.out
     obtain ⟨g, C, hvV⟩ := hOV.held (by omega)
     obtain ⟨Y, D, hvK, hYm⟩ := hOK.mem
     subst hvV
     subst hvK
     have hw3s : Hid (w.heap.size + 2 < wc.heap.size) := (zG hTc.hs)
     have hbp4 := aA hb4 hbp
     clear k0 k1 ks0 ks1 kz0 kz1
     go_upto_region 11 with fail
     obtain ⟨w5, hw5⟩ : ∃ w5, w5 = w4.alloc (eF (.slice (some ⟨g, 0, none⟩) us.length C) (.slice Y ls.length D)) := ⟨_, rfl⟩
     rw [← hw5]
     have hb5 : Below w4.heap.size w4 w5 := by rw [hw5]; exact bl1 w4 _
     have hbx5 : w5.heap[w4.heap.size]? = some (eF (.slice (some ⟨g, 0, none⟩) us.length C) (.slice Y ls.length D)) := by rw [hw5]; exact aB _ rfl
     clear hw5
     have hT5 := hT4.later hb5
     have hbp5 := aA hb5 hbp4
     have hOV5 := hOV.later hb5
     obtain ⟨hgb, cur, hcur⟩ := hOV5.block
     obtain ⟨y0, y1, y2⟩ := hOV5.cells i hiu
     have z0 := hOV5.frozen (i * 3)
     have z1 := hOV5.frozen (i * 3 + 1)
     have z2 := hOV5.frozen (i * 3 + 2)
     have m0 := aX hbx5 0 rfl
     obtain ⟨u0, u1, u2⟩ := bL hbp5 rfl rfl rfl
     have hi3 : (i : Int) < us.length := by omega
     have hOVs := hOV5.setE i hiu u
     have hVos : ∀ j, j < us.length → mD (jN w5 g i u) w2.heap.size (aC (us.set i u) j) := fun j hj => by
      rw [cH hiu]
      split
      ·exact (((hVu.later hb4).later hb5)).setN hOV5
      ·exact ((((hVo j hj).later hb5)).setN hOV5).low hBc.size
     have hOKs : bZ (jN w5 g i u) wc.heap.size (.slice Y ls.length D) ls := (hOK.later hb5).setN hOV5
     have hne4 : w4.heap.size ≠ g := fun e => by rw [← e, hbx5] at hcur; simp at hcur
     have hbxs : (jN w5 g i u).heap[w4.heap.size]? = some (eF (.slice (some ⟨g, 0, none⟩) us.length C) (.slice Y ls.length D)) := (gN hne4).trans hbx5
     have hg0 : w.heap.size ≠ g := by have := hw3s.out; omega
     have hg1 : w.heap.size + 1 ≠ g := by have := hw3s.out; omega
     have hg2 : w.heap.size + 2 ≠ g := by have := hw3s.out; omega
     have hTs : TQ w (jN w5 g i u) (some ⟨bx, ox, none⟩) n c lx ln lc r := ⟨(gN hg0).trans hT5.hb, (gN hg1).trans hT5.hp, (gN hg2).trans hT5.hs, mU hT5.below (by have := hw3s.out; omega)⟩
     go_upto_region 12 with fail
     obtain ⟨w6, hw6⟩ : ∃ w6, w6 = jN w5 g i u := ⟨_, rfl⟩
     rw [← hw6] at hOVs hVos hOKs hbxs hTs
     unfold jN at hw6
     rw [← hw6]
     clear hw6 y0 y1 y2 z0 z1 z2 m0 u0 u1 u2 hOV5 hOV hVo hOK hbx5 hT5 hbp5 hbp4 hi3
     have hsg : Hid (cI (growVs vs i r) (us.set i u)) := hsv.grow (by rw [hvl.out]; exact hi'.out) hsu
     obtain ⟨us', hus'⟩ : ∃ us', Hid (us' = us.set i u) := ⟨_, rfl⟩
     have hul' : Hid (us'.length = us.length) := by show _ = _; rw [hus'.out, List.length_set]
     rw [← hus'.out] at hOVs hVos hsg
     have hVk : ∀ v ∈ us', lI w6 v := fun v hv => by
      obtain ⟨j, hj, rfl⟩ := dX hv
      exact lI.of (hVos j (by rw [← hul'.out]; exact hj))
     obtain ⟨X', C', hv', hVS6, hXC', -, -⟩ := hOVs.vs hVk
     rw [hul'.out] at hv' hVS6 hXC'
     simp only [Value.slice.injEq] at hv'
     obtain ⟨hX', -, hC'⟩ := hv'
     subst hX'
     subst hC'
     obtain ⟨Y', D', hk', hPS6, -⟩ := hOKs.ps
     simp only [Value.slice.injEq] at hk'
     obtain ⟨rfl, -, rfl⟩ := hk'
     have hR := hRt.out us' ls hsg.out rfl
     have hRH : Hid (uY n vs ls id r us' ls) := hR
     obtain ⟨ta, hta⟩ : ∃ t, sX ls n (growVs vs i r) = t := ⟨_, rfl⟩
     have hgl : (growVs vs i r).length = n := by unfold growVs; rw [List.length_set]; exact hvl.out
     have hap := napart_is (some ⟨g, 0, none⟩) us.length C us' Y ls.length D ls ta (by rw [hul.out, F2 hgl hsg.out]; exact hta) w6 hVS6 (by rw [hul.out]; omega) hXC' hPS6 (by rw [hll.out]; omega) (fun j hj => by
      rw [hus'.out, cH hiu]
      split
      ·rename_i e
       rw [← hsu.1]
       exact (hvf i hi'.out).1
      ·rw [← (hsv.2 j (by rw [hsv.1]; exact hj)).1]
       exact (hvf j (by rw [← hul.out]; exact hj)).1) (fun j hj => by
      rw [hus'.out, cH hiu]
      split
      ·exact hru.out
      ·rw [← (hsv.2 j (by rw [hsv.1]; exact hj)).2.1]
       exact (hvf j (by rw [← hul.out]; exact hj)).2) (fun j hj => by
      have h1 : dG us' = dG vs := by
       rw [F1 hsg.out]
       exact PF
      rw [h1]
      exact hlk0 j (by rw [← hll.out]; exact hj))
     rw [hta] at hEH
     clear hta hVS6 hPS6 hR hRt
     obtain ⟨g0, g1⟩ := aR hbxs rfl rfl
     go_wp2_with fail
     refine hap.mono ?_
     rintro e w8 ⟨rfl, hb8⟩
     have hT8 := hTs.later hb8
     have hbx8 := aA hb8 hbxs
     have hO8 := hOVs.later hb8
     have hOK8 := hOKs.later hb8
     have hVos8 := fun j hj => (hVos j hj).later hb8
     clear g0 g1 hap hOVs hVk hOKs hbxs hTs hb8 hVos
     obtain ⟨g0, g1⟩ := aR hbx8 rfl rfl
     obtain ⟨k0, k1⟩ := aR hT8.hb rfl rfl
     obtain ⟨ks0, ks1⟩ := aR hT8.hs rfl rfl
     obtain ⟨kz0, kz1⟩ := cA hT8.hs
     cases ta with
     | false =>
      have hE2 : Hid (E = 9 ∧ (9 : Int) ≠ 0) := ⟨hEH.out.trans (if_pos rfl), by decide⟩
      clear hEH
      go_wp2
      refine bodyPost_ret (v := .tuple #[.agg #[.slice none 0 0, .slice none 0 0], .int .i64 9]) (by simp [results, Tryz.results98, go_sem, ks0, ks1]) rfl ?_
      exact dJ.err hE2.out ((hT8.below.setCell (p := ⟨w.heap.size + 2, 0, none⟩) (zA) _).setCell (p := ⟨w.heap.size + 2, 1, none⟩) (zA) _)
     | true =>
      have hE3 : Hid (E = 0) := hEH.out.trans (if_neg (by decide))
      clear hEH
      have hw2s : Hid (w.heap.size + 2 < w2.heap.size) := (zG hT2.hs)
      have hO8' : cB w8 wc.heap.size (.slice (some ⟨g, 0, none⟩) us.length C) us' := hO8
      go_wp2
      refine bodyPost_ret (v := .tuple #[.agg #[.slice (some ⟨g, 0, none⟩) us.length C, .slice Y ls.length D], .int .i64 0]) (by simp [results, Tryz.results98, go_sem, ks0, ks1]) rfl ?_
      exact dJ.ok hE3.out ((hT8.below.setCell (p := ⟨w.heap.size + 2, 0, none⟩) (zA) _).setCell (p := ⟨w.heap.size + 2, 1, none⟩) (zA) _) (us := us') (ms := ls) (NO.of ((hO8'.put hw3s.out).put hw3s.out) (by have := hw3s.out; omega) (b2 := w2.heap.size) (fun v hv => by
       obtain ⟨j, hj, rfl⟩ := dX hv
       exact ((hVos8 j (by rw [← hul'.out]; exact hj)).put hw2s.out).put hw2s.out) (by have := hw2s.out; omega) ((hOK8.put hw3s.out).put hw3s.out) (by have := hw3s.out; omega)) hRH.out
    ·rw [if_neg heg0] at hEE
     have hE2 : Hid (E = eg ∧ eg ≠ 0) := ⟨hEE.out, heg0⟩
     have hne : (eg != 0) = true := by simpa using heg0
     clear hEE hu heg heg0
     go_wp2
     refine bodyPost_ret (v := .tuple #[.agg #[.slice none 0 0, .slice none 0 0], .int .i64 eg]) (by simp [results, Tryz.results98, go_sem, ks0, ks1]) rfl ?_
     exact dJ.err hE2.out ((hTc.below.setCell (p := ⟨w.heap.size + 2, 0, none⟩) (zA) _).setCell (p := ⟨w.heap.size + 2, 1, none⟩) (zA) _)
  ·subst hti
   have hE2 : Hid (E = 5 ∧ (5 : Int) ≠ 0) := ⟨hEE.out.trans (if_pos (by decide)), by decide⟩
   clear hEE hRt
   go_wp2_with fail
   refine hpl.mono ?_
   rintro e w2 ⟨rfl, hb⟩
   have hT2 := hT1.later hb
   clear k0 k1 ks0 ks1 kz0 kz1
   obtain ⟨k0, k1⟩ := aR hT2.hb rfl rfl
   obtain ⟨ks0, ks1⟩ := aR hT2.hs rfl rfl
   obtain ⟨kz0, kz1⟩ := cA hT2.hs
   clear hpl
   go_wp2
   refine bodyPost_ret (v := .tuple #[.agg #[.slice none 0 0, .slice none 0 0], .int .i64 5]) (by simp [results, Tryz.results98, go_sem, ks0, ks1]) rfl ?_
   exact dJ.err hE2.out ((hT2.below.setCell (p := ⟨w.heap.size + 2, 0, none⟩) (zA) _).setCell (p := ⟨w.heap.size + 2, 1, none⟩) (zA) _)
 ·obtain ⟨t, ht⟩ : ∃ t, bU n vs ln ls = t := ⟨_, rfl⟩
  have hck := fX x n c vs lx ln lc ls t ht w0 (hp.later hT0.below) hn hnc (hl.later hT0.below) hln
  rw [ht] at hc0 hEE
  have hE1 : Hid (E = t ∧ t ≠ 0) := ⟨by rw [hEE.out, if_neg hc0], hc0⟩
  have hne : (t != 0) = true := by simpa using hc0
  clear hEE ht
  go_wp2_with fail
  refine hck.mono ?_
  rintro e w1 ⟨rfl, hb⟩
  have hT1 := hT0.later hb
  clear k0 k1 ks0 ks1 kz0 kz1
  obtain ⟨k0, k1⟩ := aR hT1.hb rfl rfl
  obtain ⟨ks0, ks1⟩ := aR hT1.hs rfl rfl
  obtain ⟨kz0, kz1⟩ := cA hT1.hs
  clear hck
  go_wp2
  refine bodyPost_ret (v := .tuple #[.agg #[.slice none 0 0, .slice none 0 0], .int .i64 t]) (by simp [results, Tryz.results98, go_sem, ks0, ks1]) rfl ?_
  exact dJ.err hE1.out ((hT1.below.setCell (p := ⟨w.heap.size + 2, 0, none⟩) (zA) _).setCell (p := ⟨w.heap.size + 2, 1, none⟩) (zA) _)
def wU (f : Fc) : Fc := ⟨f.id, none, f.n, 0, f.ns⟩
def oT (s : Sb) : Sb := ⟨s.id, s.a, s.l, none, s.n, 0, s.fs.map wU⟩
def dK (v : Vn) : Vn := ⟨v.id, none, v.rn, 0, v.rs, none, v.sn, 0, v.ss.map oT⟩
theorem tD (fs : List Fc) (j : Nat) : fcAt (fs.map wU) j = wU (fcAt fs j) := by
 unfold fcAt
 rw [zF, zF, List.getElem?_map]
 cases fs[j]? <;> rfl
theorem oU (ss : List Sb) (j : Nat) : sbAt (ss.map oT) j = oT (sbAt ss j) := by
 unfold sbAt
 rw [zF, zF, List.getElem?_map]
 cases ss[j]? <;> rfl
theorem fF (vs : List Vn) (j : Nat) : aC (vs.map dK) j = dK (aC vs j) := by
 unfold aC
 rw [zF, zF, List.getElem?_map]
 cases vs[j]? <;> rfl
theorem bV.can (h : bV fs gs) : fs.map wU = gs.map wU := by
 refine List.ext_getElem (by rw [List.length_map, List.length_map]; exact h.1) fun i h1 h2 => ?_
 have hi : i < fs.length := by simpa using h1
 have hj : i < gs.length := by simpa using h2
 obtain ⟨a, b, c⟩ := h.2 i hi
 have e1 : fcAt fs i = fs[i] := by unfold fcAt; rw [zF, List.getElem?_eq_getElem hi]; rfl
 have e2 : fcAt gs i = gs[i] := by unfold fcAt; rw [zF, List.getElem?_eq_getElem hj]; rfl
 rw [List.getElem_map, List.getElem_map, ← e1, ← e2]
 unfold wU
 rw [a, b, c]
theorem bN.can (h : bN ss ts) : ss.map oT = ts.map oT := by
 refine List.ext_getElem (by rw [List.length_map, List.length_map]; exact h.1) fun i h1 h2 => ?_
 have hi : i < ss.length := by simpa using h1
 have hj : i < ts.length := by simpa using h2
 obtain ⟨a, b, c, d, e⟩ := h.2 i hi
 have e1 : sbAt ss i = ss[i] := by unfold sbAt; rw [zF, List.getElem?_eq_getElem hi]; rfl
 have e2 : sbAt ts i = ts[i] := by unfold sbAt; rw [zF, List.getElem?_eq_getElem hj]; rfl
 rw [List.getElem_map, List.getElem_map, ← e1, ← e2]
 unfold oT
 rw [a, b, c, d, e.can]
theorem nI.can (h : nI v u) : dK v = dK u := by
 obtain ⟨a, b, c, d, e⟩ := h
 unfold dK
 rw [a, b, c, d, e.can]
theorem cI.can (h : cI vs us) : vs.map dK = us.map dK := by
 refine List.ext_getElem (by rw [List.length_map, List.length_map]; exact h.1) fun i h1 h2 => ?_
 have hi : i < vs.length := by simpa using h1
 have hj : i < us.length := by simpa using h2
 rw [List.getElem_map, List.getElem_map, ← gK hi, ← gK hj]
 exact (h.2 i hi).can
theorem PG (a l : Int) (n : Nat) (fs : List Fc) : eE a l n (fs.map wU) = eE a l n fs := by
 have h1 : eU a l (fs.map wU) = eU a l fs := by
  funext i
  unfold eU
  rw [tD]
  rfl
 have h2 : eC (fs.map wU) = eC fs := by
  unfold eC
  rw [List.length_map]
  refine eS fun i _ => ?_
  unfold iI
  rw [tD, tD]
  rfl
 have h3 : aN (fs.map wU) = aN fs := by
  unfold aN
  rw [List.flatMap_map]
  rfl
 unfold eE
 rw [h1, h2, h3]
theorem F3 (vid : Int) (rn : Nat) (rs : List Rg) (sn : Nat) (ss : List Sb) : aZ vid rn rs sn (ss.map oT) = aZ vid rn rs sn ss := by
 have h1 : cT rn sn (ss.map oT) = cT rn sn ss := by
  unfold cT
  refine congrArg (fun f => decide (4 < rn) || decide (6 < sn) || aL sn f) (funext fun i => ?_)
  rw [oU]
  unfold eD
  refine congrArg (fun f => decide (8 < (sbAt ss i).n) || aL (sbAt ss i).n f) (funext fun j => ?_)
  show decide (4 < (fcAt ((sbAt ss i).fs.map wU) j).n) = _
  rw [tD]
  rfl
 have h2 : lW rn rs (ss.map oT) = lW rn rs ss := by
  funext i
  unfold lW
  rw [oU]
  have e1 : ∀ c m, xB (ss.map oT) c m = xB ss c m := fun c m => funext fun j => by
   unfold xB
   rw [oU]
   rfl
  rw [e1]
  show (kU rn rs (sbAt ss i).id (sbAt ss i).a (sbAt ss i).l && !aL i (xB ss (sbAt ss i).a (sbAt ss i).l) && eE (sbAt ss i).a (sbAt ss i).l (sbAt ss i).n ((sbAt ss i).fs.map wU)) = _
  rw [PG]
 have h3 : mP (ss.map oT) = mP ss := by
  unfold mP
  rw [List.length_map]
  refine eS fun i _ => ?_
  unfold pY
  rw [oU, oU]
  rfl
 unfold aZ mQ
 rw [h1, h2, h3]
theorem bT (n : Nat) (vs : List Vn) (id : Int) : aI n (vs.map dK) id = aI n vs id := by
 have h : (fun i => (aC (vs.map dK) i).id == id) = fun i => (aC vs i).id == id := funext fun i => by
  rw [fF]
  rfl
 unfold aI
 rw [h]
theorem DP (ms : List (Int × Int)) (n : Nat) (vs : List Vn) : sX ms n (vs.map dK) = sX ms n vs := by
 unfold sX
 refine eS fun i _ => ?_
 unfold DG
 refine eS fun j _ => ?_
 unfold A6
 rw [fF, fF]
 rfl
theorem kK (n : Nat) (vs : List Vn) (ln : Nat) (ls : List (Int × Int)) : bU n (vs.map dK) ln ls = bU n vs ln ls := by
 have h1 : eL n (vs.map dK) = eL n vs := by
  have e1 : dQ (vs.map dK) = dQ vs := by
   unfold dQ
   rw [List.length_map]
   refine eS fun i _ => ?_
   unfold jL
   rw [fF, fF]
   rfl
  have e2 : (fun i => kE (aC (vs.map dK) i)) = fun i => kE (aC vs i) := funext fun i => by
   rw [fF]
   unfold kE
   show (!(aZ (aC vs i).id (aC vs i).rn (aC vs i).rs (aC vs i).sn ((aC vs i).ss.map oT) == 0)) = _
   rw [F3]
  unfold eL
  rw [e1, e2]
 have h2 : dC n (vs.map dK) ln ls = dC n vs ln ls := by
  have e : mR n (vs.map dK) ls = mR n vs ls := funext fun i => by
   unfold mR
   rw [bT, bT]
  unfold dC
  rw [e]
 unfold bU
 rw [h1, h2, DP]
theorem LU (n : Nat) (vs : List Vn) (ln : Nat) (ls : List (Int × Int)) (id : Int) : iT n (vs.map dK) ln ls id = iT n vs ln ls id := by
 unfold iT
 rw [kK, bT]
theorem LV (n : Nat) (vs : List Vn) (ln : Nat) (ls : List (Int × Int)) (a b : Int) : lZ n (vs.map dK) ln ls a b = lZ n vs ln ls a b := by
 unfold lZ
 rw [kK, bT, bT, DP]
theorem zW (vs : List Vn) (i : Nat) (r : Rg) : (growVs vs i r).map dK = growVs (vs.map dK) i r := by
 unfold growVs
 rw [List.map_set, fF]
 rfl
theorem IM (n : Nat) (vs : List Vn) (ln : Nat) (ls : List (Int × Int)) (id : Int) (r : Rg) : iZ n (vs.map dK) ln ls id r = iZ n vs ln ls id r := by
 have h : ∀ i, eV (aC (vs.map dK) i).id (aC (vs.map dK) i).rn (aC (vs.map dK) i).rs (aC (vs.map dK) i).sn (aC (vs.map dK) i).ss r = eV (aC vs i).id (aC vs i).rn (aC vs i).rs (aC vs i).sn (aC vs i).ss r := fun i => by
  rw [fF]
  unfold eV
  show (if aZ (aC vs i).id (aC vs i).rn (aC vs i).rs (aC vs i).sn ((aC vs i).ss.map oT) ≠ 0 then aZ (aC vs i).id (aC vs i).rn (aC vs i).rs (aC vs i).sn ((aC vs i).ss.map oT) else _) = _
  rw [F3]
  rfl
 unfold iZ
 rw [kK, bT, h, ← zW, DP]
def iU (id : Int) (vs : List Vn) : Nat := ((List.range vs.length).find? fun i => decide (id < (aC vs i).id)).getD vs.length
def oV (id : Int) (vs : List Vn) : List Vn := vs.take (iU id vs) ++ [newV id] ++ vs.drop (iU id vs)
theorem PH {id : Int} (hi : i ≤ vs.length) (hlo : ∀ j, j < i → ¬ id < (aC vs j).id) (hup : i < vs.length → id < (aC vs i).id) : iU id vs = i := by
 unfold iU
 by_cases h : i < vs.length
 ·have : (List.range vs.length).find? (fun i => decide (id < (aC vs i).id)) = some i := by
   rw [List.find?_range_eq_some]
   exact ⟨by simpa using hup h, by simpa using h, fun j hj => by simpa using hlo j hj⟩
  rw [this]
  rfl
 ·obtain rfl : i = vs.length := by omega
  have : (List.range vs.length).find? (fun i => decide (id < (aC vs i).id)) = none := by
   rw [List.find?_eq_none]
   intro j hj
   have := hlo j (by simpa using hj)
   simpa using this
  rw [this]
  rfl
theorem LW (id : Int) (vs : List Vn) : iU id (vs.map dK) = iU id vs := by
 unfold iU
 have h : (fun i => decide (id < (aC (vs.map dK) i).id)) = fun i => decide (id < (aC vs i).id) := funext fun i => by
  rw [fF]
  rfl
 rw [h, List.length_map]
theorem B5 (id : Int) (vs : List Vn) : (oV id vs).map dK = oV id (vs.map dK) := by
 unfold oV
 rw [LW, List.map_append, List.map_append, List.map_take, List.map_drop]
 rfl
theorem O8.can {id : Int} (h : O8 id vs us) : us.map dK = oV id (vs.map dK) := by
 obtain ⟨us0, i, hs, hi, hlo, hup, rfl⟩ := h
 have e : us0.take i ++ [newV id] ++ us0.drop i = oV id us0 := by
  unfold oV
  rw [PH hi hlo hup]
 rw [e, B5, hs.can]
structure Bx (w W : World) (b : Nat) (X : Option Addr) (C : Nat) (Y : Option Addr) (D : Nat) (us : List Vn) (ms : List (Int × Int)) : Prop where
 box : W.heap[b]? = some (eF (.slice X us.length C) (.slice Y ms.length D))
 vs : VS W X us.length us
 ps : PS W Y ms.length ms
 xc : us.length ≤ C
 c63 : C ≤ 9223372036854775807
 yd : ms.length ≤ D
 d63 : D ≤ 9223372036854775807
 below : Below w.heap.size w W
theorem NO.agg (h : NO w base V us ms) : ∃ X C Y D, V = .agg #[.slice X us.length C, .slice Y ms.length D] := by
 obtain ⟨X, C, Y, D, e, -⟩ := h.nn
 exact ⟨X, C, Y, D, e⟩
def C1 : List Vn := [newV 3]
def C2 : List Vn := [newV 1, newV 3]
def C3 : List Vn := growVs C2 1 ⟨256, 10, 7⟩
theorem IN (h : lZ n vs ln ls a b = 0) : bU n vs ln ls = 0 ∧ a ≠ b ∧ ¬ aI n vs a < 0 ∧ ¬ aI n vs b < 0 ∧ MU ln ls a b = false ∧ sX (dO (min a b, max a b) ls) n vs = true ∧ ln ≠ 12 := by
 unfold lZ at h
 split at h
 ·rename_i h0
  split at h
  ·omega
  ·rename_i h1
   split at h
   ·omega
   ·rename_i h2
    split at h
    ·omega
    ·rename_i h3
     split at h
     ·omega
     ·rename_i h4
      split at h
      ·omega
      ·rename_i h5
       split at h
       ·omega
       ·rename_i h6
        exact ⟨h0, h1, h2, h3, by simpa using h4, by simpa using h5, h6⟩
 ·rename_i h0
  exact absurd h h0
theorem PI {p : Int × Int} (h : fZ p q = false) (hne : p ≠ q) : fZ q p = true := by
 unfold fZ at *
 simp only [Bool.or_eq_false_iff, Bool.and_eq_false_iff, decide_eq_false_iff_not, Bool.or_eq_true, zH, decide_eq_true_eq] at *
 obtain ⟨h1, h2⟩ := h
 by_cases e : q.1 < p.1
 ·exact .inl e
 ·refine .inr ⟨by omega, ?_⟩
  rcases h2 with h2 | h2
  ·omega
  ·have : p.2 ≠ q.2 := fun e2 => hne (Prod.ext (by omega) e2)
   omega
theorem oW : jM ps (i + 1) = fZ (lkAt ps i) (lkAt ps (i + 1)) := by
 unfold jM fZ
 have e0 : ∀ j, dB ps j = (lkAt ps j).1 := fun _ => rfl
 have e1 : ∀ j, eA ps j = (lkAt ps j).2 := fun _ => rfl
 rw [Nat.add_sub_cancel, e0, e0, e1, e1]
 generalize lkAt ps i = p
 generalize lkAt ps (i + 1) = q
 simp only [Bool.false_or, show (i + 1 == 0) = false by simp]
 by_cases h1 : p.1 < q.1
 ·simp [h1]
 ·by_cases h2 : p.1 = q.1
  ·simp [h2]
  ·simp [h1, h2]
theorem JM {p : Int × Int} (hj : j ≤ ls.length) : lkAt (ls.take j ++ [p] ++ ls.drop j) i = if i < j then lkAt ls i else if i = j then p else lkAt ls (i - 1) := by
 have hlen : (ls.take j).length = j := by rw [List.length_take]; omega
 unfold lkAt
 simp only [zF]
 by_cases h1 : i < j
 ·rw [if_pos h1, List.append_assoc, List.getElem?_append_left (by omega), List.getElem?_take_of_lt h1]
 ·rw [if_neg h1]
  by_cases h2 : i = j
  ·rw [if_pos h2, List.append_assoc, List.getElem?_append_right (by omega), hlen, h2, Nat.sub_self]
   rfl
  ·rw [if_neg h2, List.getElem?_append_right (by simp; omega), List.getElem?_drop]
   rw [show j + (i - (List.take j ls ++ [p]).length) = i - 1 by simp; omega]
theorem zX (p : Int × Int) (ls : List (Int × Int)) : jD p ls ≤ ls.length ∧ (∀ j, j < jD p ls → fZ p (lkAt ls j) = false) ∧ (jD p ls < ls.length → fZ p (lkAt ls (jD p ls)) = true) := by
 cases h : (List.range ls.length).find? (fun i => fZ p (lkAt ls i)) with
 | none =>
  have e : jD p ls = ls.length := by unfold jD; rw [h]; rfl
  rw [e]
  refine ⟨zE, fun j hj => ?_, fun h => absurd h (Nat.lt_irrefl _)⟩
  have := List.find?_eq_none.1 h j (by simpa using hj)
  simpa using this
 | some i =>
  obtain ⟨h1, h2, h3⟩ := List.find?_range_eq_some.1 h
  have hi : i < ls.length := by simpa using h2
  have e : jD p ls = i := by unfold jD; rw [h]; rfl
  rw [e]
  exact ⟨by omega, fun j hj => by simpa using h3 j hj, fun _ => h1⟩
theorem PJ {p : Int × Int} (h : fR ls = true) (hp : p ∉ ls) : fR (dO p ls) = true := by
 obtain ⟨hj, hlo, hup⟩ := zX p ls
 have hr : ∀ i, i < ls.length → jM ls i = true := fun i hi => by
  unfold fR at h
  exact List.all_eq_true.1 h i (by simpa using hi)
 unfold dO
 generalize jD p ls = j at *
 refine uO fun i hi => ?_
 have hlen : (ls.take j ++ [p] ++ ls.drop j).length = ls.length + 1 := by simp; omega
 rw [hlen] at hi
 cases i with
 | zero => rfl
 | succ i =>
  rw [oW, JM hj, JM hj]
  by_cases h1 : i + 1 < j
  ·rw [if_pos (by omega), if_pos h1, ← oW]
   exact hr (i + 1) (by omega)
  ·rw [if_neg h1]
   by_cases h2 : i + 1 = j
   ·rw [if_pos (by omega), if_pos h2]
    have hi2 : i < ls.length := by omega
    refine PI (hlo i (by omega)) (fun e => hp ?_)
    rw [e]
    unfold lkAt
    rw [zF, List.getElem?_eq_getElem hi2]
    exact List.getElem_mem hi2
   ·rw [if_neg h2, if_neg (by omega)]
    by_cases h3 : i = j
    ·rw [if_pos h3, Nat.add_sub_cancel, h3]
     exact hup (by omega)
    ·rw [if_neg h3, Nat.add_sub_cancel]
     obtain ⟨q, rfl⟩ : ∃ q, i = q + 1 := ⟨i - 1, by omega⟩
     rw [Nat.add_sub_cancel, ← oW]
     exact hr (q + 1) (by omega)
theorem UH (hl : ls.length = ln) {a b : Int} : MU ln ls a b = decide ((min a b, max a b) ∈ ls) := VW hl a b
theorem IP (hvl : vs.length = n) (hll : ls.length = ln) (h : lZ n vs ln ls a b = 0) : bU n vs (ln + 1) (dO (min a b, max a b) ls) = 0 := by
 obtain ⟨h0, hab, ha, hb, hj, hap, h12⟩ := IN h
 obtain ⟨g6, g12, gv, gl, -⟩ := eR h0
 refine xF (by simp; omega) gv ?_ hap
 have hnm : (min a b, max a b) ∉ ls := by
  rw [UH hll] at hj
  simpa using hj
 have gl' := gl
 unfold dC at gl ⊢
 rw [zH] at gl ⊢
 refine ⟨PJ gl.1 hnm, ?_⟩
 rw [fL (fun i hi => ?_)]
 ·rfl
 have hil : i < (dO (min a b, max a b) ls).length := by rw [JJ]; omega
 have hm : lkAt (dO (min a b, max a b) ls) i ∈ dO (min a b, max a b) ls := by
  unfold lkAt
  rw [zF, List.getElem?_eq_getElem hil]
  exact List.getElem_mem hil
 have e0 : dB (dO (min a b, max a b) ls) i = (lkAt (dO (min a b, max a b) ls) i).1 := rfl
 have e1 : eA (dO (min a b, max a b) ls) i = (lkAt (dO (min a b, max a b) ls) i).2 := rfl
 unfold mR
 rw [e0, e1]
 rcases JI.1 hm with e | e
 ·rw [e]
  rcases Int.le_total a b with hle | hle
  ·rw [Int.min_eq_left hle, Int.max_eq_right hle]
   simp only [Bool.or_eq_false_iff, decide_eq_false_iff_not]
   exact ⟨⟨by omega, ha⟩, hb⟩
  ·rw [Int.min_eq_right hle, Int.max_eq_left hle]
   simp only [Bool.or_eq_false_iff, decide_eq_false_iff_not]
   exact ⟨⟨by omega, hb⟩, ha⟩
 ·obtain ⟨k1, ⟨q1, hq1, hq2⟩, q3, hq3, hq4⟩ := tC hvl hll gl' _ e
  have hrv : dQ vs = true := by
   unfold eL at gv
   rw [zH] at gv
   exact gv.1
  simp only [Bool.or_eq_false_iff, decide_eq_false_iff_not]
  refine ⟨⟨by omega, ?_⟩, ?_⟩
  ·rw [← hq2, uU hvl hrv hq1]; omega
  ·rw [← hq4, uU hvl hrv hq3]; omega
open Go.ChangeShapes Go.WideShapes Go.ChangeAt Go.RowKit Go.Joins
section
variable {H : Type} {enc : TypeId × Value → H} {w : World}
end
theorem zY (r : Rg) (rs : List Rg) : posRg r rs ≤ rs.length ∧ (∀ j, j < posRg r rs → ¬ r.a < (aJ rs j).a) ∧ (posRg r rs < rs.length → r.a < (aJ rs (posRg r rs)).a) := by
 cases h : (List.range rs.length).find? (fun i => decide (r.a < (aJ rs i).a)) with
 | none =>
  have e : posRg r rs = rs.length := by unfold posRg; rw [h]; rfl
  rw [e]
  refine ⟨zE, fun j hj => ?_, fun h => absurd h (Nat.lt_irrefl _)⟩
  have := List.find?_eq_none.1 h j (by simpa using hj)
  simpa using this
 | some i =>
  obtain ⟨h1, h2, h3⟩ := List.find?_range_eq_some.1 h
  have hi : i < rs.length := by simpa using h2
  have e : posRg r rs = i := by unfold posRg; rw [h]; rfl
  rw [e]
  exact ⟨by omega, fun j hj => by simpa using h3 j hj, fun _ => by simpa using h1⟩
theorem kL (hj : j ≤ rs.length) : aJ (rs.take j ++ [r] ++ rs.drop j) i = if i < j then aJ rs i else if i = j then r else aJ rs (i - 1) := by
 have hlen : (rs.take j).length = j := by rw [List.length_take]; omega
 unfold aJ
 simp only [zF]
 by_cases h1 : i < j
 ·rw [if_pos h1, List.append_assoc, List.getElem?_append_left (by omega), List.getElem?_take_of_lt h1]
 ·rw [if_neg h1]
  by_cases h2 : i = j
  ·rw [if_pos h2, List.append_assoc, List.getElem?_append_right (by omega), hlen, h2, Nat.sub_self]
   rfl
  ·rw [if_neg h2, List.getElem?_append_right (by simp; omega), List.getElem?_drop]
   rw [show j + (i - (List.take j rs ++ [r]).length) = i - 1 by simp; omega]
theorem PK (hl : rs.length = n) (h : nO n rs = true) (hr : BV r = true) (hm : aL n (DD rs r.a r.l) = false) : nO (n + 1) (gV r rs) = true := by
 obtain ⟨hj, hlo, hup⟩ := zY r rs
 have hat : ∀ i, i < n → BV (aJ rs i) = true ∧ ∀ k, k < i → fK (aJ rs k).a (aJ rs k).l (aJ rs i).a (aJ rs i).l = false := fun i hi => UB h hi
 have hno : ∀ i, i < n → fK (aJ rs i).a (aJ rs i).l r.a r.l = false := fun i hi => by
  cases e : fK (aJ rs i).a (aJ rs i).l r.a r.l
  ·rfl
  ·rw [bD (f := DD rs r.a r.l) hi e] at hm
   cases hm
 have hne : ∀ i, i < n → (aJ rs i).a ≠ r.a := fun i hi e => by
  have h1 := hno i hi
  have s1 := cO (aJ rs i).l
  have s2 := cO r.l
  rw [tP (ST (hat i hi).1) (ST hr) (by omega) (by omega)] at h1
  cases h1
 have hrise : ∀ i, i + 1 < n → (aJ rs i).a < (aJ rs (i + 1)).a := fun i hi => by
  unfold nO at h
  rw [zH] at h
  have h1 := h.2
  unfold rI at h1
  have h2 := List.all_eq_true.1 h1 (i + 1) (by rw [hl]; simpa using hi)
  unfold pX at h2
  simpa using h2
 unfold gV
 generalize posRg r rs = j at *
 have hlen : (rs.take j ++ [r] ++ rs.drop j).length = n + 1 := by simp; omega
 unfold nO
 rw [zH]
 constructor
 ·rw [List.all_eq_true]
  intro i hi
  have hi' : i < n + 1 := by simpa using hi
  unfold sT
  rw [zH]
  constructor
  ·rw [kL hj]
   split
   ·exact (hat i (by omega)).1
   ·split
    ·exact hr
    ·exact (hat (i - 1) (by omega)).1
  ·rw [fL (fun k hk => ?_)]
   ·rfl
   unfold DD
   rw [kL hj, kL hj]
   by_cases h1 : i < j
   ·rw [if_pos (by omega), if_pos h1]
    exact (hat i (by omega)).2 k hk
   ·rw [if_neg h1]
    by_cases h2 : i = j
    ·rw [if_pos (by omega), if_pos h2]
     exact hno k (by omega)
    ·rw [if_neg h2]
     by_cases h3 : k < j
     ·rw [if_pos h3]
      exact (hat (i - 1) (by omega)).2 k (by omega)
     ·rw [if_neg h3]
      by_cases h4 : k = j
      ·rw [if_pos h4, gA]
       exact hno (i - 1) (by omega)
      ·rw [if_neg h4]
       exact (hat (i - 1) (by omega)).2 (k - 1) (by omega)
 ·unfold rI
  rw [List.all_eq_true]
  intro i hi
  have hi' : i < n + 1 := by rw [hlen] at hi; simpa using hi
  cases i with
  | zero => rfl
  | succ i =>
   unfold pX
   rw [Nat.add_sub_cancel, kL hj, kL hj, Bool.or_eq_true, decide_eq_true_eq]
   refine .inr ?_
   by_cases h1 : i + 1 < j
   ·rw [if_pos (by omega), if_pos h1]
    exact hrise i (by omega)
   ·rw [if_neg h1]
    by_cases h2 : i + 1 = j
    ·rw [if_pos (by omega), if_pos h2]
     have h3 := hlo i (by omega)
     have h4 := hne i (by omega)
     omega
    ·rw [if_neg h2, if_neg (by omega)]
     by_cases h3 : i = j
     ·rw [if_pos h3, Nat.add_sub_cancel, h3]
      exact hup (by omega)
     ·rw [if_neg h3, Nat.add_sub_cancel]
      obtain ⟨q, rfl⟩ : ∃ q, i = q + 1 := ⟨i - 1, by omega⟩
      rw [Nat.add_sub_cancel]
      exact hrise q (by omega)
theorem PL {id c : Int} (h : kU n rs id c m = true) : kU (n + 1) (gV r rs) id c m = true := by
 obtain ⟨hj, -, -⟩ := zY r rs
 unfold kU at h ⊢
 rw [zH] at h ⊢
 refine ⟨h.1, ?_⟩
 obtain ⟨i, hi, hf⟩ := kD h.2
 unfold gV
 generalize posRg r rs = j at *
 unfold T4 at hf ⊢
 by_cases h1 : i < j
 ·refine bD (k := i) (by omega) ?_
  rw [kL hj, if_pos h1]
  exact hf
 ·refine bD (k := i + 1) (by omega) ?_
  rw [kL hj, if_neg (by omega), if_neg (by omega), Nat.add_sub_cancel]
  exact hf
theorem LY (hl : rs.length = rn) (h : eV vid rn rs sn ss r = 0) : aZ vid (rn + 1) (gV r rs) sn ss = 0 := by
 unfold eV at h
 split at h
 ·rename_i h0
  exact absurd h h0
 ·rename_i h0
  have h0 : aZ vid rn rs sn ss = 0 := by simpa using h0
  split at h
  ·omega
  ·rename_i h1
   split at h
   ·omega
   ·rename_i h2
    split at h
    ·omega
    ·rename_i h3
     obtain ⟨p1, p2, p3, p4⟩ := IG h0
     obtain ⟨f1, -, -, -⟩ := cN h0
     unfold aZ
     have hm : cT (rn + 1) sn ss = false := by
      unfold cT at p1 ⊢
      simp only [Bool.or_eq_false_iff, decide_eq_false_iff_not] at p1 ⊢
      exact ⟨⟨by omega, p1.1.2⟩, p1.2⟩
     have hs : mQ (rn + 1) (gV r rs) sn ss = true := by
      unfold mQ at p4 ⊢
      rw [zH, List.all_eq_true] at p4 ⊢
      refine ⟨fun i hi => ?_, p4.2⟩
      have h5 := p4.1 i hi
      unfold lW at h5 ⊢
      simp only [zH] at h5 ⊢
      exact ⟨⟨PL h5.1.1, h5.1.2⟩, h5.2⟩
     rw [hm, p2, PK hl p3 (by simpa using h1) (by simpa using h2), hs]
     rfl
theorem LZ (hvl : vs.length = n) (hi : i < n) (hrl : (aC vs i).rs.length = (aC vs i).rn) (h : bU n vs ln ls = 0) (hg : eV (aC vs i).id (aC vs i).rn (aC vs i).rs (aC vs i).sn (aC vs i).ss r = 0) :
  bU n (growVs vs i r) ln ls = if sX ls n (growVs vs i r) = true then 0 else 1 := by
 obtain ⟨h6, h12, hv, hlk, -⟩ := eR h
 have hat : ∀ j, aC (growVs vs i r) j = if i = j then zV (aC vs i) (gV r (aC vs i).rs) else aC vs j := fun j => by
  unfold growVs
  rw [cH (by rw [hvl]; exact hi)]
 have hid : ∀ j, (aC (growVs vs i r) j).id = (aC vs j).id := fun j => by
  rw [hat]
  split
  ·rename_i e; rw [← e]; rfl
  ·rfl
 have hv2 : eL n (growVs vs i r) = true := by
  unfold eL at hv ⊢
  rw [zH] at hv ⊢
  constructor
  ·have e : dQ (growVs vs i r) = dQ vs := by
    unfold dQ
    have : (growVs vs i r).length = vs.length := by unfold growVs; rw [List.length_set]
    rw [this]
    refine eS fun j _ => ?_
    unfold jL
    rw [hid, hid]
   rw [e]
   exact hv.1
  ·rw [fL (fun j hj => ?_)]
   ·rfl
   rw [hat]
   split
   ·rename_i e
    unfold kE zV
    have h1 := LY hrl hg
    have h2 : (gV r (aC vs i).rs).length = (aC vs i).rn + 1 := by rw [B4, hrl]
    rw [h2, h1]
    rfl
   ·have hz := lY (n := n) (vs := vs) (by unfold eL; rw [zH]; exact hv) j hj
    unfold kE
    rw [hz]
    rfl
 have hl2 : dC n (growVs vs i r) ln ls = true := by
  have hp : ∀ y, aI n (growVs vs i r) y = aI n vs y := fun y => by
   have e : (fun j => (aC (growVs vs i r) j).id == y) = fun j => (aC vs j).id == y := funext fun j => by rw [hid]
   unfold aI
   rw [e]
  have e : mR n (growVs vs i r) ls = mR n vs ls := funext fun j => by
   unfold mR
   rw [hp, hp]
  unfold dC at hlk ⊢
  rw [e]
  exact hlk
 unfold bU
 rw [if_neg (by simp; omega), hv2, hl2]
 simp
theorem NN.agg (h : NN w V us ms) : ∃ X C Y D, V = .agg #[.slice X us.length C, .slice Y ms.length D] := by
 obtain ⟨X, C, Y, D, e, -⟩ := h
 exact ⟨X, C, Y, D, e⟩
def delLk (p : Int × Int) (ls : List (Int × Int)) : List (Int × Int) := ls.filter fun q => !(decide (q.1 = p.1) && decide (q.2 = p.2))
theorem F4 {p : Int × Int} (h : fZ p q = true) : fZ q p = false := by
 unfold fZ at *
 simp only [Bool.or_eq_false_iff, Bool.and_eq_false_iff, decide_eq_false_iff_not, Bool.or_eq_true, zH, decide_eq_true_eq] at *
 rcases h with h | ⟨h1, h2⟩
 ·exact ⟨by omega, .inl (by omega)⟩
 ·exact ⟨by omega, .inr (by omega)⟩
theorem IQ {p r : Int × Int} (h : fZ p q = true) (g : fZ q r = true) : fZ p r = true := by
 unfold fZ at *
 simp only [Bool.or_eq_true, zH, decide_eq_true_eq] at *
 omega
theorem tE (h : fR ls = true) : ∀ (k j : Nat), j < k → k < ls.length → fZ (lkAt ls j) (lkAt ls k) = true
 | 0, j, hj, _ => by omega
 | k + 1, j, hj, hk => by
  have h1 : fZ (lkAt ls k) (lkAt ls (k + 1)) = true := by
   rw [← oW]
   unfold fR at h
   exact List.all_eq_true.1 h (k + 1) (by simpa using hk)
  by_cases e : j = k
  ·subst e; exact h1
  ·exact IQ (tE h k j (by omega) (by omega)) h1
theorem F5 (h : k < ls.length) : lkAt ls k ∈ ls := by
 unfold lkAt
 rw [zF, List.getElem?_eq_getElem h]
 exact List.getElem_mem h
theorem bZ.cells {g cap : Nat} {fs : List (Int × Int)} (h : bZ w base (.slice (some ⟨g, 0, none⟩) n cap) fs) (q : Nat) (hq : q < fs.length) :
  w.cell? ⟨g, q * 2, none⟩ = some (.int .i64 (lkAt fs q).1) ∧ w.cell? ⟨g, q * 2 + 1, none⟩ = some (.int .i64 (lkAt fs q).2) := by
 obtain ⟨x2, c2, he2, -, -, -, hm'⟩ := h.mem
 simp only [Value.slice.injEq] at he2
 obtain ⟨b2, o2, he3, c7, c8⟩ := hm' q hq
 rw [← he2.1] at he3
 simp only [Option.some.injEq, Addr.mk.injEq] at he3
 obtain ⟨rfl, rfl, -⟩ := he3
 exact ⟨by simpa using c7, by simpa using c8⟩
theorem RJ (hr : fR ls = true) (h : SV a b ls ms) : ms = delLk (min a b, max a b) ls := by
 obtain ⟨i, hi, he, rfl⟩ := h
 unfold eqLk at he
 simp only [zH, decide_eq_true_eq] at he
 have hip : lkAt ls i = (min a b, max a b) := Prod.ext he.1.symm he.2.symm
 have hne : ∀ j, j < ls.length → j ≠ i → ¬ ((lkAt ls j).1 = min a b ∧ (lkAt ls j).2 = max a b) := fun j hj hji e => by
  have e2 : lkAt ls j = lkAt ls i := by rw [hip]; exact Prod.ext e.1 e.2
  rcases Nat.lt_or_gt_of_ne hji with h1 | h1
  ·have h2 := tE hr i j h1 hi
   rw [e2] at h2
   have h3 := F4 h2
   rw [h2] at h3
   cases h3
  ·have h2 := tE hr j i h1 hj
   rw [e2] at h2
   have h3 := F4 h2
   rw [h2] at h3
   cases h3
 have hat : ∀ j (hj : j < ls.length), ls[j] = lkAt ls j := fun j hj => by
  unfold lkAt
  rw [zF, List.getElem?_eq_getElem hj]
  rfl
 have hsplit : ls = ls.take i ++ (lkAt ls i :: ls.drop (i + 1)) := by
  rw [← hat i hi, ← List.drop_eq_getElem_cons hi, List.take_append_drop]
 have h1 : (ls.take i).filter (fun q => !(decide (q.1 = min a b) && decide (q.2 = max a b))) = ls.take i := by
  rw [List.filter_eq_self]
  intro q hq
  obtain ⟨j, hj, rfl⟩ := List.getElem_of_mem hq
  rw [List.length_take] at hj
  rw [List.getElem_take, hat j (by omega)]
  have := hne j (by omega) (by omega)
  rw [Bool.not_eq_true', ← Bool.not_eq_true, zH, decide_eq_true_eq, decide_eq_true_eq]
  exact this
 have h2 : (ls.drop (i + 1)).filter (fun q => !(decide (q.1 = min a b) && decide (q.2 = max a b))) = ls.drop (i + 1) := by
  rw [List.filter_eq_self]
  intro q hq
  obtain ⟨j, hj, rfl⟩ := List.getElem_of_mem hq
  rw [List.length_drop] at hj
  rw [List.getElem_drop, hat _ (by omega)]
  have := hne (i + 1 + j) (by omega) (by omega)
  rw [Bool.not_eq_true', ← Bool.not_eq_true, zH, decide_eq_true_eq, decide_eq_true_eq]
  exact this
 unfold delLk
 show _ = ls.filter (fun q => !(decide (q.1 = min a b) && decide (q.2 = max a b)))
 conv => rhs; rw [hsplit]
 rw [List.filter_append, List.filter_cons_of_neg (by rw [hip]; simp), h1, h2]
theorem zZ (id : Int) (vs : List Vn) : iU id vs ≤ vs.length ∧ (∀ j, j < iU id vs → ¬ id < (aC vs j).id) ∧ (iU id vs < vs.length → id < (aC vs (iU id vs)).id) := by
 cases h : (List.range vs.length).find? (fun i => decide (id < (aC vs i).id)) with
 | none =>
  have e : iU id vs = vs.length := by unfold iU; rw [h]; rfl
  rw [e]
  refine ⟨zE, fun j hj => ?_, fun h => absurd h (Nat.lt_irrefl _)⟩
  have := List.find?_eq_none.1 h j (by simpa using hj)
  simpa using this
 | some i =>
  obtain ⟨h1, h2, h3⟩ := List.find?_range_eq_some.1 h
  have hi : i < vs.length := by simpa using h2
  have e : iU id vs = i := by unfold iU; rw [h]; rfl
  rw [e]
  exact ⟨by omega, fun j hj => by simpa using h3 j hj, fun _ => by simpa using h1⟩
theorem kM (hj : j ≤ vs.length) : aC (vs.take j ++ [v] ++ vs.drop j) i = if i < j then aC vs i else if i = j then v else aC vs (i - 1) := by
 have hlen : (vs.take j).length = j := by rw [List.length_take]; omega
 unfold aC
 simp only [zF]
 by_cases h1 : i < j
 ·rw [if_pos h1, List.append_assoc, List.getElem?_append_left (by omega), List.getElem?_take_of_lt h1]
 ·rw [if_neg h1]
  by_cases h2 : i = j
  ·rw [if_pos h2, List.append_assoc, List.getElem?_append_right (by omega), hlen, h2, Nat.sub_self]
   rfl
  ·rw [if_neg h2, List.getElem?_append_right (by simp; omega), List.getElem?_drop]
   rw [show j + (i - (List.take j vs ++ [v]).length) = i - 1 by simp; omega]
theorem fT : ¬ aI n vs y < 0 ↔ ∃ i, i < n ∧ (aC vs i).id = y := by
 constructor
 ·intro h
  rcases vplace_cases n vs y with ⟨i, hi, he, -⟩ | e
  ·exact ⟨i, hi, he⟩
  ·rw [e] at h
   exact absurd (by decide) h
 ·rintro ⟨i, hi, he⟩ h
  unfold aI at h
  cases hf : (List.range n).find? (fun i => (aC vs i).id == y) with
  | none =>
   have := List.find?_eq_none.1 hf i (by simpa using hi)
   simp [he] at this
  | some k =>
   rw [hf] at h
   simp only at h
   omega
theorem PM {id : Int} (h : dE id 1 65536 = true) : aZ (newV id).id (newV id).rn (newV id).rs (newV id).sn (newV id).ss = 0 := by
 unfold aZ newV
 rw [h]
 rfl
theorem L0 {id : Int} (hvl : vs.length = n) (hll : ls.length = ln) (h : iT n vs ln ls id = 0) : bU (n + 1) (oV id vs) ln ls = 0 := by
 unfold iT at h
 split at h
 ·rename_i h0
  split at h
  ·omega
  ·rename_i hw
   split at h
   ·omega
   ·rename_i hpl
    split at h
    ·omega
    ·rename_i h6
     obtain ⟨g6, g12, gv, gl, ga⟩ := eR h0
     have hw' : dE id 1 65536 = true := by simpa using hw
     have hno : ∀ i, i < n → (aC vs i).id ≠ id := fun i hi e => hpl (by
      have := fT.2 ⟨i, hi, e⟩
      omega)
     have hgv := gv
     unfold eL at gv
     rw [zH] at gv
     have hrise : ∀ i, i + 1 < n → (aC vs i).id < (aC vs (i + 1)).id := fun i hi => by
      have h1 := gv.1
      unfold dQ at h1
      have h2 := List.all_eq_true.1 h1 (i + 1) (by rw [hvl]; simpa using hi)
      unfold jL at h2
      simpa using h2
     obtain ⟨hj, hlo, hup⟩ := zZ id vs
     unfold oV
     generalize iU id vs = j at *
     have hlen : (vs.take j ++ [newV id] ++ vs.drop j).length = n + 1 := by simp; omega
     refine xF (by simp; omega) ?_ ?_ ?_
     ·unfold eL
      rw [zH]
      constructor
      ·unfold dQ
       rw [List.all_eq_true]
       intro i hi
       have hi' : i < n + 1 := by rw [hlen] at hi; simpa using hi
       cases i with
       | zero => rfl
       | succ i =>
        unfold jL
        rw [Nat.add_sub_cancel, kM hj, kM hj, Bool.or_eq_true, decide_eq_true_eq]
        refine .inr ?_
        by_cases h1 : i + 1 < j
        ·rw [if_pos (by omega), if_pos h1]
         exact hrise i (by omega)
        ·rw [if_neg h1]
         by_cases h2 : i + 1 = j
         ·rw [if_pos (by omega), if_pos h2]
          have h3 := hlo i (by omega)
          have h4 := hno i (by omega)
          show (aC vs i).id < id
          omega
         ·rw [if_neg h2, if_neg (by omega)]
          by_cases h3 : i = j
          ·rw [if_pos h3, Nat.add_sub_cancel, h3]
           exact hup (by omega)
          ·rw [if_neg h3, Nat.add_sub_cancel]
           obtain ⟨q, rfl⟩ : ∃ q, i = q + 1 := ⟨i - 1, by omega⟩
           rw [Nat.add_sub_cancel]
           exact hrise q (by omega)
      ·rw [fL (fun i hi => ?_)]
       ·rfl
       rw [kM hj]
       unfold kE
       split
       ·rw [lY hgv i (by omega)]; rfl
       ·split
        ·rw [PM hw']; rfl
        ·rw [lY hgv (i - 1) (by omega)]; rfl
     ·have hgl := gl
      unfold dC at gl ⊢
      rw [zH] at gl ⊢
      refine ⟨gl.1, ?_⟩
      rw [fL (fun k hk => ?_)]
      ·rfl
      have hm : lkAt ls k ∈ ls := F5 (by rw [hll]; exact hk)
      obtain ⟨k1, ⟨q1, hq1, hq2⟩, q3, hq3, hq4⟩ := tC hvl hll hgl _ hm
      have up : ∀ q, q < n → ∃ q', q' < n + 1 ∧ (aC (vs.take j ++ [newV id] ++ vs.drop j) q').id = (aC vs q).id := fun q hq => by
       by_cases h1 : q < j
       ·exact ⟨q, by omega, by rw [kM hj, if_pos h1]⟩
       ·exact ⟨q + 1, by omega, by rw [kM hj, if_neg (by omega), if_neg (by omega), Nat.add_sub_cancel]⟩
      obtain ⟨u1, hu1, e1⟩ := up q1 hq1
      obtain ⟨u3, hu3, e3⟩ := up q3 hq3
      unfold mR
      simp only [Bool.or_eq_false_iff, decide_eq_false_iff_not]
      refine ⟨⟨?_, ?_⟩, ?_⟩
      ·show ¬ (lkAt ls k).2 ≤ (lkAt ls k).1
       omega
      ·show ¬ aI _ _ (lkAt ls k).1 < 0
       exact fT.2 ⟨u1, hu1, e1.trans hq2⟩
      ·show ¬ aI _ _ (lkAt ls k).2 < 0
       exact fT.2 ⟨u3, hu3, e3.trans hq4⟩
     ·unfold sX
      rw [List.all_eq_true]
      intro i hi
      have hi' : i < n + 1 := by simpa using hi
      unfold DG
      rw [List.all_eq_true]
      intro k hk
      have hk' : k < i := by simpa using hk
      rw [Bool.not_eq_true']
      have hmn : ∀ (qn : Nat) (qs : List Rg), iS (newV id).rn (newV id).rs qn qs = false := fun _ _ => rfl
      unfold A6
      rw [kM hj, kM hj]
      by_cases h1 : i < j
      ·rw [if_pos h1, if_pos (by omega)]
       exact FY ga (by omega) hk'
      ·rw [if_neg h1]
       by_cases h2 : i = j
       ·rw [if_pos h2, hmn, Bool.and_false]
       ·rw [if_neg h2]
        by_cases h3 : k < j
        ·rw [if_pos h3]
         exact FY ga (i := i - 1) (by omega) (by omega)
        ·rw [if_neg h3]
         by_cases h4 : k = j
         ·rw [if_pos h4, rO, hmn, Bool.and_false]
         ·rw [if_neg h4]
          exact FY ga (i := i - 1) (j := k - 1) (by omega) (by omega)
 ·rename_i h0
  exact absurd h h0
theorem AA : fR ls = true ↔ ls.Pairwise fun p q => fZ p q = true := by
 have hat : ∀ j (hj : j < ls.length), lkAt ls j = ls[j] := fun j hj => by
  unfold lkAt
  rw [zF, List.getElem?_eq_getElem hj]
  rfl
 constructor
 ·intro h
  rw [List.pairwise_iff_getElem]
  intro i j hi hj hij
  rw [← hat i hi, ← hat j hj]
  exact tE h j i hij hj
 ·intro h
  refine uO fun i hi => ?_
  cases i with
  | zero => rfl
  | succ i =>
   rw [oW, hat i (by omega), hat (i + 1) hi]
   exact List.pairwise_iff_getElem.1 h i (i + 1) (by omega) hi (by omega)
theorem PN (h : ∀ p ∈ ms, p ∈ ls) (ha : sX ls n vs = true) : sX ms n vs = true := by
 unfold sX
 rw [List.all_eq_true]
 intro i hi
 unfold DG
 rw [List.all_eq_true]
 intro j hj
 rw [Bool.not_eq_true']
 have h1 := FY ha (by simpa using hi) (by simpa using hj)
 unfold A6 at h1 ⊢
 by_cases e : cU ms (aC vs i).id = cU ms (aC vs j).id
 ·rw [UD ((UC ms _ _ e).more h), Bool.and_eq_false_iff] at h1
  rw [Bool.and_eq_false_iff]
  rcases h1 with h1 | h1
  ·exact absurd h1 (by simp)
  ·exact .inr h1
 ·rw [Bool.and_eq_false_iff]
  exact .inl (by simpa using e)
theorem L1 {p : Int × Int} (hvl : vs.length = n) (hll : ls.length = ln) (h : bU n vs ln ls = 0) : bU n vs (delLk p ls).length (delLk p ls) = 0 := by
 obtain ⟨g6, g12, gv, gl, ga⟩ := eR h
 have hsub : ∀ q ∈ delLk p ls, q ∈ ls := fun q hq => (List.mem_filter.1 hq).1
 have hlen : (delLk p ls).length ≤ ln := by rw [← hll]; exact List.length_filter_le _ _
 refine xF (by simp; omega) gv ?_ (PN hsub ga)
 have hgl := gl
 unfold dC at gl ⊢
 rw [zH] at gl ⊢
 refine ⟨AA.2 ((AA.1 gl.1).filter _), ?_⟩
 rw [fL (fun k hk => ?_)]
 ·rfl
 obtain ⟨k1, h1, h2⟩ := tC hvl hll hgl _ (hsub _ (F5 hk))
 unfold mR
 simp only [Bool.or_eq_false_iff, decide_eq_false_iff_not]
 refine ⟨⟨?_, ?_⟩, ?_⟩
 ·show ¬ (lkAt (delLk p ls) k).2 ≤ (lkAt (delLk p ls) k).1
  omega
 ·exact fT.2 h1
 ·exact fT.2 h2
theorem F6 (hvl : vs.length = n) (hi : i < n) (h : bU n vs ln ls = 0) (hid : u.id = (aC vs i).id) (hu : aZ u.id u.rn u.rs u.sn u.ss = 0) (hr : ∀ k, k < u.rn → ∃ q, q < (aC vs i).rn ∧ aJ u.rs k = aJ (aC vs i).rs q) :
  bU n (vs.set i u) ln ls = 0 := by
 obtain ⟨h6, h12, hv, hlk, ha⟩ := eR h
 have hat : ∀ j, aC (vs.set i u) j = if i = j then u else aC vs j := fun j => cH (by rw [hvl]; exact hi) u j
 have hidj : ∀ j, (aC (vs.set i u) j).id = (aC vs j).id := fun j => by
  rw [hat]
  split
  ·rename_i e; rw [← e]; exact hid
  ·rfl
 have hmeet : ∀ (qn : Nat) (qs : List Rg), iS u.rn u.rs qn qs = true → iS (aC vs i).rn (aC vs i).rs qn qs = true := fun qn qs hm => by
  unfold iS at hm ⊢
  obtain ⟨k, hk, h1⟩ := kD hm
  obtain ⟨q, hq, e⟩ := hr k hk
  refine bD hq ?_
  rw [← e]
  exact h1
 refine xF (by simp; omega) ?_ ?_ ?_
 ·have hv' := hv
  unfold eL at hv ⊢
  rw [zH] at hv ⊢
  constructor
  ·have e : dQ (vs.set i u) = dQ vs := by
    unfold dQ
    rw [List.length_set]
    refine eS fun j _ => ?_
    unfold jL
    rw [hidj, hidj]
   rw [e]
   exact hv.1
  ·rw [fL (fun j hj => ?_)]
   ·rfl
   rw [hat]
   unfold kE
   split
   ·rw [hu]; rfl
   ·rw [lY hv' j hj]; rfl
 ·have hp : ∀ y, aI n (vs.set i u) y = aI n vs y := fun y => by
   have e : (fun j => (aC (vs.set i u) j).id == y) = fun j => (aC vs j).id == y := funext fun j => by rw [hidj]
   unfold aI
   rw [e]
  have e : mR n (vs.set i u) ls = mR n vs ls := funext fun j => by
   unfold mR
   rw [hp, hp]
  unfold dC at hlk ⊢
  rw [e]
  exact hlk
 ·unfold sX
  rw [List.all_eq_true]
  intro j hj
  have hj' : j < n := by simpa using hj
  unfold DG
  rw [List.all_eq_true]
  intro k hk
  have hk' : k < j := by simpa using hk
  rw [Bool.not_eq_true']
  have h1 := FY ha hj' hk'
  unfold A6 at h1 ⊢
  rw [hidj, hidj, Bool.and_eq_false_iff] at *
  rcases h1 with h1 | h1
  ·exact .inl h1
  ·refine .inr ?_
   rw [hat, hat]
   cases e : iS (if i = j then u else aC vs j).rn (if i = j then u else aC vs j).rs (if i = k then u else aC vs k).rn (if i = k then u else aC vs k).rs
   ·rfl
   ·exfalso
    by_cases e1 : i = j
    ·rw [if_pos e1, if_neg (by omega)] at e
     have h2 := hmeet _ _ e
     rw [e1, h1] at h2
     cases h2
    ·rw [if_neg e1] at e
     by_cases e2 : i = k
     ·rw [if_pos e2, rO] at e
      have h2 := hmeet _ _ e
      rw [rO, e2, h1] at h2
      cases h2
     ·rw [if_neg e2, h1] at e
      cases e
theorem tF {f : Nat → Int} (h : ∀ i, i + 1 < n → f i < f (i + 1)) : ∀ (i k : Nat), k < i → i < n → f k < f i
 | 0, k, hk, _ => by omega
 | i + 1, k, hk, hi => by
  have h1 := h i hi
  by_cases e : k = i
  ·rw [e]; exact h1
  ·have := tF h i k (by omega) (by omega)
   omega
structure RV (vid : Int) (rn : Nat) (rs : List Rg) (sn : Nat) (ss : List Sb) : Prop where
 r4 : rn ≤ 4
 s6 : sn ≤ 6
 iw : dE vid 1 65536 = true
 rg : ∀ i, i < rn → BV (aJ rs i) = true
 ap : ∀ i k, k < i → i < rn → fK (aJ rs k).a (aJ rs k).l (aJ rs i).a (aJ rs i).l = false
 ri : ∀ i k, k < i → i < rn → (aJ rs k).a < (aJ rs i).a
 sb : ∀ i, i < sn → kU rn rs (sbAt ss i).id (sbAt ss i).a (sbAt ss i).l = true
 n8 : ∀ i, i < sn → (sbAt ss i).n ≤ 8
 n4 : ∀ i, i < sn → ∀ j, j < (sbAt ss i).n → (fcAt (sbAt ss i).fs j).n ≤ 4
 fc : ∀ i, i < sn → eE (sbAt ss i).a (sbAt ss i).l (sbAt ss i).n (sbAt ss i).fs = true
 sa : ∀ i k, k < i → i < sn → fK (sbAt ss k).a (sbAt ss k).l (sbAt ss i).a (sbAt ss i).l = false
 si : ∀ i k, k < i → i < sn → (sbAt ss k).id < (sbAt ss i).id
theorem JN (hrl : rs.length = rn) (hsl : ss.length = sn) (h : aZ vid rn rs sn ss = 0) : RV vid rn rs sn ss := by
 obtain ⟨f1, f2, f3, f4⟩ := cN h
 obtain ⟨g1, g2, g3⟩ := kJ h
 unfold nO at g2
 unfold mQ at g3
 rw [zH, cM] at g2 g3
 have e1 : ∀ i, i < rn → BV (aJ rs i) = true ∧ aL i (DD rs (aJ rs i).a (aJ rs i).l) = false := fun i hi => by
  have := g2.1 i hi
  unfold sT at this
  simpa using this
 have e2 : ∀ i, i < sn → (kU rn rs (sbAt ss i).id (sbAt ss i).a (sbAt ss i).l = true ∧ aL i (xB ss (sbAt ss i).a (sbAt ss i).l) = false) ∧ eE (sbAt ss i).a (sbAt ss i).l (sbAt ss i).n (sbAt ss i).fs = true := fun i hi => by
  have := g3.1 i hi
  unfold lW at this
  simpa using this
 refine ⟨f1, f2, g1, fun i hi => (e1 i hi).1, fun i k hk hi => cG.1 (e1 i hi).2 k hk, ?_, fun i hi => (e2 i hi).1.1, f3, f4, fun i hi => (e2 i hi).2, fun i k hk hi => cG.1 (e2 i hi).1.2 k hk, ?_⟩
 ·refine tF (f := fun i => (aJ rs i).a) (fun i hi => ?_)
  have h2 := g2.2
  unfold rI at h2
  have h3 := cM.1 h2 (i + 1) (by omega)
  unfold pX at h3
  simpa using h3
 ·refine tF (f := fun i => (sbAt ss i).id) (fun i hi => ?_)
  have h2 := g3.2
  unfold mP at h2
  have h3 := cM.1 h2 (i + 1) (by omega)
  unfold pY at h3
  simpa using h3
theorem RV.chk (h : RV vid rn rs sn ss) (hrl : rs.length = rn) (hsl : ss.length = sn) : aZ vid rn rs sn ss = 0 := by
 have hm : cT rn sn ss = false := by
  unfold cT
  have e : aL sn (fun i => eD (sbAt ss i)) = false := cG.2 (fun k hk => by
   unfold eD
   have e2 : aL (sbAt ss k).n (fun j => decide (4 < (fcAt (sbAt ss k).fs j).n)) = false := cG.2 (fun j hj => by have := h.n4 k hk j hj; simp; omega)
   have := h.n8 k hk
   rw [e2]
   simp
   omega)
  have h1 := h.r4
  have h2 := h.s6
  rw [e]
  simp
  omega
 have hr : nO rn rs = true := by
  unfold nO
  rw [zH, cM]
  refine ⟨fun i hi => ?_, ?_⟩
  ·unfold sT
   have e : aL i (DD rs (aJ rs i).a (aJ rs i).l) = false := cG.2 (fun k hk => h.ap i k hk hi)
   rw [h.rg i hi, e]
   rfl
  ·unfold rI
   rw [cM]
   intro i hi
   unfold pX
   cases i with
   | zero => rfl
   | succ i => simpa using h.ri (i + 1) i (by omega) (by omega)
 have hs : mQ rn rs sn ss = true := by
  unfold mQ
  rw [zH, cM]
  refine ⟨fun i hi => ?_, ?_⟩
  ·unfold lW
   have e : aL i (xB ss (sbAt ss i).a (sbAt ss i).l) = false := cG.2 (fun k hk => h.sa i k hk hi)
   rw [h.sb i hi, e, h.fc i hi]
   rfl
  ·unfold mP
   rw [cM]
   intro i hi
   unfold pY
   cases i with
   | zero => rfl
   | succ i => simpa using h.si (i + 1) i (by omega) (by omega)
 unfold aZ
 rw [hm, h.iw, hr, hs]
 rfl
theorem PO (h : bV fs gs) : aN fs = aN gs := by
 have e : fs.map Fc.ns = gs.map Fc.ns := by
  refine List.ext_getElem (by simp [h.1]) (fun i h1 h2 => ?_)
  have hi : i < fs.length := by simpa using h1
  have hg : i < gs.length := by rw [← h.1]; exact hi
  have := (h.2 i hi).2.2
  rw [sU hi, sU hg] at this
  simpa using this
 unfold aN
 rw [List.flatMap_def, List.flatMap_def]
 exact congrArg List.flatten e
theorem PP (h : bV fs gs) (hn : fs.length = n) (hf : eE a l n fs = true) : eE a l n gs = true := by
 unfold eE at hf ⊢
 simp only [zH] at hf ⊢
 refine ⟨⟨?_, ?_⟩, ?_⟩
 ·rw [cM]
  intro i hi
  have h1 := cM.1 hf.1.1 i hi
  obtain ⟨s1, s2, s3⟩ := h.2 i (by omega)
  unfold eU at h1 ⊢
  rw [← s1, ← s2, ← s3]
  exact h1
 ·unfold eC
  rw [cM, ← h.1]
  intro i hi
  have h2 := hf.1.2
  unfold eC at h2
  have h1 := cM.1 h2 i hi
  unfold iI at h1 ⊢
  rw [← (h.2 i hi).1, ← (h.2 (i - 1) (by omega)).1]
  exact h1
 ·rw [← PO h]
  exact hf.2
theorem DQ {α : Type} (xs : List α) (p : Nat) (hp : p < xs.length) (j : Nat) : (xs.take p ++ xs.drop (p + 1))[j]? = xs[if j < p then j else j + 1]? := by
 have hl : (xs.take p).length = p := by rw [List.length_take]; omega
 by_cases h : j < p
 ·rw [if_pos h, List.getElem?_append_left (by omega), List.getElem?_take_of_lt h]
 ·rw [if_neg h, List.getElem?_append_right (by omega), List.getElem?_drop, hl]
  congr 1
  omega
theorem PQ (hp : p < ts.length) (j : Nat) : sbAt (ts.take p ++ ts.drop (p + 1)) j = sbAt ts (if j < p then j else j + 1) := by
 unfold sbAt
 rw [zF, DQ ts p hp, ← zF]
theorem iV {ts : List Rg} (hp : p < ts.length) (j : Nat) : aJ (ts.take p ++ ts.drop (p + 1)) j = aJ ts (if j < p then j else j + 1) := by
 unfold aJ
 rw [zF, DQ ts p hp, ← zF]
theorem tG {ts : List Fc} (hp : p < ts.length) (j : Nat) : fcAt (ts.take p ++ ts.drop (p + 1)) j = fcAt ts (if j < p then j else j + 1) := by
 unfold fcAt
 rw [zF, DQ ts p hp, ← zF]
theorem xG (h : k < i) : (if k < p then k else k + 1) < (if i < p then i else i + 1) := by
 split <;> split <;> omega
theorem RV.pick (h : RV vid rn rs sn ss) (f : Nat → Nat) (hn : sn' ≤ sn) (hf : ∀ k, k < sn' → f k < sn ∧ FT (sbAt ss (f k)) (sbAt ss' k)) (hm : ∀ i k, k < i → i < sn' → f k < f i) (hl : ∀ i, i < sn → (sbAt ss i).fs.length = (sbAt ss i).n) : RV vid rn rs sn' ss' where
 r4 := h.r4
 s6 := Nat.le_trans hn h.s6
 iw := h.iw
 rg := h.rg
 ap := h.ap
 ri := h.ri
 sb i hi := by
  obtain ⟨g, s1, s2, s3, s4, s5⟩ := hf i hi
  rw [← s1, ← s2, ← s3]
  exact h.sb _ g
 n8 i hi := by
  obtain ⟨g, s1, s2, s3, s4, s5⟩ := hf i hi
  rw [← s4]
  exact h.n8 _ g
 n4 i hi j hj := by
  obtain ⟨g, s1, s2, s3, s4, s5⟩ := hf i hi
  rw [← s4] at hj
  rw [← (s5.2 j (by rw [hl _ g]; exact hj)).2.1]
  exact h.n4 _ g j hj
 fc i hi := by
  obtain ⟨g, s1, s2, s3, s4, s5⟩ := hf i hi
  rw [← s2, ← s3, ← s4]
  exact PP s5 (hl _ g) (h.fc _ g)
 sa i k hk hi := by
  obtain ⟨g, s1, s2, s3, s4, s5⟩ := hf i hi
  obtain ⟨g', t1, t2, t3, t4, t5⟩ := hf k (by omega)
  rw [← s2, ← s3, ← t2, ← t3]
  exact h.sa _ _ (hm i k hk hi) g
 si i k hk hi := by
  obtain ⟨g, s1, -⟩ := hf i hi
  obtain ⟨g', t1, -⟩ := hf k (by omega)
  rw [← s1, ← t1]
  exact h.si _ _ (hm i k hk hi) g
theorem RV.same (h : RV vid rn rs sn ss) (hsl : ss.length = sn) (hs : bN ss ss') (hl : ∀ i, i < sn → (sbAt ss i).fs.length = (sbAt ss i).n) : RV vid rn rs sn ss' :=
 h.pick (fun k => k) (zE) (fun k hk => ⟨hk, hs.2 k (by omega)⟩) (fun _ _ hk _ => hk) hl
theorem RV.unsub (h : RV vid rn rs sn ss) (hsl : ss.length = sn) (hs : bN ss ts) (hi : i < ts.length) (hl : ∀ i, i < sn → (sbAt ss i).fs.length = (sbAt ss i).n) : RV vid rn rs (sn - 1) (ts.take i ++ ts.drop (i + 1)) := by
 have htl : ts.length = sn := by rw [← hs.1, hsl]
 refine h.pick (fun k => if k < i then k else k + 1) (by omega) (fun k hk => ?_) (fun a b hb _ => xG hb) hl
 have hk' : (if k < i then k else k + 1) < sn := by split <;> omega
 refine ⟨hk', ?_⟩
 rw [PQ hi]
 exact hs.2 _ (by rw [hsl]; exact hk')
theorem RV.drop (h : RV vid rn rs sn ss) (hrl : rs.length = rn) (hi : i < rn) (hno : ∀ k, k < sn → jA (sbAt ss k).a (sbAt ss k).l (aJ rs i).a (aJ rs i).l = false) : RV vid (rn - 1) (rs.take i ++ rs.drop (i + 1)) sn ss where
 r4 := by have := h.r4; omega
 s6 := h.s6
 iw := h.iw
 rg k hk := by
  rw [iV (by omega)]
  exact h.rg _ (by split <;> omega)
 ap k j hj hk := by
  rw [iV (by omega), iV (by omega)]
  exact h.ap _ _ (xG hj) (by split <;> omega)
 ri k j hj hk := by
  rw [iV (by omega), iV (by omega)]
  exact h.ri _ _ (xG hj) (by split <;> omega)
 sb k hk := by
  have h1 := h.sb k hk
  unfold kU at h1 ⊢
  rw [zH] at h1 ⊢
  refine ⟨h1.1, ?_⟩
  obtain ⟨q, hq, hf⟩ := kD h1.2
  unfold T4 at hf
  have hne : q ≠ i := fun e => by rw [e, hno k hk] at hf; cases hf
  by_cases c : q < i
  ·refine bD (k := q) (by omega) ?_
   unfold T4
   rw [iV (by omega), if_pos c]
   exact hf
  ·refine bD (k := q - 1) (by omega) ?_
   unfold T4
   rw [iV (by omega), if_neg (by omega), show q - 1 + 1 = q by omega]
   exact hf
 n8 := h.n8
 n4 := h.n4
 fc := h.fc
 sa := h.sa
 si := h.si
theorem PR (hp : p ≤ ts.length) (e : Sb) (j : Nat) : sbAt (ts.take p ++ [e] ++ ts.drop p) j = if j < p then sbAt ts j else if j = p then e else sbAt ts (j - 1) := by
 have hlen : (ts.take p).length = p := by rw [List.length_take]; omega
 unfold sbAt
 simp only [zF]
 by_cases h1 : j < p
 ·rw [if_pos h1, List.append_assoc, List.getElem?_append_left (by omega), List.getElem?_take_of_lt h1]
 ·rw [if_neg h1]
  by_cases h2 : j = p
  ·rw [if_pos h2, List.append_assoc, List.getElem?_append_right (by omega), hlen, h2, Nat.sub_self]
   rfl
  ·rw [if_neg h2, List.getElem?_append_right (by simp; omega), List.getElem?_drop]
   rw [show p + (j - (List.take p ts ++ [e]).length) = j - 1 by simp; omega]
theorem RV.sub {id c : Int} (h : RV vid rn rs sn ss) (hsl : ss.length = sn) (hp : OY ⟨id, c, m, none, 0, 0, []⟩ ss ss') (h6 : sn ≠ 6) (hB : kU rn rs id c m = true) (hno : ∀ i, i < sn → (sbAt ss i).id ≠ id) (hm : ∀ i, i < sn → fK (sbAt ss i).a (sbAt ss i).l c m = false) : RV vid rn rs (sn + 1) ss' := by
 obtain ⟨p, hp1, hp2, hp3, rfl⟩ := hp
 have hat := PR hp1 ⟨id, c, m, none, 0, 0, []⟩
 have ev : ∀ (P : Sb → Prop), (∀ i, i < sn → P (sbAt ss i)) → P ⟨id, c, m, none, 0, 0, []⟩ → ∀ i, i < sn + 1 → P (sbAt (ss.take p ++ [⟨id, c, m, none, 0, 0, []⟩] ++ ss.drop p) i) := fun P h1 h2 i hi => by
  rw [hat]
  split
  ·exact h1 i (by omega)
  ·split
   ·exact h2
   ·exact h1 _ (by omega)
 have ev2 : ∀ (P : Sb → Sb → Prop), (∀ i k, k < i → i < sn → P (sbAt ss k) (sbAt ss i)) → (∀ k, k < p → P (sbAt ss k) ⟨id, c, m, none, 0, 0, []⟩) → (∀ i, p ≤ i → i < sn → P ⟨id, c, m, none, 0, 0, []⟩ (sbAt ss i)) →
   ∀ i k, k < i → i < sn + 1 → P (sbAt (ss.take p ++ [⟨id, c, m, none, 0, 0, []⟩] ++ ss.drop p) k) (sbAt (ss.take p ++ [⟨id, c, m, none, 0, 0, []⟩] ++ ss.drop p) i) := fun P h1 h2 h3 i k hk hi => by
  rw [hat, hat]
  by_cases a1 : i < p
  ·rw [if_pos a1, if_pos (by omega)]
   exact h1 i k hk (by omega)
  ·rw [if_neg a1]
   by_cases a2 : i = p
   ·rw [if_pos a2, if_pos (by omega)]
    exact h2 k (by omega)
   ·rw [if_neg a2]
    by_cases a3 : k < p
    ·rw [if_pos a3]
     exact h1 (i - 1) k (by omega) (by omega)
    ·rw [if_neg a3]
     by_cases a4 : k = p
     ·rw [if_pos a4]
      exact h3 (i - 1) (by omega) (by omega)
     ·rw [if_neg a4]
      exact h1 (i - 1) (k - 1) (by omega) (by omega)
 refine ⟨h.r4, by have := h.s6; omega, h.iw, h.rg, h.ap, h.ri, ?_, ?_, ?_, ?_, ?_, ?_⟩
 ·exact ev (fun s => kU rn rs s.id s.a s.l = true) h.sb hB
 ·exact ev (fun s => s.n ≤ 8) h.n8 (Nat.zero_le _)
 ·exact ev (fun s => ∀ j, j < s.n → (fcAt s.fs j).n ≤ 4) h.n4 (fun j hj => absurd hj (Nat.not_lt_zero _))
 ·exact ev (fun s => eE s.a s.l s.n s.fs = true) h.fc rfl
 ·exact ev2 (fun s t => fK s.a s.l t.a t.l = false) h.sa (fun k hk => hm k (by omega)) (fun i _ hi => by rw [gA]; exact hm i hi)
 ·refine ev2 (fun s t => s.id < t.id) h.si (fun k hk => ?_) (fun i hpi hi => ?_)
  ·have h1 := hp2 k hk
   have h2 := hno k (by omega)
   show (sbAt ss k).id < id
   simp only at h1
   omega
  ·show id < (sbAt ss i).id
   have h1 := hp3 (by omega)
   simp only at h1
   by_cases e : i = p
   ·rw [e]; exact h1
   ·have := h.si i p (by omega) hi
    omega
theorem RK (hf : eE a l n fs = true) (hn : fs.length = n) (hj : j < n) : eE a l (n - 1) (fs.take j ++ fs.drop (j + 1)) = true := by
 unfold eE at hf ⊢
 simp only [zH] at hf ⊢
 have hr : ∀ i k, k < i → i < n → (fcAt fs k).id < (fcAt fs i).id := by
  refine tF (f := fun i => (fcAt fs i).id) (fun i hi => ?_)
  have h2 := hf.1.2
  unfold eC at h2
  have h3 := cM.1 h2 (i + 1) (by omega)
  unfold iI at h3
  simpa using h3
 refine ⟨⟨?_, ?_⟩, ?_⟩
 ·rw [cM]
  intro i hi
  have h1 := cM.1 hf.1.1 (if i < j then i else i + 1) (by split <;> omega)
  unfold eU at h1 ⊢
  rw [tG (by omega)]
  exact h1
 ·unfold eC
  rw [cM]
  intro i hi
  have hi' : i < n - 1 := by simp at hi; omega
  unfold iI
  cases i with
  | zero => rfl
  | succ i =>
   rw [Nat.add_sub_cancel, tG (by omega), tG (by omega)]
   have := hr _ _ (xG (p := j) (Nat.lt_succ_self i)) (by split <;> omega)
   simpa using this
 ·have h3 := hf.2
  unfold A2 at h3 ⊢
  simp only [Bool.not_not, decide_eq_true_eq] at h3 ⊢
  have e : fs = fs.take j ++ fcAt fs j :: fs.drop (j + 1) := by
   have h4 : j < fs.length := by omega
   rw [sU h4, ← List.drop_eq_getElem_cons h4, List.take_append_drop]
  have e1 : aN fs = aN (fs.take j) ++ ((fcAt fs j).ns ++ aN (fs.drop (j + 1))) := by
   have h5 : aN (fs.take j ++ fcAt fs j :: fs.drop (j + 1)) = aN (fs.take j) ++ ((fcAt fs j).ns ++ aN (fs.drop (j + 1))) := by simp [aN]
   rw [← e] at h5
   exact h5
  have e2 : aN (fs.take j ++ fs.drop (j + 1)) = aN (fs.take j) ++ aN (fs.drop (j + 1)) := by simp [aN]
  rw [e1] at h3
  rw [e2]
  exact List.Nodup.sublist (List.Sublist.append_left (List.sublist_append_right _ _) _) h3
theorem RV.unface (h : RV vid rn rs sn ss) (hsl : ss.length = sn) (hl : ∀ i, i < sn → (sbAt ss i).fs.length = (sbAt ss i).n) (hi : i < sn) (hj : j < (sbAt ss i).n) (hn : n = ((sbAt ss i).fs.take j ++ (sbAt ss i).fs.drop (j + 1)).length) : RV vid rn rs sn (ss.set i (bQ (sbAt ss i) x n c ((sbAt ss i).fs.take j ++ (sbAt ss i).fs.drop (j + 1)))) := by
 have hat : ∀ k, sbAt (ss.set i (bQ (sbAt ss i) x n c ((sbAt ss i).fs.take j ++ (sbAt ss i).fs.drop (j + 1)))) k = if i = k then bQ (sbAt ss i) x n c ((sbAt ss i).fs.take j ++ (sbAt ss i).fs.drop (j + 1)) else sbAt ss k := fun k => dA (by omega)
 have hn' : n = (sbAt ss i).n - 1 := by
  rw [hn]
  have := hl i hi
  simp
  omega
 have ev : ∀ (P : Sb → Prop), (∀ k, k < sn → P (sbAt ss k)) → P (bQ (sbAt ss i) x n c ((sbAt ss i).fs.take j ++ (sbAt ss i).fs.drop (j + 1))) → ∀ k, k < sn → P (sbAt (ss.set i (bQ (sbAt ss i) x n c ((sbAt ss i).fs.take j ++ (sbAt ss i).fs.drop (j + 1)))) k) := fun P h1 h2 k hk => by
  rw [hat]
  split
  ·exact h2
  ·exact h1 k hk
 have hid : ∀ k, (sbAt (ss.set i (bQ (sbAt ss i) x n c ((sbAt ss i).fs.take j ++ (sbAt ss i).fs.drop (j + 1)))) k).id = (sbAt ss k).id ∧ (sbAt (ss.set i (bQ (sbAt ss i) x n c ((sbAt ss i).fs.take j ++ (sbAt ss i).fs.drop (j + 1)))) k).a = (sbAt ss k).a ∧ (sbAt (ss.set i (bQ (sbAt ss i) x n c ((sbAt ss i).fs.take j ++ (sbAt ss i).fs.drop (j + 1)))) k).l = (sbAt ss k).l := fun k => by
  rw [hat]
  split
  ·rename_i e; rw [← e]; exact ⟨rfl, rfl, rfl⟩
  ·exact ⟨rfl, rfl, rfl⟩
 refine ⟨h.r4, h.s6, h.iw, h.rg, h.ap, h.ri, ?_, ?_, ?_, ?_, ?_, ?_⟩
 ·exact ev (fun s => kU rn rs s.id s.a s.l = true) h.sb (h.sb i hi)
 ·exact ev (fun s => s.n ≤ 8) h.n8 (by show n ≤ 8; have := h.n8 i hi; omega)
 ·refine ev (fun s => ∀ j, j < s.n → (fcAt s.fs j).n ≤ 4) h.n4 (fun k hk => ?_)
  have hk' : k < n := hk
  show (fcAt ((sbAt ss i).fs.take j ++ (sbAt ss i).fs.drop (j + 1)) k).n ≤ 4
  rw [tG (by rw [hl i hi]; exact hj)]
  exact h.n4 i hi _ (by split <;> omega)
 ·refine ev (fun s => eE s.a s.l s.n s.fs = true) h.fc ?_
  show eE (sbAt ss i).a (sbAt ss i).l n _ = true
  rw [hn']
  exact RK (h.fc i hi) (hl i hi) hj
 ·intro a b hb ha
  rw [(hid a).2.1, (hid a).2.2, (hid b).2.1, (hid b).2.2]
  exact h.sa a b hb ha
 ·intro a b hb ha
  rw [(hid a).1, (hid b).1]
  exact h.si a b hb ha
def xH (vid : Int) (rn : Nat) (rs : List Rg) (sn : Nat) (ss : List Sb) (sub id : Int) (E y i : Int) (rs' : List Rg) (ss' : List Sb) : Prop := nH vid rn rs sn ss sub id E y ∧ (E ≠ 0 → i = 0 ∧ rs' = [] ∧ ss' = []) ∧ (E = 0 → i = vid ∧ rs' = rs ∧ ∃ ts p x n c fx gs, qS sn ss sub p ∧ p < ts.length ∧ bN ss ts ∧ B1 ⟨id, fx, 1, 1, [y]⟩ (sbAt ts p).fs gs ∧ n = gs.length ∧ ss' = ts.set p (bQ (sbAt ts p) x n c gs))
def xI (vid : Int) (rn : Nat) (rs : List Rg) (sn : Nat) (ss : List Sb) (sub id : Int) (E y i : Int) (rs' : List Rg) (ss' : List Sb) : Prop := vX vid rn rs sn ss sub id E y ∧ (E ≠ 0 → i = 0 ∧ rs' = [] ∧ ss' = []) ∧ (E = 0 → i = vid ∧ rs' = rs ∧ ∃ ts p q x c ns, iE sn ss sub id p q ∧ p < ts.length ∧ q < (sbAt ts p).fs.length ∧ bN ss ts ∧ B2 y (fcAt (sbAt ts p).fs q).ns ns ∧ ss' = ts.set p (bQ (sbAt ts p) (sbAt ts p).x (sbAt ts p).n (sbAt ts p).c ((sbAt ts p).fs.set q (withA (fcAt (sbAt ts p).fs q) x ns.length c ns))))
theorem L2 (h : k < ns.length) : ns[k]? = some (bP ns k) := by
 unfold bP
 rw [zF, List.getElem?_eq_getElem h]
 rfl
theorem JO {α : Type} (xs : List α) (p : Nat) (hp : p ≤ xs.length) (e : α) (j : Nat) : (xs.take p ++ [e] ++ xs.drop p)[j]? = if j < p then xs[j]? else if j = p then some e else xs[j - 1]? := by
 have hl : (xs.take p).length = p := by rw [List.length_take]; omega
 by_cases h1 : j < p
 ·rw [if_pos h1, List.append_assoc, List.getElem?_append_left (by omega), List.getElem?_take, if_pos h1]
 ·rw [if_neg h1]
  by_cases h2 : j = p
  ·subst h2
   rw [if_pos rfl, List.append_assoc, List.getElem?_append_right (by omega), hl, Nat.sub_self]
   rfl
  ·rw [if_neg h2, List.getElem?_append_right (by simp; omega), List.length_append, hl, List.getElem?_drop]
   congr 1
   simp
   omega
theorem oX (h : eC fs = true) : ∀ (i j : Nat), i < j → j < fs.length → (fcAt fs i).id < (fcAt fs j).id
 | i, 0, hij, _ => by omega
 | i, j + 1, hij, hj => by
  have h1 : iI fs (j + 1) = true := by
   unfold eC at h
   exact List.all_eq_true.1 h (j + 1) (List.mem_range.2 hj)
  unfold iI at h1
  simp only [Nat.add_sub_cancel, Bool.or_eq_true, decide_eq_true_eq, beq_iff_eq] at h1
  have h2 : (fcAt fs j).id < (fcAt fs (j + 1)).id := by
   rcases h1 with h1 | h1
   ·omega
   ·exact h1
  by_cases e : i < j
  ·have := oX h i j e (by omega)
   omega
  ·obtain rfl : i = j := by omega
   exact h2
theorem mA {ts : List Fc} (hp : p ≤ ts.length) (e : Fc) (j : Nat) : fcAt (ts.take p ++ [e] ++ ts.drop p) j = if j < p then fcAt ts j else if j = p then e else fcAt ts (j - 1) := by
 unfold fcAt
 rw [zF, JO ts p hp]
 split
 ·rw [zF]
 ·split
  ·rfl
  ·rw [zF]
theorem AB {ts : List Int} (hp : p ≤ ts.length) (e : Int) (j : Nat) : bP (ts.take p ++ [e] ++ ts.drop p) j = if j < p then bP ts j else if j = p then e else bP ts (j - 1) := by
 unfold bP
 rw [zF, JO ts p hp]
 split
 ·rw [zF]
 ·split
  ·rfl
  ·rw [zF]
theorem bV.symm {a b : List Fc} (h : bV a b) : bV b a := ⟨h.1.symm, fun i hi => by
 obtain ⟨h1, h2, h3⟩ := h.2 i (by rw [h.1]; exact hi)
 exact ⟨h1.symm, h2.symm, h3.symm⟩⟩
theorem RL {α : Type} (xs : List α) (p : Nat) (hp : p < xs.length) (j : Nat) : (xs.take p ++ xs.drop (p + 1))[j]? = if j < p then xs[j]? else xs[j + 1]? := by
 have hl : (xs.take p).length = p := by rw [List.length_take]; omega
 by_cases h1 : j < p
 ·rw [if_pos h1, List.getElem?_append_left (by omega), List.getElem?_take, if_pos h1]
 ·rw [if_neg h1, List.getElem?_append_right (by omega), hl, List.getElem?_drop]
  congr 1
  omega
theorem F7 {ts : List Fc} (hp : p < ts.length) (j : Nat) : fcAt (ts.take p ++ ts.drop (p + 1)) j = if j < p then fcAt ts j else fcAt ts (j + 1) := by
 unfold fcAt
 rw [zF, RL ts p hp]
 split <;> rw [zF]
theorem bV.del {a b : List Fc} (h : bV a b) (hp : p < a.length) : bV (a.take p ++ a.drop (p + 1)) (b.take p ++ b.drop (p + 1)) := by
 have hpb : p < b.length := by rw [← h.1]; exact hp
 refine ⟨by simp [h.1], fun j hj => ?_⟩
 rw [F7 hp, F7 hpb]
 have hj' : j < a.length - 1 := by simp at hj; omega
 split
 ·exact h.2 j (by omega)
 ·exact h.2 (j + 1) (by omega)
def eM (ss : List Sb) : List Int := ss.flatMap fun s => aN s.fs
structure PT (sn : Nat) (ss : List Sb) : Prop where
 subs : ss.length = sn
 fcs : ∀ i, i < sn → (sbAt ss i).fs.length = (sbAt ss i).n
 ads : ∀ i, i < sn → ∀ j, j < (sbAt ss i).n → (fcAt (sbAt ss i).fs j).ns.length = (fcAt (sbAt ss i).fs j).n
theorem Vp.lens {rc sc : Nat} (h : Vp w rx rn rc rs sx sn sc ss) : PT sn ss :=
 ⟨h.subs.len, fun i hi => (h.subs.faces i hi).2.2.len, fun i hi j hj => ((h.subs.faces i hi).2.2.addrs j hj).2.2.len⟩
theorem qA (h : aZ vid rn rs sn ss = 0) (i : Nat) (hi : i < sn) : kU rn rs (sbAt ss i).id (sbAt ss i).a (sbAt ss i).l = true ∧ (∀ j, j < i → xB ss (sbAt ss i).a (sbAt ss i).l j = false) ∧ eE (sbAt ss i).a (sbAt ss i).l (sbAt ss i).n (sbAt ss i).fs = true := by
 obtain ⟨-, -, hs⟩ := kJ h
 unfold mQ at hs
 rw [zH, List.all_eq_true] at hs
 have h1 := hs.1 i (by simpa using hi)
 unfold lW at h1
 simp only [zH, Bool.not_eq_true'] at h1
 exact ⟨h1.1.1, cG.1 h1.1.2, h1.2⟩
theorem mV (h : eE a l n fs = true) : (∀ i, i < n → eU a l fs i = true) ∧ eC fs = true ∧ (aN fs).Nodup := by
 unfold eE A2 at h
 simp only [zH, List.all_eq_true, Bool.not_not, decide_eq_true_eq] at h
 exact ⟨fun i hi => h.1.1 i (List.mem_range.2 hi), h.1.2, h.2⟩
theorem DR (h1 : ∀ i, i < n → eU a l fs i = true) (h2 : eC fs = true) (h3 : (aN fs).Nodup) : eE a l n fs = true := by
 unfold eE A2
 simp only [zH, List.all_eq_true, Bool.not_not, decide_eq_true_eq]
 exact ⟨⟨fun i hi => h1 i (List.mem_range.1 hi), h2⟩, h3⟩
theorem PU (h : eU a l fs j = true) : ∀ m, m < (fcAt fs j).n → qN a l (bP (fcAt fs j).ns m) = true := fun m hm => by
 unfold eU HX at h
 simp only [zH, Bool.not_eq_true'] at h
 have := cG.1 h.2.2 m hm
 simpa using this
theorem L3 (h : y ∈ aN fs) : ∃ j, j < fs.length ∧ y ∈ (fcAt fs j).ns := by
 unfold aN at h
 obtain ⟨f, hf, hy⟩ := List.mem_flatMap.1 h
 obtain ⟨j, hj, rfl⟩ := List.getElem_of_mem hf
 refine ⟨j, hj, ?_⟩
 have e : fcAt fs j = fs[j] := by unfold fcAt; rw [zF, List.getElem?_eq_getElem hj]; rfl
 rw [e]
 exact hy
theorem UI (h : y ∈ ns) : ∃ m, m < ns.length ∧ bP ns m = y := by
 obtain ⟨m, hm, rfl⟩ := List.getElem_of_mem h
 exact ⟨m, hm, by unfold bP; rw [zF, List.getElem?_eq_getElem hm]; rfl⟩
theorem PV (h : aZ vid rn rs sn ss = 0) (hl : PT sn ss) (hi : i < sn) (hL : nF (sbAt ss i) y) : y ∉ eM ss := fun hy => by
 unfold eM at hy
 obtain ⟨s, hs, hy⟩ := List.mem_flatMap.1 hy
 obtain ⟨q, hq, rfl⟩ := List.getElem_of_mem hs
 have e : sbAt ss q = ss[q] := by unfold sbAt; rw [zF, List.getElem?_eq_getElem hq]; rfl
 rw [← e] at hy
 rw [hl.subs] at hq
 by_cases hqi : q = i
 ·subst hqi; exact hL.free hy
 ·obtain ⟨j, hj, hyj⟩ := L3 hy
  rw [hl.fcs q hq] at hj
  obtain ⟨m, hm, hym⟩ := UI hyj
  rw [hl.ads q hq j hj] at hm
  have hu := PU ((mV (qA h q hq).2.2).1 j hj) m hm
  rw [hym] at hu
  have hu2 := hL.use
  unfold qN at hu hu2
  simp only [zH, decide_eq_true_eq] at hu hu2
  have hr1 := (tB h q hq).1
  have hr2 := (tB h i hi).1
  have hm1 := tP hr1 hr2 (by omega) (by omega)
  rcases Nat.lt_or_gt_of_ne hqi with hlt | hlt
  ·have := (qA h i hi).2.1 q hlt
   unfold xB at this
   rw [hm1] at this
   cases this
  ·have := (qA h q hq).2.1 i hlt
   unfold xB at this
   rw [gA, hm1] at this
   cases this
theorem L4 (hi : i < ts.length) : ts.set i s = ts.take i ++ s :: ts.drop (i + 1) ∧ ts = ts.take i ++ sbAt ts i :: ts.drop (i + 1) := by
 refine ⟨List.set_eq_take_append_cons_drop.trans (if_pos hi), ?_⟩
 have e : sbAt ts i = ts[i] := by unfold sbAt; rw [zF, List.getElem?_eq_getElem hi]; rfl
 rw [e, List.getElem_cons_drop, List.take_append_drop]
theorem B6 (hi : i < ts.length) : (eM (ts.set i s)).count a + (aN (sbAt ts i).fs).count a = (eM ts).count a + (aN s.fs).count a := by
 obtain ⟨h1, h2⟩ := L4 (s := s) hi
 have e1 : (eM (ts.set i s)).count a = (eM (ts.take i)).count a + ((aN s.fs).count a + (eM (ts.drop (i + 1))).count a) := by rw [h1]; simp [eM, List.count_append]
 have e2 : (eM ts).count a = (eM (ts.take i)).count a + ((aN (sbAt ts i).fs).count a + (eM (ts.drop (i + 1))).count a) := by
  conv => lhs; rw [h2]
  simp [eM, List.count_append]
 omega
theorem bV.nss (h : bV fs gs) : aN fs = aN gs := by
 have e : fs.map Fc.ns = gs.map Fc.ns := by
  refine List.ext_getElem (by simp [h.1]) (fun i h1 h2 => ?_)
  have hi : i < fs.length := by simpa using h1
  have hg : i < gs.length := by simpa using h2
  have h3 := (h.2 i hi).2.2
  unfold fcAt at h3
  rw [zF, List.getElem?_eq_getElem hi, zF, List.getElem?_eq_getElem hg] at h3
  simpa using h3
 unfold aN
 rw [List.flatMap_def, List.flatMap_def, e]
theorem bN.ads (h : bN ss ts) : eM ss = eM ts := by
 have e : ss.map (fun s => aN s.fs) = ts.map (fun s => aN s.fs) := by
  refine List.ext_getElem (by simp [h.1]) (fun i h1 h2 => ?_)
  have hi : i < ss.length := by simpa using h1
  have hg : i < ts.length := by simpa using h2
  have h3 := (h.2 i hi).2.2.2.2.nss
  unfold sbAt at h3
  rw [zF, List.getElem?_eq_getElem hi, zF, List.getElem?_eq_getElem hg] at h3
  simpa using h3
 unfold eM
 rw [List.flatMap_def, List.flatMap_def, e]
theorem F8 {e : Fc} (he : e.ns = [y]) : (aN (fs.take p ++ [e] ++ fs.drop p)).Perm (y :: aN fs) := by
 have e1 : aN (fs.take p ++ [e] ++ fs.drop p) = aN (fs.take p) ++ y :: aN (fs.drop p) := by simp [aN, he]
 have e2 : aN fs = aN (fs.take p) ++ aN (fs.drop p) := by
  have h : aN (fs.take p ++ fs.drop p) = aN (fs.take p) ++ aN (fs.drop p) := by simp only [aN, List.flatMap_append]
  rw [List.take_append_drop] at h
  exact h
 rw [e1, e2]
 exact List.perm_middle
theorem B7 {q : Nat} (hq : q < fs.length) (h : B2 y (fcAt fs q).ns ns) : (aN (fs.set q (withA (fcAt fs q) x n c ns))).Perm (y :: aN fs) := by
 obtain ⟨p, -, -, -, rfl⟩ := h
 have hs : fs.set q (withA (fcAt fs q) x n c ((fcAt fs q).ns.take p ++ [y] ++ (fcAt fs q).ns.drop p)) = fs.take q ++ withA (fcAt fs q) x n c ((fcAt fs q).ns.take p ++ [y] ++ (fcAt fs q).ns.drop p) :: fs.drop (q + 1) := List.set_eq_take_append_cons_drop.trans (if_pos hq)
 have h2 : fs = fs.take q ++ fcAt fs q :: fs.drop (q + 1) := by
  have e : fcAt fs q = fs[q] := by unfold fcAt; rw [zF, List.getElem?_eq_getElem hq]; rfl
  rw [e, List.getElem_cons_drop, List.take_append_drop]
 have e1 : aN (fs.set q (withA (fcAt fs q) x n c ((fcAt fs q).ns.take p ++ [y] ++ (fcAt fs q).ns.drop p))) = (aN (fs.take q) ++ (fcAt fs q).ns.take p) ++ y :: ((fcAt fs q).ns.drop p ++ aN (fs.drop (q + 1))) := by
  rw [hs]
  simp [aN, withA]
 have e2 : aN fs = (aN (fs.take q) ++ (fcAt fs q).ns.take p) ++ ((fcAt fs q).ns.drop p ++ aN (fs.drop (q + 1))) := by
  conv => lhs; rw [h2]
  have e4 : aN (fs.take q ++ fcAt fs q :: fs.drop (q + 1)) = aN (fs.take q) ++ ((fcAt fs q).ns ++ aN (fs.drop (q + 1))) := by simp [aN]
  rw [e4, List.append_assoc, ← List.append_assoc (List.take p _), List.take_append_drop]
 rw [e1, e2]
 exact List.perm_middle
theorem IR (h : FR (fcAt fs i) (fcAt gs i)) : eU a l fs i = eU a l gs i := by
 unfold eU
 rw [h.1, h.2.1, h.2.2]
theorem AC (h : ∀ j, j + 1 < fs.length → (fcAt fs j).id < (fcAt fs (j + 1)).id) : eC fs = true := by
 refine K0 (fun j hj => ?_)
 unfold iI
 rcases j with _ | j
 ·rfl
 ·simp only [Nat.add_sub_cancel, Bool.or_eq_true, decide_eq_true_eq]
  exact .inr (h j hj)
theorem B8 (h : bV fs gs) (hn : fs.length = n) (hf : eE a l n fs = true) : eE a l n gs = true := by
 obtain ⟨h1, h2, h3⟩ := mV hf
 refine DR (fun i hi => ?_) (AC (fun j hj => ?_)) (by rw [← h.nss]; exact h3)
 ·rw [← IR (h.2 i (by omega))]; exact h1 i hi
 ·have hl := h.1
  rw [← (h.2 j (by omega)).1, ← (h.2 (j + 1) (by omega)).1]
  exact oX h2 j (j + 1) (by omega) (by omega)
theorem PW {id : Int} (hf : eE a l n fs = true) (hn : fs.length = n) (hp : B1 ⟨id, fx, 1, 1, [y]⟩ fs gs) (hid : dE id 1 65536 = true) (hno : ∀ j, j < n → (fcAt fs j).id ≠ id) (hu : qN a l y = true) (hy : y ∉ aN fs) : eE a l gs.length gs = true := by
 obtain ⟨h1, h2, h3⟩ := mV hf
 obtain ⟨p, hp1, hp2, hp3, rfl⟩ := hp
 have hl : (fs.take p ++ [(⟨id, fx, 1, 1, [y]⟩ : Fc)] ++ fs.drop p).length = fs.length + 1 := by simp; omega
 refine DR (fun i hi => ?_) (AC (fun j hj => ?_)) ?_
 ·rw [hl] at hi
  have hat : ∀ f : Fc, fcAt (fs.take p ++ [(⟨id, fx, 1, 1, [y]⟩ : Fc)] ++ fs.drop p) i = f → (dE f.id 1 65536 && decide (0 < f.n) && HX a l f.n f.ns) = true → eU a l (fs.take p ++ [(⟨id, fx, 1, 1, [y]⟩ : Fc)] ++ fs.drop p) i = true := fun f e h => by unfold eU; rw [e]; exact h
  rw [mA hp1] at hat
  by_cases c1 : i < p
  ·exact hat (fcAt fs i) (if_pos c1) (h1 i (by omega))
  ·by_cases c2 : i = p
   ·refine hat ⟨id, fx, 1, 1, [y]⟩ (by rw [if_neg c1, if_pos c2]) ?_
    have hr : HX a l 1 [y] = true := by
     unfold HX
     have h5 : lF [y] = true := by rfl
     rw [h5, Bool.true_and, Bool.not_eq_true']
     refine cG.2 (fun m hm => ?_)
     obtain rfl : m = 0 := by omega
     simpa [bP] using hu
    simp [hid, hr]
   ·exact hat (fcAt fs (i - 1)) (by rw [if_neg c1, if_neg c2]) (h1 (i - 1) (by omega))
 ·rw [hl] at hj
  rw [mA hp1, mA hp1]
  by_cases c1 : j + 1 < p
  ·rw [if_pos (by omega), if_pos c1]
   exact oX h2 j (j + 1) (by omega) (by omega)
  ·by_cases c2 : j + 1 = p
   ·rw [if_pos (by omega), if_neg c1, if_pos c2]
    have h5 := hp2 j (by omega)
    have h6 := hno j (by omega)
    simp only at h5 ⊢
    omega
   ·by_cases c3 : j = p
    ·rw [if_neg (by omega), if_pos c3, if_neg c1, if_neg c2, Nat.add_sub_cancel, c3]
     exact hp3 (by omega)
    ·rw [if_neg (by omega), if_neg c3, if_neg c1, if_neg c2, Nat.add_sub_cancel]
     exact oX h2 (j - 1) j (by omega) (by omega)
 ·exact (F8 rfl).nodup_iff.2 (List.nodup_cons.2 ⟨hy, h3⟩)
theorem PX (h : ∀ j, j + 1 < ns.length → bP ns j < bP ns (j + 1)) : lF ns = true := by
 unfold lF
 rw [List.all_eq_true]
 intro j hj
 have hj' := List.mem_range.1 hj
 unfold sP
 rcases j with _ | j
 ·rfl
 ·simp only [Nat.add_sub_cancel, Bool.or_eq_true, decide_eq_true_eq]
  exact .inr (h j hj')
theorem L5 {q : Nat} (hf : eE a l n fs = true) (hn : fs.length = n) (hq : q < n) (hqn : (fcAt fs q).ns.length = (fcAt fs q).n) (hp : B2 y (fcAt fs q).ns ns) (hu : qN a l y = true) (hy : y ∉ aN fs) : eE a l n (fs.set q (withA (fcAt fs q) x ns.length c ns)) = true := by
 obtain ⟨h1, h2, h3⟩ := mV hf
 have hqf : q < fs.length := by omega
 have hyq : y ∉ (fcAt fs q).ns := fun h => hy (by
  unfold aN
  exact List.mem_flatMap.2 ⟨_, zP hqf, h⟩)
 have hperm := B7 (x := x) (n := ns.length) (c := c) hqf hp
 refine DR (fun i hi => ?_) (AC (fun j hj => ?_)) ?_
 ·unfold eU
  rw [kH hqf]
  by_cases e : q = i
  ·subst e
   rw [if_pos rfl]
   have h4 := h1 q hi
   unfold eU HX at h4
   simp only [zH, Bool.not_eq_true'] at h4
   obtain ⟨p, hp1, hp2, hp3, rfl⟩ := hp
   have hl : ((fcAt fs q).ns.take p ++ [y] ++ (fcAt fs q).ns.drop p).length = (fcAt fs q).ns.length + 1 := by simp; omega
   have hr : lF ((fcAt fs q).ns.take p ++ [y] ++ (fcAt fs q).ns.drop p) = true := PX (fun j hj => by
    rw [hl] at hj
    rw [AB hp1, AB hp1]
    by_cases c1 : j + 1 < p
    ·rw [if_pos (by omega), if_pos c1]
     exact yZ h4.2.1 j (j + 1) (by omega) (by omega)
    ·by_cases c2 : j + 1 = p
     ·rw [if_pos (by omega), if_neg c1, if_pos c2]
      have h5 := hp2 j (by omega)
      have h6 : bP (fcAt fs q).ns j ≠ y := fun e => hyq (by
       rw [← e]
       exact List.mem_of_getElem? (L2 (by omega)))
      omega
     ·by_cases c3 : j = p
      ·rw [if_neg (by omega), if_pos c3, if_neg c1, if_neg c2, Nat.add_sub_cancel, c3]
       exact hp3 (by omega)
      ·rw [if_neg (by omega), if_neg c3, if_neg c1, if_neg c2, Nat.add_sub_cancel]
       exact yZ h4.2.1 (j - 1) j (by omega) (by omega))
   have hus : (!aL ((fcAt fs q).ns.take p ++ [y] ++ (fcAt fs q).ns.drop p).length fun i => !qN a l (bP ((fcAt fs q).ns.take p ++ [y] ++ (fcAt fs q).ns.drop p) i)) = true := by
    rw [Bool.not_eq_true']
    refine cG.2 (fun m hm => ?_)
    rw [hl] at hm
    have hold := fun k hk => cG.1 h4.2.2 k hk
    rw [AB hp1]
    by_cases c1 : m < p
    ·rw [if_pos c1]; exact hold m (by omega)
    ·rw [if_neg c1]
     by_cases c2 : m = p
     ·rw [if_pos c2, hu]; rfl
     ·rw [if_neg c2]; exact hold (m - 1) (by omega)
   show (dE (fcAt fs q).id 1 65536 && decide (0 < ((fcAt fs q).ns.take p ++ [y] ++ (fcAt fs q).ns.drop p).length) && HX a l ((fcAt fs q).ns.take p ++ [y] ++ (fcAt fs q).ns.drop p).length ((fcAt fs q).ns.take p ++ [y] ++ (fcAt fs q).ns.drop p)) = true
   unfold HX
   rw [hr, hus, h4.1.1, hl]
   simp
  ·rw [if_neg e]
   exact h1 i hi
 ·rw [List.length_set] at hj
  have hid : ∀ k, (fcAt (fs.set q (withA (fcAt fs q) x ns.length c ns)) k).id = (fcAt fs k).id := fun k => by
   rw [kH hqf]
   split
   ·rename_i e; subst e; rfl
   ·rfl
  rw [hid, hid]
  exact oX h2 j (j + 1) (by omega) (by omega)
 ·exact hperm.nodup_iff.2 (List.nodup_cons.2 ⟨hy, h3⟩)
end Go.Proofs.YtndpilfpejfloaaGreat
