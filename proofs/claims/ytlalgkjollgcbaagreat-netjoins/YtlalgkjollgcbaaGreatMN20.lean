/- Grow of package net. -/
import Derived.Test.YtlalgkjollgcbaaGreatMN19
namespace Go.Proofs.YtlalgkjollgcbaaGreat
open Go.RowKit Go.Shelf

/-- Where a range's place is. -/
def posRg (r : Rg) (rs : List Rg) : Nat := ((List.range rs.length).find? fun i => decide (r.a < (rgAt rs i).a)).getD rs.length
def insRg (r : Rg) (rs : List Rg) : List Rg := rs.take (posRg r rs) ++ [r] ++ rs.drop (posRg r rs)
theorem putRg_ins {r : Rg} {rs rs' : List Rg} (h : PutRg r rs rs') : rs' = insRg r rs := by
  obtain ⟨i, hi, hlo, hup, rfl⟩ := h
  have : posRg r rs = i := by
    unfold posRg
    by_cases h : i < rs.length
    · have : (List.range rs.length).find? (fun i => decide (r.a < (rgAt rs i).a)) = some i := by
        rw [List.find?_range_eq_some]
        exact ⟨by simpa using hup h, by simpa using h, fun j hj => by simpa using hlo j hj⟩
      rw [this]
      rfl
    · obtain rfl : i = rs.length := by omega
      have : (List.range rs.length).find? (fun i => decide (r.a < (rgAt rs i).a)) = none := by
        rw [List.find?_eq_none]
        intro j hj
        have := hlo j (by simpa using hj)
        simpa using this
      rw [this]
      rfl
  unfold insRg
  rw [this]
theorem insRg_len {r : Rg} {rs : List Rg} : (insRg r rs).length = rs.length + 1 := by
  have h1 : rs.length = (rs.take (posRg r rs)).length + (rs.drop (posRg r rs)).length := by
    rw [← List.length_append, List.take_append_drop]
  unfold insRg
  rw [List.length_append, List.length_append, List.length_singleton]
  omega
/-- A network with other ranges. -/
def withR (v : Vn) (rs : List Rg) : Vn := ⟨v.id, v.rx, rs.length, v.rc, rs, v.sx, v.sn, v.sc, v.ss⟩
/-- The networks, one of which has a range more. -/
def growVs (vs : List Vn) (i : Nat) (r : Rg) : List Vn := vs.set i (withR (vnAt vs i) (insRg r (vnAt vs i).rs))
def ngrowE (n : Nat) (vs : List Vn) (ln : Nat) (ls : List (Int × Int)) (id : Int) (r : Rg) : Int :=
  if chkN n vs ln ls = 0 then (if vplace n vs id < 0 then 5 else if growE (vnAt vs (vplace n vs id).toNat).id (vnAt vs (vplace n vs id).toNat).rn (vnAt vs (vplace n vs id).toNat).rs (vnAt vs (vplace n vs id).toNat).sn (vnAt vs (vplace n vs id).toNat).ss r = 0 then (if apB ls n (growVs vs (vplace n vs id).toNat r) = false then 9 else 0) else growE (vnAt vs (vplace n vs id).toNat).id (vnAt vs (vplace n vs id).toNat).rn (vnAt vs (vplace n vs id).toNat).rs (vnAt vs (vplace n vs id).toNat).sn (vnAt vs (vplace n vs id).toNat).ss r) else chkN n vs ln ls
def NGrowR (n : Nat) (vs : List Vn) (ls : List (Int × Int)) (id : Int) (r : Rg) (us : List Vn) (ms : List (Int × Int)) : Prop := sameVs (growVs vs (vplace n vs id).toNat r) us ∧ ms = ls
theorem vplace_cases (n : Nat) (vs : List Vn) (id : Int) : (∃ i : Nat, i < n ∧ (vnAt vs i).id = id ∧ vplace n vs id = i) ∨ vplace n vs id = -1 := by
  unfold vplace
  cases h : (List.range n).find? (fun i => (vnAt vs i).id == id) with
  | none => exact .inr rfl
  | some i =>
    obtain ⟨h1, h2, -⟩ := List.find?_range_eq_some.1 h
    exact .inl ⟨i, by simpa using h2, by simpa using h1, rfl⟩
structure TQ (w W : World) (x : Option Addr) (n c : Nat) (lx : Option Addr) (ln lc : Nat) (r : Rg) : Prop where
  hb : W.heap[w.heap.size]? = some (netO x n c lx ln lc)
  hp : W.heap[w.heap.size + 1]? = some (.cells #[.int .i64 r.a, .int .i64 r.l, .int .i64 r.p] 29)
  hs : W.heap[w.heap.size + 2]? = some (netB (.slice none 0 0) (.slice none 0 0))
  below : Below w.heap.size w W
theorem TQ.later {w W W' : World} {x : Option Addr} {n c : Nat} {lx : Option Addr} {ln lc : Nat} {r : Rg} (h : TQ w W x n c lx ln lc r) (hb : Below W.heap.size W W') : TQ w W' x n c lx ln lc r :=
  ⟨heap_later hb h.hb, heap_later hb h.hp, heap_later hb h.hs, h.below.trans (hb.mono h.below.size)⟩
theorem ids_grow {vs : List Vn} {i : Nat} {r : Rg} : idsOf (growVs vs i r) = idsOf vs := by
  unfold growVs idsOf
  refine List.ext_getElem (by simp) fun j h1 h2 => ?_
  have hj : j < vs.length := by simpa using h2
  rw [List.getElem_map, List.getElem_map, List.getElem_set]
  split
  · rename_i e
    subst e
    rw [← vnAt_get hj]
    rfl
  · rfl
theorem grow_vn {r : Rg} {eg : Int} {v : Vn} {w w' : World} {e : Ending} (hl : v.ss.length = v.sn) (he : growE v.id v.rn v.rs v.sn v.ss r = eg) (h : GrowPostO v.id v.rn v.rs v.sn v.ss r w e w') :
    ∃ u : Vn, e = .returned (.tuple #[vnW u, .int .i64 eg]) ∧ Below w.heap.size w w' ∧ (eg = 0 → Von w' w.heap.size u ∧ sameV (withR v (insRg r v.rs)) u) := by
  obtain ⟨V, h1, h2, h3, h4⟩ := h
  rw [he] at h1 h3 h4
  by_cases h0 : eg = 0
  · obtain ⟨u, rfl, hu, hid, hpr, hss⟩ := h4 h0
    refine ⟨u, h1, h2, fun _ => ⟨hu, ?_⟩⟩
    have hrs := putRg_ins hpr
    obtain ⟨x1, c1, e1, -⟩ := hu.1.rs
    obtain ⟨x2, c2, e2, -⟩ := hu.2.subs
    simp only [Value.slice.injEq] at e1 e2
    refine ⟨hid.symm, ?_, hrs.symm, ?_, hss⟩
    · rw [e1.2.1, hrs]
      rfl
    · show v.sn = u.sn
      rw [e2.2.1, ← hl]
      exact hss.1
  · refine ⟨vnZ, ?_, h2, fun h => absurd h h0⟩
    rw [h1, h3 h0]
    rfl
/-- Networks that are the same, one changed alike. -/
theorem sameVs.grow {vs us : List Vn} {i : Nat} {r : Rg} {u : Vn} (h : sameVs vs us) (hi : i < vs.length) (hu : sameV (withR (vnAt vs i) (insRg r (vnAt vs i).rs)) u) : sameVs (growVs vs i r) (us.set i u) := by
  unfold growVs
  refine ⟨by rw [List.length_set, List.length_set]; exact h.1, fun j hj => ?_⟩
  rw [List.length_set] at hj
  rw [vnAt_setN hi, vnAt_setN (by rw [← h.1]; exact hi)]
  by_cases e : i = j
  · rw [if_pos e, if_pos e]; exact hu
  · rw [if_neg e, if_neg e]; exact h.2 j hj

set_option maxRecDepth 100000 in
set_option maxHeartbeats 6400000 in
theorem ngrow_any (x : Option Addr) (n c : Nat) (vs : List Vn) (lx : Option Addr) (ln lc : Nat) (ls : List (Int × Int)) (id : Int) (r : Rg) (w : World) (hp : VS w x n vs) (hn : n ≤ 9223372036854775807) (hnc : n ≤ c) (hl : PS w lx ln ls) (hln : ln ≤ 9223372036854775807) :
    Calls Tryz.prog 8 #[.agg #[.slice x n c, .slice lx ln lc], .int .i64 id, .agg #[.int .i64 r.a, .int .i64 r.l, .int .i64 r.p]] w (NPost (ngrowE n vs ln ls id r) (NGrowR n vs ls id r) w) := by
  have hvl : Hid (vs.length = n) := hp.len
  have hll : Hid (ls.length = ln) := hl.len
  obtain ⟨E, hEE⟩ : ∃ E, E = ngrowE n vs ln ls id r := ⟨_, rfl⟩
  rw [← hEE]
  unfold ngrowE at hEE
  replace hEE := Hid.mk' hEE
  go_enter Tryz.func8, Tryz.ntmps8
  go_upto_region 1 with fail
  obtain ⟨w0, hw0⟩ : ∃ w0, w0 = ((w.alloc (netO x n c lx ln lc)).alloc (.cells #[.int .i64 r.a, .int .i64 r.l, .int .i64 r.p] 29)).alloc (netB (.slice none 0 0) (.slice none 0 0)) := ⟨_, rfl⟩
  rw [← hw0]
  have hT0 : TQ w w0 x n c lx ln lc r := by
    rw [hw0]
    exact ⟨heap_old _ (heap_old _ (heap_new _ rfl)), heap_old _ (heap_new _ (by simp)), heap_new _ (by simp), (bl2 w _ _).trans ((bl1 _ _).mono (by simp; omega))⟩
  clear hw0
  have k0 : w0.cell? ⟨w.heap.size, 0, none⟩ = some (.slice x n c) := (box_cells hT0.hb).1 0
  have k1 : w0.cell? ⟨w.heap.size, 1, none⟩ = some (.slice lx ln lc) := (box_cells hT0.hb).1 1
  have ks0 : w0.cell? ⟨w.heap.size + 2, 0, none⟩ = some (.slice none 0 0) := (box_cells hT0.hs).1 0
  have ks1 : w0.cell? ⟨w.heap.size + 2, 1, none⟩ = some (.slice none 0 0) := (box_cells hT0.hs).1 1
  have kz0 := (box_cells hT0.hs).2 0
  have kz1 := (box_cells hT0.hs).2 1
  by_cases hc0 : chkN n vs ln ls = 0
  · have hck := checkN_is x n c vs lx ln lc ls 0 hc0 w0 (hp.later hT0.below) hn hnc (hl.later hT0.below) hln
    obtain ⟨h6, h12, hfew⟩ := few_of hc0
    rw [if_pos hc0] at hEE
    obtain ⟨-, -, hvb, hlb, -⟩ := chkN_zero hc0
    have hvf := vpcs_few hvb
    have hlk0 := links_mem hvl.out hlb
    have hr4 : ∀ i, i < n → (vnAt vs i).rs.length ≤ 4 := fun i hi => by
      rw [(hp.vps i hi).2.2.2.ranges.len]
      exact (chkV_few (vpc_zero hvb i hi)).1
    clear hc0 hvb hlb
    go_wp2_with fail
    refine hck.mono ?_
    rintro e w1 ⟨rfl, hb⟩
    have hT1 := hT0.later hb
    clear k0 k1 ks0 ks1 kz0 kz1
    have k0 : w1.cell? ⟨w.heap.size, 0, none⟩ = some (.slice x n c) := (box_cells hT1.hb).1 0
    have k1 : w1.cell? ⟨w.heap.size, 1, none⟩ = some (.slice lx ln lc) := (box_cells hT1.hb).1 1
    have ks0 : w1.cell? ⟨w.heap.size + 2, 0, none⟩ = some (.slice none 0 0) := (box_cells hT1.hs).1 0
    have ks1 : w1.cell? ⟨w.heap.size + 2, 1, none⟩ = some (.slice none 0 0) := (box_cells hT1.hs).1 1
    have kz0 := (box_cells hT1.hs).2 0
    have kz1 := (box_cells hT1.hs).2 1
    clear hck
    obtain ⟨t, ht⟩ : ∃ t, vplace n vs id = t := ⟨_, rfl⟩
    have hpl := place_is id x n c vs lx ln lc t ht w1 (hp.later hT1.below) (by omega)
    have hvc := vplace_cases n vs id
    have hRt : Hid (∀ us ms, sameVs (growVs vs t.toNat r) us → ms = ls → NGrowR n vs ls id r us ms) := fun us ms h1 h2 => ⟨by rw [ht]; exact h1, h2⟩
    rw [ht] at hEE hvc
    clear ht
    rcases hvc with ⟨i, hi, -, hti⟩ | hti
    · subst hti
      have hi0 : ¬ ((i : Int) < 0) := by omega
      rw [if_neg hi0, Int.toNat_natCast] at hEE
      rw [Int.toNat_natCast] at hRt
      go_wp2_with fail
      refine hpl.mono ?_
      rintro e w2 ⟨rfl, hb⟩
      have hT2 := hT1.later hb
      clear k0 k1 ks0 ks1 kz0 kz1
      have k0 : w2.cell? ⟨w.heap.size, 0, none⟩ = some (.slice x n c) := (box_cells hT2.hb).1 0
      have k1 : w2.cell? ⟨w.heap.size, 1, none⟩ = some (.slice lx ln lc) := (box_cells hT2.hb).1 1
      have ks0 : w2.cell? ⟨w.heap.size + 2, 0, none⟩ = some (.slice none 0 0) := (box_cells hT2.hs).1 0
      have ks1 : w2.cell? ⟨w.heap.size + 2, 1, none⟩ = some (.slice none 0 0) := (box_cells hT2.hs).1 1
      have kz0 := (box_cells hT2.hs).2 0
      have kz1 := (box_cells hT2.hs).2 1
      clear hpl
      have hi' : Hid (i < n) := hi
      have hvp := (hp.later hT2.below).vps i hi
      have hgr := fun W (hW : Below w2.heap.size w2 W) => vgrowO_any (vnAt vs i).id (vnAt vs i).rx (vnAt vs i).rn (vnAt vs i).rc (vnAt vs i).rs (vnAt vs i).sx (vnAt vs i).sn (vnAt vs i).sc (vnAt vs i).ss r W (hvp.2.2.2.later hW) hvp.1 hvp.2.1 hvp.2.2.1
      have hsl : Hid ((vnAt vs i).ss.length = (vnAt vs i).sn) := hvp.2.2.2.subs.len
      obtain ⟨bx, ox, hxo, d0, d1, d2⟩ := (hp.later hT2.below).cells i hi
      subst hxo
      have hi1 : (i : Int) < n := by omega
      have hi2 : (0 : Int) ≤ i := by omega
      have a0 := Ws.here k0
      have a1 := Ws.here d0
      have a2 := Ws.here d1
      have a3 := Ws.here d2
      have a4 := Ws.here (show w2.cell? ⟨w.heap.size + 1, 0, none⟩ = some (.int .i64 r.a) from (box_cells hT2.hp).1 0)
      have a5 := Ws.here (show w2.cell? ⟨w.heap.size + 1, 1, none⟩ = some (.int .i64 r.l) from (box_cells hT2.hp).1 1)
      have a6 := Ws.here (show w2.cell? ⟨w.heap.size + 1, 2, none⟩ = some (.int .i64 r.p) from (box_cells hT2.hp).1 2)
      go_upto_region 7 with fail
      clear d0 d1 d2
      obtain ⟨eg, heg⟩ : ∃ eg, growE (vnAt vs i).id (vnAt vs i).rn (vnAt vs i).rs (vnAt vs i).sn (vnAt vs i).ss r = eg := ⟨_, rfl⟩
      rw [heg] at hEE
      go_cut [10, 11] (fun p v wd => v = .int .i64 eg ∧ ∃ bp u, p = .pointer (some ⟨bp, 0, none⟩) ∧ w2.heap.size ≤ bp ∧ Below w2.heap.size w2 wd ∧ wd.heap[bp]? = some (vnO u) ∧ (eg = 0 → Von wd w2.heap.size u ∧ sameV (withR (vnAt vs i) (insRg r (vnAt vs i).rs)) u))
      case first =>
        clear k0 k1 ks0 ks1 kz0 kz1
        have hbd : Below w2.heap.size w2 w2.drew := (Below.refl _ _).drew
        refine X.wp_region_V (fun w' => ∃ u : Ws w2.heap.size w2, w' = u.val) (fun j => decide (j < 12)) 13 _ (by kernel_rfl) rfl rfl ?_
        refine X.wpV_takes 7 [0, 1, 2, 3, 4, 5] rfl _ rfl (by kernel_rfl) (fun d _ _ _ _ h => by cases d <;> exact h) ⟨⟨_, hbd⟩, rfl⟩ ?_
        simp only [List.map_cons, List.map_nil, List.getD_cons_zero, List.getD_cons_succ]
        repeat (go_big_quiet_step (fail))
        refine wpQuiet_nil ?_
        clear a0 a1 a2 a3 a4 a5 a6
        refine X.wpV_two 6 10 _ _ _ _ (by kernel_rfl) (by kernel_rfl) rfl rfl rfl rfl ?_ ?_
        · intro K hK
          simp only [List.getD_cons_zero, List.getD_cons_succ]
          go_wp2_with fail
          refine (hgr w2.drew hbd).mono ?_
          rintro e w3 hpo
          obtain ⟨u, rfl, hb3, hu⟩ := grow_vn hsl.out heg hpo
          have hB3 : Below w2.heap.size w2 w3 := ⟨hb3.os, hb3.tape, hb3.output, hb3.size, hb3.block⟩
          go_wp2_with fail
          refine X.wildK_normal (hK.out _ _ ⟨⟨_, hB3⟩, rfl⟩ ?_)
          clear hK K
          refine X.wpV_takes 3 [7, 8, 9] rfl _ rfl (by kernel_rfl) (fun d _ _ _ _ h => by cases d <;> exact h) ⟨⟨_, hB3⟩, rfl⟩ ?_
          simp only [List.map_cons, List.map_nil, List.getD_cons_zero, List.getD_cons_succ]
          repeat (go_big_quiet_step (fail))
          refine wpQuiet_nil ?_
          refine X.wpV_one 10 _ _ (by kernel_rfl) (by kernel_rfl) rfl rfl ?_
          intro K hK
          simp only [List.getD_cons_zero, List.getD_cons_succ]
          go_wp2_with fail
          have hB4 : Below w2.heap.size w2 (w3.alloc (vpB 0 (.slice none 0 0) (.slice none 0 0))) := hB3.trans ((bl1 w3 _).mono hB3.size)
          refine X.wildK_normal (hK.out _ _ ⟨⟨_, hB4⟩, rfl⟩ ?_)
          clear hK K
          obtain ⟨w4, hw4⟩ : ∃ w4, w4 = w3.alloc (vpB 0 (.slice none 0 0) (.slice none 0 0)) := ⟨_, rfl⟩
          rw [← hw4] at hB4 ⊢
          have h34 : Below w3.heap.size w3 w4 := by rw [hw4]; exact bl1 w3 _
          have hy : w4.heap[w3.heap.size]? = some (vpB 0 (.slice none 0 0) (.slice none 0 0)) := by rw [hw4]; exact heap_new _ rfl
          clear hw4
          have hnb : w2.heap.size ≤ w3.heap.size := hB3.size
          have hu4 := fun h => ((hu h).1.low (base' := w2.heap.size) (Nat.le_refl _)).later h34
          have hsu := fun h => (hu h).2
          obtain ⟨bp, hbp⟩ : ∃ bp, bp = w3.heap.size := ⟨_, rfl⟩
          rw [← hbp] at hy hnb ⊢
          clear hbp
          have q0 : w4.cell? ⟨bp, 0, none⟩ = some (.int .i64 0) := (box_cells hy).1 0
          have q1 : w4.cell? ⟨bp, 1, none⟩ = some (.slice none 0 0) := (box_cells hy).1 1
          have q2 : w4.cell? ⟨bp, 2, none⟩ = some (.slice none 0 0) := (box_cells hy).1 2
          have f0 := (box_cells hy).2 0
          have f1 := (box_cells hy).2 1
          have f2 := (box_cells hy).2 2
          refine X.wpV_one 11 _ _ (by kernel_rfl) (by kernel_rfl) rfl rfl ?_
          intro K hK
          simp only [List.getD_cons_zero, List.getD_cons_succ]
          go_wp2_with fail
          have hB5 : Below w2.heap.size w2 (((w4.setCell ⟨bp, 0, none⟩ (.int .i64 u.id)).setCell ⟨bp, 1, none⟩ (.slice u.rx u.rn u.rc)).setCell ⟨bp, 2, none⟩ (.slice u.sx u.sn u.sc)) := ((hB4.setCell (p := ⟨bp, 0, none⟩) hnb _).setCell (p := ⟨bp, 1, none⟩) hnb _).setCell (p := ⟨bp, 2, none⟩) hnb _
          refine X.wildK_normal (hK.out _ _ ⟨⟨_, hB5⟩, rfl⟩ ?_)
          clear hK K q0 q1 q2 f0 f1 f2
          refine X.wpV_tail [12] rfl (by kernel_rfl) ?_
          simp only [List.map_cons, List.map_nil, List.getD_cons_zero, List.getD_cons_succ]
          go_wp2_with fail
          go_meet
          case rel => exact ⟨rfl, bp, u, rfl, hnb, hB5, vpB_set hy, fun h => ⟨(((hu4 h).putBox (o := 0) (u := .int .i64 u.id) hy (by decide) (by decide) (by decide) (by decide)).putBox (o := 1) (u := .slice u.rx u.rn u.rc) (heap_setCell_same w4 bp 0 _ _ _ hy) (by decide) (by decide) (by decide) (by decide)).putBox (o := 2) (u := .slice u.sx u.sn u.sc) (heap_setCell_same _ bp 1 _ _ _ (heap_setCell_same w4 bp 0 _ _ _ hy)) (by decide) (by decide) (by decide) (by decide), hsu h⟩⟩
        · intro K hK
          simp only [List.getD_cons_zero, List.getD_cons_succ]
          go_wp2_with fail
          have hB3 : Below w2.heap.size w2 (w2.alloc (vpB 0 (.slice none 0 0) (.slice none 0 0))).drew := (bl1 w2 _).drew
          refine X.wildK_normal (hK.out _ _ ⟨⟨_, hB3⟩, rfl⟩ ?_)
          clear hK K
          have hy0 : ((w2.alloc (vpB 0 (.slice none 0 0) (.slice none 0 0))).drew).heap[w2.heap.size]? = some (vpB 0 (.slice none 0 0) (.slice none 0 0)) := heap_new (W := w2) _ rfl
          refine X.wpV_one 6 _ _ (by kernel_rfl) (by kernel_rfl) rfl rfl ?_
          intro K hK
          simp only [List.getD_cons_zero, List.getD_cons_succ]
          go_wp2_with fail
          refine (hgr _ hB3).mono ?_
          rintro e w4 hpo
          obtain ⟨u, rfl, hb3, hu⟩ := grow_vn hsl.out heg hpo
          have hB4 : Below w2.heap.size w2 w4 := hB3.trans (hb3.mono hB3.size)
          go_wp2_with fail
          refine X.wildK_normal (hK.out _ _ ⟨⟨_, hB4⟩, rfl⟩ ?_)
          clear hK K
          refine X.wpV_takes 2 [7, 8, 9] rfl _ rfl (by kernel_rfl) (fun d _ _ _ _ h => by cases d <;> exact h) ⟨⟨_, hB4⟩, rfl⟩ ?_
          simp only [List.map_cons, List.map_nil, List.getD_cons_zero, List.getD_cons_succ]
          repeat (go_big_quiet_step (fail))
          refine wpQuiet_nil ?_
          have hy := heap_later hb3 hy0
          have hnb : w2.heap.size ≤ w2.heap.size := Nat.le_refl _
          have hu4 := fun h => (hu h).1.low (base' := w2.heap.size) hB3.size
          have hsu := fun h => (hu h).2
          have q0 : w4.cell? ⟨w2.heap.size, 0, none⟩ = some (.int .i64 0) := (box_cells hy).1 0
          have q1 : w4.cell? ⟨w2.heap.size, 1, none⟩ = some (.slice none 0 0) := (box_cells hy).1 1
          have q2 : w4.cell? ⟨w2.heap.size, 2, none⟩ = some (.slice none 0 0) := (box_cells hy).1 2
          have f0 := (box_cells hy).2 0
          have f1 := (box_cells hy).2 1
          have f2 := (box_cells hy).2 2
          refine X.wpV_one 11 _ _ (by kernel_rfl) (by kernel_rfl) rfl rfl ?_
          intro K hK
          simp only [List.getD_cons_zero, List.getD_cons_succ]
          go_wp2_with fail
          have hB5 : Below w2.heap.size w2 (((w4.setCell ⟨w2.heap.size, 0, none⟩ (.int .i64 u.id)).setCell ⟨w2.heap.size, 1, none⟩ (.slice u.rx u.rn u.rc)).setCell ⟨w2.heap.size, 2, none⟩ (.slice u.sx u.sn u.sc)) := ((hB4.setCell (p := ⟨w2.heap.size, 0, none⟩) hnb _).setCell (p := ⟨w2.heap.size, 1, none⟩) hnb _).setCell (p := ⟨w2.heap.size, 2, none⟩) hnb _
          refine X.wildK_normal (hK.out _ _ ⟨⟨_, hB5⟩, rfl⟩ ?_)
          clear hK K q0 q1 q2 f0 f1 f2
          refine X.wpV_tail [12] rfl (by kernel_rfl) ?_
          simp only [List.map_cons, List.map_nil, List.getD_cons_zero, List.getD_cons_succ]
          go_wp2_with fail
          go_meet
          case rel => exact ⟨rfl, w2.heap.size, u, rfl, hnb, hB5, vpB_set hy, fun h => ⟨(((hu4 h).putBox (o := 0) (u := .int .i64 u.id) hy (by decide) (by decide) (by decide) (by decide)).putBox (o := 1) (u := .slice u.rx u.rn u.rc) (heap_setCell_same w4 w2.heap.size 0 _ _ _ hy) (by decide) (by decide) (by decide) (by decide)).putBox (o := 2) (u := .slice u.sx u.sn u.sc) (heap_setCell_same _ w2.heap.size 1 _ _ _ (heap_setCell_same w4 w2.heap.size 0 _ _ _ hy)) (by decide) (by decide) (by decide) (by decide), hsu h⟩⟩
      case rest =>
        obtain ⟨rfl, bp, u, rfl, hnb, hBc, hbp, hu⟩ := hcut
        have hTc := hT2.later hBc
        clear k0 k1 ks0 ks1 kz0 kz1
        clear a0 a1 a2 a3 a4 a5 a6 hgr
        have k0 : wc.cell? ⟨w.heap.size, 0, none⟩ = some (.slice (some ⟨bx, ox, none⟩) n c) := (box_cells hTc.hb).1 0
        have k1 : wc.cell? ⟨w.heap.size, 1, none⟩ = some (.slice lx ln lc) := (box_cells hTc.hb).1 1
        have ks0 : wc.cell? ⟨w.heap.size + 2, 0, none⟩ = some (.slice none 0 0) := (box_cells hTc.hs).1 0
        have ks1 : wc.cell? ⟨w.heap.size + 2, 1, none⟩ = some (.slice none 0 0) := (box_cells hTc.hs).1 1
        have kz0 := (box_cells hTc.hs).2 0
        have kz1 := (box_cells hTc.hs).2 1
        by_cases heg0 : eg = 0
        · rw [if_pos heg0] at hEE
          obtain ⟨hVu, hsu⟩ := hu heg0
          have hne : (eg != 0) = false := by simp [heg0]
          have hEH : Hid (E = if apB ls n (growVs vs i r) = false then 9 else 0) := hEE.out
          have hru : Hid (u.rn ≤ 64) := by
            show _ ≤ _
            rw [← hsu.2.1]
            have h1 := hr4 i hi'.out
            show (insRg r (vnAt vs i).rs).length ≤ 64
            rw [insRg_len]
            omega
          have hfn := freshNet_any (some ⟨bx, ox, none⟩) n c vs lx ln lc ls wc (hp.later hTc.below) (by omega) (hl.later hTc.below) (by omega) hfew
          clear hEE heg0 hu heg
          go_wp2_with fail
          refine hfn.mono ?_
          rintro e w4 ⟨vV, vK, us, rfl, hsv, hOV, hVo, hOK, hb4⟩
          have hT4 := hTc.later hb4
          clear hfn hne
          have hul : Hid (us.length = n) := by show _ = _; rw [← hsv.1]; exact hvl.out
          have hiu : i < us.length := by rw [hul.out]; exact hi'.out
          obtain ⟨g, C, hvV⟩ := hOV.held (by omega)
          obtain ⟨Y, D, hvK, hYm⟩ := hOK.mem
          subst hvV
          subst hvK
          have hw3s : Hid (w.heap.size + 2 < wc.heap.size) := (Array.getElem?_eq_some_iff.1 hTc.hs).1
          have hbp4 := heap_later hb4 hbp
          clear k0 k1 ks0 ks1 kz0 kz1
          go_upto_region 11 with fail
          obtain ⟨w5, hw5⟩ : ∃ w5, w5 = w4.alloc (netB (.slice (some ⟨g, 0, none⟩) us.length C) (.slice Y ls.length D)) := ⟨_, rfl⟩
          rw [← hw5]
          have hb5 : Below w4.heap.size w4 w5 := by rw [hw5]; exact bl1 w4 _
          have hbx5 : w5.heap[w4.heap.size]? = some (netB (.slice (some ⟨g, 0, none⟩) us.length C) (.slice Y ls.length D)) := by rw [hw5]; exact heap_new _ rfl
          clear hw5
          have hT5 := hT4.later hb5
          have hbp5 := heap_later hb5 hbp4
          have hOV5 := hOV.later hb5
          obtain ⟨hgb, cur, hcur⟩ := hOV5.block
          obtain ⟨y0, y1, y2⟩ := hOV5.cells i hiu
          have z0 := hOV5.frozen (i * 3)
          have z1 := hOV5.frozen (i * 3 + 1)
          have z2 := hOV5.frozen (i * 3 + 2)
          have m0 : w5.cell? ⟨w4.heap.size, 0, none⟩ = some (.slice (some ⟨g, 0, none⟩) us.length C) := (box_cells hbx5).1 0
          have u0 : w5.cell? ⟨bp, 0, none⟩ = some (.int .i64 u.id) := (box_cells hbp5).1 0
          have u1 : w5.cell? ⟨bp, 1, none⟩ = some (.slice u.rx u.rn u.rc) := (box_cells hbp5).1 1
          have u2 : w5.cell? ⟨bp, 2, none⟩ = some (.slice u.sx u.sn u.sc) := (box_cells hbp5).1 2
          have hi3 : (i : Int) < us.length := by omega
          have hOVs := hOV5.setE i hiu u
          have hVos : ∀ j, j < us.length → Von (setN w5 g i u) w2.heap.size (vnAt (us.set i u) j) := fun j hj => by
            rw [vnAt_setN hiu]
            split
            · exact (((hVu.later hb4).later hb5)).setN hOV5
            · exact ((((hVo j hj).later hb5)).setN hOV5).low hBc.size
          have hOKs : OwnK (setN w5 g i u) wc.heap.size (.slice Y ls.length D) ls := (hOK.later hb5).setN hOV5
          have hne4 : w4.heap.size ≠ g := fun e => by rw [← e, hbx5] at hcur; simp at hcur
          have hbxs : (setN w5 g i u).heap[w4.heap.size]? = some (netB (.slice (some ⟨g, 0, none⟩) us.length C) (.slice Y ls.length D)) := (setN_box hne4).trans hbx5
          have hg0 : w.heap.size ≠ g := by have := hw3s.out; omega
          have hg1 : w.heap.size + 1 ≠ g := by have := hw3s.out; omega
          have hg2 : w.heap.size + 2 ≠ g := by have := hw3s.out; omega
          have hTs : TQ w (setN w5 g i u) (some ⟨bx, ox, none⟩) n c lx ln lc r := ⟨(setN_box hg0).trans hT5.hb, (setN_box hg1).trans hT5.hp, (setN_box hg2).trans hT5.hs, setN_below hT5.below (by have := hw3s.out; omega)⟩
          go_upto_region 12 with fail
          obtain ⟨w6, hw6⟩ : ∃ w6, w6 = setN w5 g i u := ⟨_, rfl⟩
          rw [← hw6] at hOVs hVos hOKs hbxs hTs
          unfold setN at hw6
          rw [← hw6]
          clear hw6 y0 y1 y2 z0 z1 z2 m0 u0 u1 u2 hOV5 hOV hVo hOK hbx5 hT5 hbp5 hbp4 hi3
          have hsg : Hid (sameVs (growVs vs i r) (us.set i u)) := hsv.grow (by rw [hvl.out]; exact hi'.out) hsu
          obtain ⟨us', hus'⟩ : ∃ us', Hid (us' = us.set i u) := ⟨_, rfl⟩
          have hul' : Hid (us'.length = us.length) := by show _ = _; rw [hus'.out, List.length_set]
          rw [← hus'.out] at hOVs hVos hsg
          have hVk : ∀ v ∈ us', VpOk w6 v := fun v hv => by
            obtain ⟨j, hj, rfl⟩ := mem_vnAt hv
            exact VpOk.of (hVos j (by rw [← hul'.out]; exact hj))
          obtain ⟨X', C', hv', hVS6, hXC', -, -⟩ := hOVs.vs hVk
          rw [hul'.out] at hv' hVS6 hXC'
          simp only [Value.slice.injEq] at hv'
          obtain ⟨hX', -, hC'⟩ := hv'
          subst hX'
          subst hC'
          obtain ⟨Y', D', hk', hPS6, -⟩ := hOKs.ps
          simp only [Value.slice.injEq] at hk'
          obtain ⟨rfl, -, rfl⟩ := hk'
          have hR := hRt.out us' ls hsg.out rfl
          have hRH : Hid (NGrowR n vs ls id r us' ls) := hR
          obtain ⟨ta, hta⟩ : ∃ t, apB ls n (growVs vs i r) = t := ⟨_, rfl⟩
          have hgl : (growVs vs i r).length = n := by unfold growVs; rw [List.length_set]; exact hvl.out
          have hap := napart_is (some ⟨g, 0, none⟩) us.length C us' Y ls.length D ls ta (by rw [hul.out, apB_same hgl hsg.out]; exact hta) w6 hVS6 (by rw [hul.out]; omega) hXC' hPS6 (by rw [hll.out]; omega) (fun j hj => by
            rw [hus'.out, vnAt_setN hiu]
            split
            · rename_i e
              rw [← hsu.1]
              exact (hvf i hi'.out).1
            · rw [← (hsv.2 j (by rw [hsv.1]; exact hj)).1]
              exact (hvf j (by rw [← hul.out]; exact hj)).1) (fun j hj => by
            rw [hus'.out, vnAt_setN hiu]
            split
            · exact hru.out
            · rw [← (hsv.2 j (by rw [hsv.1]; exact hj)).2.1]
              exact (hvf j (by rw [← hul.out]; exact hj)).2) (fun j hj => by
            have h1 : idsOf us' = idsOf vs := by
              rw [ids_same hsg.out]
              exact ids_grow
            rw [h1]
            exact hlk0 j (by rw [← hll.out]; exact hj))
          rw [hta] at hEH
          clear hta hVS6 hPS6 hR hRt
          have g0 : w6.cell? ⟨w4.heap.size, 0, none⟩ = some (.slice (some ⟨g, 0, none⟩) us.length C) := (box_cells hbxs).1 0
          have g1 : w6.cell? ⟨w4.heap.size, 1, none⟩ = some (.slice Y ls.length D) := (box_cells hbxs).1 1
          go_wp2_with fail
          refine hap.mono ?_
          rintro e w8 ⟨rfl, hb8⟩
          have hT8 := hTs.later hb8
          have hbx8 := heap_later hb8 hbxs
          have hO8 := hOVs.later hb8
          have hVk8 := fun v hv => (hVk v hv).later hb8
          have hOK8 := hOKs.later hb8
          have hVos8 := fun j hj => (hVos j hj).later hb8
          clear g0 g1 hap hOVs hVk hOKs hbxs hTs hb8 hVos
          have g0 : w8.cell? ⟨w4.heap.size, 0, none⟩ = some (.slice (some ⟨g, 0, none⟩) us.length C) := (box_cells hbx8).1 0
          have g1 : w8.cell? ⟨w4.heap.size, 1, none⟩ = some (.slice Y ls.length D) := (box_cells hbx8).1 1
          have k0 : w8.cell? ⟨w.heap.size, 0, none⟩ = some (.slice (some ⟨bx, ox, none⟩) n c) := (box_cells hT8.hb).1 0
          have k1 : w8.cell? ⟨w.heap.size, 1, none⟩ = some (.slice lx ln lc) := (box_cells hT8.hb).1 1
          have ks0 : w8.cell? ⟨w.heap.size + 2, 0, none⟩ = some (.slice none 0 0) := (box_cells hT8.hs).1 0
          have ks1 : w8.cell? ⟨w.heap.size + 2, 1, none⟩ = some (.slice none 0 0) := (box_cells hT8.hs).1 1
          have kz0 := (box_cells hT8.hs).2 0
          have kz1 := (box_cells hT8.hs).2 1
          cases ta with
          | false =>
            have hE2 : Hid (E = 9 ∧ (9 : Int) ≠ 0) := ⟨hEH.out.trans (if_pos rfl), by decide⟩
            clear hEH
            go_wp2
            refine bodyPost_ret (v := .tuple #[.agg #[.slice none 0 0, .slice none 0 0], .int .i64 9]) (by simp [results, Tryz.results8, go_sem, ks0, ks1]) rfl ?_
            exact NPost.err hE2.out ((hT8.below.setCell (p := ⟨w.heap.size + 2, 0, none⟩) (Nat.le_add_right _ _) _).setCell (p := ⟨w.heap.size + 2, 1, none⟩) (Nat.le_add_right _ _) _)
          | true =>
            have hE3 : Hid (E = 0) := hEH.out.trans (if_neg (by decide))
            clear hEH
            have hw2s : Hid (w.heap.size + 2 < w2.heap.size) := (Array.getElem?_eq_some_iff.1 hT2.hs).1
            have hO8' : OwnV w8 wc.heap.size (.slice (some ⟨g, 0, none⟩) us.length C) us' := hO8
            go_wp2
            refine bodyPost_ret (v := .tuple #[.agg #[.slice (some ⟨g, 0, none⟩) us.length C, .slice Y ls.length D], .int .i64 0]) (by simp [results, Tryz.results8, go_sem, ks0, ks1]) rfl ?_
            exact NPost.ok hE3.out ((hT8.below.setCell (p := ⟨w.heap.size + 2, 0, none⟩) (Nat.le_add_right _ _) _).setCell (p := ⟨w.heap.size + 2, 1, none⟩) (Nat.le_add_right _ _) _) (us := us') (ms := ls) (NO.of ((hO8'.put hw3s.out).put hw3s.out) (by have := hw3s.out; omega) (b2 := w2.heap.size) (fun v hv => by
              obtain ⟨j, hj, rfl⟩ := mem_vnAt hv
              exact ((hVos8 j (by rw [← hul'.out]; exact hj)).put hw2s.out).put hw2s.out) (by have := hw2s.out; omega) ((hOK8.put hw3s.out).put hw3s.out) (by have := hw3s.out; omega)) hRH.out
        · rw [if_neg heg0] at hEE
          have hE2 : Hid (E = eg ∧ eg ≠ 0) := ⟨hEE.out, heg0⟩
          have hne : (eg != 0) = true := by simpa using heg0
          clear hEE hu heg heg0
          go_wp2
          refine bodyPost_ret (v := .tuple #[.agg #[.slice none 0 0, .slice none 0 0], .int .i64 eg]) (by simp [results, Tryz.results8, go_sem, ks0, ks1]) rfl ?_
          exact NPost.err hE2.out ((hTc.below.setCell (p := ⟨w.heap.size + 2, 0, none⟩) (Nat.le_add_right _ _) _).setCell (p := ⟨w.heap.size + 2, 1, none⟩) (Nat.le_add_right _ _) _)
    · subst hti
      have hE2 : Hid (E = 5 ∧ (5 : Int) ≠ 0) := ⟨hEE.out.trans (if_pos (by decide)), by decide⟩
      clear hEE hRt
      go_wp2_with fail
      refine hpl.mono ?_
      rintro e w2 ⟨rfl, hb⟩
      have hT2 := hT1.later hb
      clear k0 k1 ks0 ks1 kz0 kz1
      have k0 : w2.cell? ⟨w.heap.size, 0, none⟩ = some (.slice x n c) := (box_cells hT2.hb).1 0
      have k1 : w2.cell? ⟨w.heap.size, 1, none⟩ = some (.slice lx ln lc) := (box_cells hT2.hb).1 1
      have ks0 : w2.cell? ⟨w.heap.size + 2, 0, none⟩ = some (.slice none 0 0) := (box_cells hT2.hs).1 0
      have ks1 : w2.cell? ⟨w.heap.size + 2, 1, none⟩ = some (.slice none 0 0) := (box_cells hT2.hs).1 1
      have kz0 := (box_cells hT2.hs).2 0
      have kz1 := (box_cells hT2.hs).2 1
      clear hpl
      go_wp2
      refine bodyPost_ret (v := .tuple #[.agg #[.slice none 0 0, .slice none 0 0], .int .i64 5]) (by simp [results, Tryz.results8, go_sem, ks0, ks1]) rfl ?_
      exact NPost.err hE2.out ((hT2.below.setCell (p := ⟨w.heap.size + 2, 0, none⟩) (Nat.le_add_right _ _) _).setCell (p := ⟨w.heap.size + 2, 1, none⟩) (Nat.le_add_right _ _) _)
  · obtain ⟨t, ht⟩ : ∃ t, chkN n vs ln ls = t := ⟨_, rfl⟩
    have hck := checkN_is x n c vs lx ln lc ls t ht w0 (hp.later hT0.below) hn hnc (hl.later hT0.below) hln
    rw [ht] at hc0 hEE
    have hE1 : Hid (E = t ∧ t ≠ 0) := ⟨by rw [hEE.out, if_neg hc0], hc0⟩
    have hne : (t != 0) = true := by simpa using hc0
    clear hEE ht
    go_wp2_with fail
    refine hck.mono ?_
    rintro e w1 ⟨rfl, hb⟩
    have hT1 := hT0.later hb
    clear k0 k1 ks0 ks1 kz0 kz1
    have k0 : w1.cell? ⟨w.heap.size, 0, none⟩ = some (.slice x n c) := (box_cells hT1.hb).1 0
    have k1 : w1.cell? ⟨w.heap.size, 1, none⟩ = some (.slice lx ln lc) := (box_cells hT1.hb).1 1
    have ks0 : w1.cell? ⟨w.heap.size + 2, 0, none⟩ = some (.slice none 0 0) := (box_cells hT1.hs).1 0
    have ks1 : w1.cell? ⟨w.heap.size + 2, 1, none⟩ = some (.slice none 0 0) := (box_cells hT1.hs).1 1
    have kz0 := (box_cells hT1.hs).2 0
    have kz1 := (box_cells hT1.hs).2 1
    clear hck
    go_wp2
    refine bodyPost_ret (v := .tuple #[.agg #[.slice none 0 0, .slice none 0 0], .int .i64 t]) (by simp [results, Tryz.results8, go_sem, ks0, ks1]) rfl ?_
    exact NPost.err hE1.out ((hT1.below.setCell (p := ⟨w.heap.size + 2, 0, none⟩) (Nat.le_add_right _ _) _).setCell (p := ⟨w.heap.size + 2, 1, none⟩) (Nat.le_add_right _ _) _)
end Go.Proofs.YtlalgkjollgcbaaGreat
/- Nets without regard to where they lie. -/
namespace Go.Proofs.YtlalgkjollgcbaaGreat
open Go.RowKit Go.Shelf

def canF (f : Fc) : Fc := ⟨f.id, none, f.n, 0, f.ns⟩
def canS (s : Sb) : Sb := ⟨s.id, s.a, s.l, none, s.n, 0, s.fs.map canF⟩
def canV (v : Vn) : Vn := ⟨v.id, none, v.rn, 0, v.rs, none, v.sn, 0, v.ss.map canS⟩
theorem fcAt_can (fs : List Fc) (j : Nat) : fcAt (fs.map canF) j = canF (fcAt fs j) := by
  unfold fcAt
  rw [List.getD_eq_getElem?_getD, List.getD_eq_getElem?_getD, List.getElem?_map]
  cases fs[j]? <;> rfl
theorem sbAt_can (ss : List Sb) (j : Nat) : sbAt (ss.map canS) j = canS (sbAt ss j) := by
  unfold sbAt
  rw [List.getD_eq_getElem?_getD, List.getD_eq_getElem?_getD, List.getElem?_map]
  cases ss[j]? <;> rfl
theorem vnAt_can (vs : List Vn) (j : Nat) : vnAt (vs.map canV) j = canV (vnAt vs j) := by
  unfold vnAt
  rw [List.getD_eq_getElem?_getD, List.getD_eq_getElem?_getD, List.getElem?_map]
  cases vs[j]? <;> rfl
theorem sameFs.can {fs gs : List Fc} (h : sameFs fs gs) : fs.map canF = gs.map canF := by
  refine List.ext_getElem (by rw [List.length_map, List.length_map]; exact h.1) fun i h1 h2 => ?_
  have hi : i < fs.length := by simpa using h1
  have hj : i < gs.length := by simpa using h2
  obtain ⟨a, b, c⟩ := h.2 i hi
  have e1 : fcAt fs i = fs[i] := by unfold fcAt; rw [List.getD_eq_getElem?_getD, List.getElem?_eq_getElem hi]; rfl
  have e2 : fcAt gs i = gs[i] := by unfold fcAt; rw [List.getD_eq_getElem?_getD, List.getElem?_eq_getElem hj]; rfl
  rw [List.getElem_map, List.getElem_map, ← e1, ← e2]
  unfold canF
  rw [a, b, c]
theorem sameSs.can {ss ts : List Sb} (h : sameSs ss ts) : ss.map canS = ts.map canS := by
  refine List.ext_getElem (by rw [List.length_map, List.length_map]; exact h.1) fun i h1 h2 => ?_
  have hi : i < ss.length := by simpa using h1
  have hj : i < ts.length := by simpa using h2
  obtain ⟨a, b, c, d, e⟩ := h.2 i hi
  have e1 : sbAt ss i = ss[i] := by unfold sbAt; rw [List.getD_eq_getElem?_getD, List.getElem?_eq_getElem hi]; rfl
  have e2 : sbAt ts i = ts[i] := by unfold sbAt; rw [List.getD_eq_getElem?_getD, List.getElem?_eq_getElem hj]; rfl
  rw [List.getElem_map, List.getElem_map, ← e1, ← e2]
  unfold canS
  rw [a, b, c, d, e.can]
theorem sameV.can {v u : Vn} (h : sameV v u) : canV v = canV u := by
  obtain ⟨a, b, c, d, e⟩ := h
  unfold canV
  rw [a, b, c, d, e.can]
theorem sameVs.can {vs us : List Vn} (h : sameVs vs us) : vs.map canV = us.map canV := by
  refine List.ext_getElem (by rw [List.length_map, List.length_map]; exact h.1) fun i h1 h2 => ?_
  have hi : i < vs.length := by simpa using h1
  have hj : i < us.length := by simpa using h2
  rw [List.getElem_map, List.getElem_map, ← vnAt_get hi, ← vnAt_get hj]
  exact (h.2 i hi).can
theorem fcsB_can (a l : Int) (n : Nat) (fs : List Fc) : fcsB a l n (fs.map canF) = fcsB a l n fs := by
  have h1 : fcsAt a l (fs.map canF) = fcsAt a l fs := by
    funext i
    unfold fcsAt
    rw [fcAt_can]
    rfl
  have h2 : riseFB (fs.map canF) = riseFB fs := by
    unfold riseFB
    rw [List.length_map]
    refine all_sameN fun i _ => ?_
    unfold riseFAt
    rw [fcAt_can, fcAt_can]
    rfl
  have h3 : allNs (fs.map canF) = allNs fs := by
    unfold allNs
    rw [List.flatMap_map]
    rfl
  unfold fcsB
  rw [h1, h2, h3]
theorem chkV_can (vid : Int) (rn : Nat) (rs : List Rg) (sn : Nat) (ss : List Sb) : chkV vid rn rs sn (ss.map canS) = chkV vid rn rs sn ss := by
  have h1 : vmanyB rn sn (ss.map canS) = vmanyB rn sn ss := by
    unfold vmanyB
    refine congrArg (fun f => decide (4 < rn) || decide (6 < sn) || anyAt sn f) (funext fun i => ?_)
    rw [sbAt_can]
    unfold smanyB
    refine congrArg (fun f => decide (8 < (sbAt ss i).n) || anyAt (sbAt ss i).n f) (funext fun j => ?_)
    show decide (4 < (fcAt ((sbAt ss i).fs.map canF) j).n) = _
    rw [fcAt_can]
    rfl
  have h2 : sbsAt rn rs (ss.map canS) = sbsAt rn rs ss := by
    funext i
    unfold sbsAt
    rw [sbAt_can]
    have e1 : ∀ c m, smB (ss.map canS) c m = smB ss c m := fun c m => funext fun j => by
      unfold smB
      rw [sbAt_can]
      rfl
    rw [e1]
    show (subB rn rs (sbAt ss i).id (sbAt ss i).a (sbAt ss i).l && !anyAt i (smB ss (sbAt ss i).a (sbAt ss i).l) && fcsB (sbAt ss i).a (sbAt ss i).l (sbAt ss i).n ((sbAt ss i).fs.map canF)) = _
    rw [fcsB_can]
  have h3 : riseSB (ss.map canS) = riseSB ss := by
    unfold riseSB
    rw [List.length_map]
    refine all_sameN fun i _ => ?_
    unfold riseSAt
    rw [sbAt_can, sbAt_can]
    rfl
  unfold chkV sbsB
  rw [h1, h2, h3]
theorem vplace_can (n : Nat) (vs : List Vn) (id : Int) : vplace n (vs.map canV) id = vplace n vs id := by
  have h : (fun i => (vnAt (vs.map canV) i).id == id) = fun i => (vnAt vs i).id == id := funext fun i => by
    rw [vnAt_can]
    rfl
  unfold vplace
  rw [h]
theorem apB_can (ms : List (Int × Int)) (n : Nat) (vs : List Vn) : apB ms n (vs.map canV) = apB ms n vs := by
  unfold apB
  refine all_sameN fun i _ => ?_
  unfold apAt
  refine all_sameN fun j _ => ?_
  unfold clsh
  rw [vnAt_can, vnAt_can]
  rfl
theorem ids_can (vs : List Vn) : idsOf (vs.map canV) = idsOf vs := by
  unfold idsOf
  rw [List.map_map]
  rfl
theorem chkN_can (n : Nat) (vs : List Vn) (ln : Nat) (ls : List (Int × Int)) : chkN n (vs.map canV) ln ls = chkN n vs ln ls := by
  have h1 : vpcsB n (vs.map canV) = vpcsB n vs := by
    have e1 : riseVB (vs.map canV) = riseVB vs := by
      unfold riseVB
      rw [List.length_map]
      refine all_sameN fun i _ => ?_
      unfold riseVAt
      rw [vnAt_can, vnAt_can]
      rfl
    have e2 : (fun i => vbad (vnAt (vs.map canV) i)) = fun i => vbad (vnAt vs i) := funext fun i => by
      rw [vnAt_can]
      unfold vbad
      show (!(chkV (vnAt vs i).id (vnAt vs i).rn (vnAt vs i).rs (vnAt vs i).sn ((vnAt vs i).ss.map canS) == 0)) = _
      rw [chkV_can]
    unfold vpcsB
    rw [e1, e2]
  have h2 : linksB n (vs.map canV) ln ls = linksB n vs ln ls := by
    have e : lbad n (vs.map canV) ls = lbad n vs ls := funext fun i => by
      unfold lbad
      rw [vplace_can, vplace_can]
    unfold linksB
    rw [e]
  unfold chkN
  rw [h1, h2, apB_can]
theorem grpE_can (n : Nat) (vs : List Vn) (ln : Nat) (ls : List (Int × Int)) (id : Int) : grpE n (vs.map canV) ln ls id = grpE n vs ln ls id := by
  unfold grpE
  rw [chkN_can, vplace_can]
theorem grpL_can (ls : List (Int × Int)) (vs : List Vn) (id : Int) : grpL ls (vs.map canV) id = grpL ls vs id := by
  unfold grpL
  rw [ids_can]
theorem makeE_can (n : Nat) (vs : List Vn) (ln : Nat) (ls : List (Int × Int)) (id : Int) : makeE n (vs.map canV) ln ls id = makeE n vs ln ls id := by
  unfold makeE
  rw [chkN_can, vplace_can]
theorem partE_can (n : Nat) (vs : List Vn) (ln : Nat) (ls : List (Int × Int)) (a b : Int) : partE n (vs.map canV) ln ls a b = partE n vs ln ls a b := by
  unfold partE
  rw [chkN_can]
theorem joinE_can (n : Nat) (vs : List Vn) (ln : Nat) (ls : List (Int × Int)) (a b : Int) : joinE n (vs.map canV) ln ls a b = joinE n vs ln ls a b := by
  unfold joinE
  rw [chkN_can, vplace_can, vplace_can, apB_can]
theorem growVs_can (vs : List Vn) (i : Nat) (r : Rg) : (growVs vs i r).map canV = growVs (vs.map canV) i r := by
  unfold growVs
  rw [List.map_set, vnAt_can]
  rfl
theorem ngrowE_can (n : Nat) (vs : List Vn) (ln : Nat) (ls : List (Int × Int)) (id : Int) (r : Rg) : ngrowE n (vs.map canV) ln ls id r = ngrowE n vs ln ls id r := by
  have h : ∀ i, growE (vnAt (vs.map canV) i).id (vnAt (vs.map canV) i).rn (vnAt (vs.map canV) i).rs (vnAt (vs.map canV) i).sn (vnAt (vs.map canV) i).ss r = growE (vnAt vs i).id (vnAt vs i).rn (vnAt vs i).rs (vnAt vs i).sn (vnAt vs i).ss r := fun i => by
    rw [vnAt_can]
    unfold growE
    show (if chkV (vnAt vs i).id (vnAt vs i).rn (vnAt vs i).rs (vnAt vs i).sn ((vnAt vs i).ss.map canS) ≠ 0 then chkV (vnAt vs i).id (vnAt vs i).rn (vnAt vs i).rs (vnAt vs i).sn ((vnAt vs i).ss.map canS) else _) = _
    rw [chkV_can]
    rfl
  unfold ngrowE
  rw [chkN_can, vplace_can, h, ← growVs_can, apB_can]
/-- The place of a network by its Id. -/
def posVn (id : Int) (vs : List Vn) : Nat := ((List.range vs.length).find? fun i => decide (id < (vnAt vs i).id)).getD vs.length
def insVn (id : Int) (vs : List Vn) : List Vn := vs.take (posVn id vs) ++ [newV id] ++ vs.drop (posVn id vs)
theorem posVn_is {id : Int} {vs : List Vn} {i : Nat} (hi : i ≤ vs.length) (hlo : ∀ j, j < i → ¬ id < (vnAt vs j).id) (hup : i < vs.length → id < (vnAt vs i).id) : posVn id vs = i := by
  unfold posVn
  by_cases h : i < vs.length
  · have : (List.range vs.length).find? (fun i => decide (id < (vnAt vs i).id)) = some i := by
      rw [List.find?_range_eq_some]
      exact ⟨by simpa using hup h, by simpa using h, fun j hj => by simpa using hlo j hj⟩
    rw [this]
    rfl
  · obtain rfl : i = vs.length := by omega
    have : (List.range vs.length).find? (fun i => decide (id < (vnAt vs i).id)) = none := by
      rw [List.find?_eq_none]
      intro j hj
      have := hlo j (by simpa using hj)
      simpa using this
    rw [this]
    rfl
theorem posVn_can (id : Int) (vs : List Vn) : posVn id (vs.map canV) = posVn id vs := by
  unfold posVn
  have h : (fun i => decide (id < (vnAt (vs.map canV) i).id)) = fun i => decide (id < (vnAt vs i).id) := funext fun i => by
    rw [vnAt_can]
    rfl
  rw [h, List.length_map]
theorem insVn_can (id : Int) (vs : List Vn) : (insVn id vs).map canV = insVn id (vs.map canV) := by
  unfold insVn
  rw [posVn_can, List.map_append, List.map_append, List.map_take, List.map_drop]
  rfl
theorem PutVn.can {id : Int} {vs us : List Vn} (h : PutVn id vs us) : us.map canV = insVn id (vs.map canV) := by
  obtain ⟨us0, i, hs, hi, hlo, hup, rfl⟩ := h
  have e : us0.take i ++ [newV id] ++ us0.drop i = insVn id us0 := by
    unfold insVn
    rw [posVn_is hi hlo hup]
  rw [e, insVn_can, hs.can]
theorem can_len {vs us : List Vn} (h : us.map canV = vs) : us.length = vs.length := by
  rw [← h, List.length_map]
/-- Two nets that are the same but for where they lie. -/
theorem can_same {vs us : List Vn} {w w' : World} (h : vs.map canV = us.map canV) (hv : ∀ v ∈ vs, VpOk w v) (hu : ∀ v ∈ us, VpOk w' v) : sameVs vs us := by
  refine ⟨by have := congrArg List.length h; simpa using this, fun i hi => ?_⟩
  have hj : i < us.length := by have := congrArg List.length h; simp at this; omega
  have e := congrArg (fun l => vnAt l i) h
  simp only [vnAt_can] at e
  unfold canV at e
  simp only [Vn.mk.injEq, true_and] at e
  obtain ⟨e1, e2, e3, e4, e5⟩ := e
  refine ⟨e1, e2, e3, e4, ?_⟩
  have hv' := (hv _ (vnAt_get' hi)).2.2.2.subs
  have hu' := (hu _ (vnAt_get' hj)).2.2.2.subs
  refine ⟨by have := congrArg List.length e5; simpa using this, fun k hk => ?_⟩
  have f := congrArg (fun l => sbAt l k) e5
  simp only [sbAt_can] at f
  unfold canS at f
  simp only [Sb.mk.injEq, true_and] at f
  obtain ⟨f1, f2, f3, f4, f5⟩ := f
  refine ⟨f1, f2, f3, f4, ?_⟩
  refine ⟨by have := congrArg List.length f5; simpa using this, fun q hq => ?_⟩
  have g := congrArg (fun l => fcAt l q) f5
  simp only [fcAt_can] at g
  unfold canF at g
  simp only [Fc.mk.injEq, true_and] at g
  exact ⟨g.1, g.2.1, g.2.2⟩
end Go.Proofs.YtlalgkjollgcbaaGreat
/- SameNets of the reference. -/
namespace Go.Proofs.YtlalgkjollgcbaaGreat
open Go.RowKit Go.Shelf

set_option maxRecDepth 100000 in
set_option maxHeartbeats 6400000 in
theorem sameNets_yes (x y : Option Addr) (n c d : Nat) (vs us : List Vn) (lx ly : Option Addr) (ln lc ld : Nat) (ls : List (Int × Int)) (w : World) (hp : VS w x n vs) (hq : VS w y n us) (hs : sameVs vs us) (hl : PS w lx ln ls) (hm : PS w ly ln ls) (hn : n ≤ 9223372036854775807) (hln : ln ≤ 9223372036854775807) :
    Calls Tryz.prog 17 #[.agg #[.slice x n c, .slice lx ln lc], .agg #[.slice y n d, .slice ly ln ld]] w fun e w' => e = .returned (.bool true) ∧ Below w.heap.size w w' := by
  have hs' : Hid (sameVs vs us) := hs
  have hvl : Hid (vs.length = n) := hp.len
  clear hs
  go_enter Tryz.func17, Tryz.ntmps17
  go_upto_region 1 with fail
  obtain ⟨w2, hw2⟩ : ∃ w2, w2 = (w.alloc (netO x n c lx ln lc)).alloc (netO y n d ly ln ld) := ⟨_, rfl⟩
  rw [← hw2]
  have h02 : Below w.heap.size w w2 := by rw [hw2]; exact bl2 w _ _
  have hbx : w2.heap[w.heap.size]? = some (netO x n c lx ln lc) := by rw [hw2]; exact heap_old _ (heap_new _ rfl)
  have hby : w2.heap[w.heap.size + 1]? = some (netO y n d ly ln ld) := by rw [hw2]; exact heap_new _ (by simp)
  clear hw2
  have q0 : w2.cell? ⟨w.heap.size, 0, none⟩ = some (.slice x n c) := (box_cells hbx).1 0
  have q1 : w2.cell? ⟨w.heap.size, 1, none⟩ = some (.slice lx ln lc) := (box_cells hbx).1 1
  have q2 : w2.cell? ⟨w.heap.size + 1, 0, none⟩ = some (.slice y n d) := (box_cells hby).1 0
  have q3 : w2.cell? ⟨w.heap.size + 1, 1, none⟩ = some (.slice ly ln ld) := (box_cells hby).1 1
  have hp2 := hp.later h02
  have hq2 := hq.later h02
  have hl2 := hl.later h02
  have hm2 := hm.later h02
  have hsz : Hid (w.heap.size ≤ w2.heap.size) := h02.size
  clear hbx hby hp hq hl hm
  generalize hbk : w.heap.size = bk at *
  go_wp2
  go_loopw [5] (fun i wr => ∃ k : Nat, k ≤ n ∧ i = .int .i64 k ∧ Below w2.heap.size w2 wr) (fun i _ => n - (intOf i).toNat)
  case atStart => exact ⟨0, by omega, rfl, Below.refl _ _⟩
  case round =>
    obtain ⟨k, hk, rfl, hB⟩ := hrel
    have r0 := cell_later hB q0
    have r2 := cell_later hB q2
    by_cases hlt : k < n
    · have hlt' : Hid (k < n) := hlt
      obtain ⟨e1, e2, e3, e4, e5⟩ := hs'.out.2 k (by rw [hvl.out]; exact hlt)
      have v1 := (hp2.later hB).vps k hlt
      have v2 := (hq2.later hB).vps k hlt
      obtain ⟨b1, o1, hx1, c0, c1, c2⟩ := (hp2.later hB).cells k hlt
      obtain ⟨b2, o2, hx2, d0, d1, d2⟩ := (hq2.later hB).cells k hlt
      rw [← e1] at d0
      rw [← e2] at d1
      rw [← e4] at d2
      rw [← e2, ← e3, ← e4] at v2
      have hsv := fun W (hW : Below wr.heap.size wr W) => sameVpcs_yes (vnAt vs k).id (vnAt vs k).rx (vnAt us k).rx (vnAt vs k).rn (vnAt vs k).rc (vnAt us k).rc (vnAt vs k).rs (vnAt vs k).sx (vnAt us k).sx (vnAt vs k).sn (vnAt vs k).sc (vnAt us k).sc (vnAt vs k).ss (vnAt us k).ss W (v1.2.2.2.later hW) (v2.2.2.2.later hW) e5 v1.1 v1.2.1
      clear e1 e2 e3 e4 e5 v1 v2
      subst hx1
      subst hx2
      have a0 := Ws.here r0
      have a1 := Ws.here r2
      have a2 := Ws.here c0
      have a3 := Ws.here c1
      have a4 := Ws.here c2
      have a5 := Ws.here d0
      have a6 := Ws.here d1
      have a7 := Ws.here d2
      go_upto_region 6 with fail
      clear r0 r2 c0 c1 c2 d0 d1 d2
      refine wp_region_ws wr.heap.size (by kernel_rfl) (by kernel_rfl) ?_
      repeat (go_big_quiet_step (first | (go_at_call 39; exact Calls.in_ws (Nat.le_refl _) (hsv _ (Ws.property _)))))
      refine wpQuiet_nil ?_
      rintro _ ⟨u, rfl⟩
      have hbu := u.property
      generalize u.val = wu at hbu ⊢
      clear u a0 a1 a2 a3 a4 a5 a6 a7 hsv
      go_wp2
      go_roundw
      case rel => exact ⟨k + 1, hlt'.out, by go_num, hB.trans (hbu.mono hB.size)⟩
      case measure => simp [intOf]; have := hlt'.out; omega
    · obtain rfl : n = k := by omega
      clear r2 hlt hk
      obtain ⟨w3, hw3⟩ : ∃ w3, w3 = wr := ⟨_, rfl⟩
      subst hw3
      have h03 : Below bk w w3 := h02.trans (hB.mono hsz.out)
      have hsz3 : Hid (bk ≤ w3.heap.size) := Nat.le_trans hsz.out hB.size
      have hl3 := hl2.later hB
      have hm3 := hm2.later hB
      have s1 := cell_later hB q1
      have s3 := cell_later hB q3
      clear hB hp2 hq2 hl2 hm2 q0 q1 q2 q3 h02 hsz
      go_wp2
      clear r0
      go_loopw [6] (fun i wr => ∃ k : Nat, k ≤ ln ∧ i = .int .i64 k ∧ Below w3.heap.size w3 wr) (fun i _ => ln - (intOf i).toNat)
      case atStart => exact ⟨0, by omega, rfl, Below.refl _ _⟩
      case round =>
        obtain ⟨k, hk, rfl, hB⟩ := hrel
        have r1 := cell_later hB s1
        have r3 := cell_later hB s3
        by_cases hlt : k < ln
        · have hlt' : Hid (k < ln) := hlt
          obtain ⟨b1, o1, hx1, c0, c1⟩ := (hl3.later hB).cells k hlt
          obtain ⟨b2, o2, hx2, d0, d1⟩ := (hm3.later hB).cells k hlt
          subst hx1
          subst hx2
          have a0 := Ws.here r1
          have a1 := Ws.here r3
          have a2 := Ws.here c0
          have a3 := Ws.here c1
          have a5 := Ws.here d0
          have a6 := Ws.here d1
          go_upto_region 11 with fail
          clear r1 r3 c0 c1 d0 d1
          refine wp_region_ws wr.heap.size (by kernel_rfl) (by kernel_rfl) ?_
          repeat (go_big_quiet_step (fail))
          refine wpQuiet_nil ?_
          rintro _ ⟨u, rfl⟩
          have hbu := u.property
          generalize u.val = wu at hbu ⊢
          clear u a0 a1 a2 a3 a5 a6
          go_wp2
          go_roundw
          case rel => exact ⟨k + 1, hlt'.out, by go_num, hB.trans (hbu.mono hB.size)⟩
          case measure => simp [intOf]; have := hlt'.out; omega
        · obtain rfl : ln = k := by omega
          go_wp2
          go_ret
          exact ⟨rfl, by first | exact h03.trans (hB.mono hsz3.out) | (rw [hbk]; exact h03.trans (hB.mono hsz3.out))⟩
/-- The same of nets by their numbers. -/
theorem sameNets_nn {w : World} {A B : Value} {vs us : List Vn} {ls : List (Int × Int)} (hA : NN w A vs ls) (hB : NN w B us ls) (h : vs.map canV = us.map canV) :
    Calls Tryz.prog 17 #[A, B] w fun e w' => e = .returned (.bool true) ∧ Below w.heap.size w w' := by
  obtain ⟨x, c, lx, lc, rfl, h1, h2, h3, h4, h5, h6⟩ := hA
  obtain ⟨y, d, ly, ld, rfl, g1, g2, g3, g4, g5, g6⟩ := hB
  have hl : us.length = vs.length := by have := congrArg List.length h; simpa using this.symm
  have hs : sameVs vs us := can_same h (fun v hv => by
    obtain ⟨i, hi, rfl⟩ := mem_vnAt hv
    exact h1.vps i hi) (fun v hv => by
    obtain ⟨i, hi, rfl⟩ := mem_vnAt hv
    exact g1.vps i hi)
  rw [hl] at g1 g3 ⊢
  exact sameNets_yes x y vs.length c d vs us lx ly ls.length lc ld ls w h1 g1 hs h2 g2 (by omega) (by omega)
end Go.Proofs.YtlalgkjollgcbaaGreat
/- netBegun. -/
namespace Go.Proofs.YtlalgkjollgcbaaGreat
open Go.RowKit Go.Shelf

theorem NPost.zero {E : Int} {R : List Vn → List (Int × Int) → Prop} {w w' : World} {e : Ending} (h : NPost E R w e w') (hE : E = 0) : ∃ V us ms, e = .returned (.tuple #[V, .int .i64 0]) ∧ Below w.heap.size w w' ∧ NO w' w.heap.size V us ms ∧ R us ms := by
  obtain ⟨V, h1, h2, -, h4⟩ := h
  obtain ⟨us, ms, h5, h6⟩ := h4 hE
  exact ⟨V, us, ms, by rw [h1, hE], h2, h5, h6⟩
theorem NPost.not {E t : Int} {R : List Vn → List (Int × Int) → Prop} {w w' : World} {e : Ending} (h : NPost E R w e w') (hE : E = t) (ht : t ≠ 0) : e = .returned (.tuple #[.agg #[.slice none 0 0, .slice none 0 0], .int .i64 t]) ∧ Below w.heap.size w w' := by
  obtain ⟨V, h1, h2, h3, -⟩ := h
  rw [hE] at h1 h3
  exact ⟨by rw [h1, h3 ht], h2⟩
/-- A net in the box b. -/
structure Bx (w W : World) (b : Nat) (X : Option Addr) (C : Nat) (Y : Option Addr) (D : Nat) (us : List Vn) (ms : List (Int × Int)) : Prop where
  box : W.heap[b]? = some (netB (.slice X us.length C) (.slice Y ms.length D))
  vs : VS W X us.length us
  ps : PS W Y ms.length ms
  xc : us.length ≤ C
  c63 : C ≤ 9223372036854775807
  yd : ms.length ≤ D
  d63 : D ≤ 9223372036854775807
  below : Below w.heap.size w W
theorem Bx.later {w W W' : World} {b : Nat} {X : Option Addr} {C : Nat} {Y : Option Addr} {D : Nat} {us : List Vn} {ms : List (Int × Int)} (h : Bx w W b X C Y D us ms) (hb : Below W.heap.size W W') : Bx w W' b X C Y D us ms :=
  ⟨heap_later hb h.box, h.vs.later hb, h.ps.later hb, h.xc, h.c63, h.yd, h.d63, h.below.trans (hb.mono h.below.size)⟩
/-- What an operation answered, put into the box. -/
theorem Bx.put {w W : World} {b base : Nat} {X : Option Addr} {C : Nat} {Y : Option Addr} {D : Nat} {us : List Vn} {ms : List (Int × Int)} {o0 o1 : Value} (hN : NO W base (.agg #[.slice X us.length C, .slice Y ms.length D]) us ms) (hb : W.heap[b]? = some (netB o0 o1)) (hlt : b < base) (hB : Below w.heap.size w W) (hbw : w.heap.size ≤ b) :
    Bx w ((W.setCell ⟨b, 0, none⟩ (.slice X us.length C)).setCell ⟨b, 1, none⟩ (.slice Y ms.length D)) b X C Y D us ms := by
  obtain ⟨X', C', Y', D', he, h1, h2, h3, h4, h5, h6⟩ := ((hN.put (o := 0) (v := .slice X us.length C) hlt).put (o := 1) (v := .slice Y ms.length D) hlt).nn
  simp only [Value.agg.injEq, Array.mk.injEq, List.cons.injEq, Value.slice.injEq, and_true] at he
  obtain ⟨⟨rfl, -, rfl⟩, rfl, -, rfl⟩ := he
  refine ⟨?_, h1, h2, h3, h4, h5, h6, (hB.setCell (p := ⟨b, 0, none⟩) hbw _).setCell (p := ⟨b, 1, none⟩) hbw _⟩
  have g1 := heap_setCell_same W b 0 _ _ (.slice X us.length C) hb
  have g2 := heap_setCell_same _ b 1 _ _ (.slice Y ms.length D) g1
  simpa using g2
theorem NO.agg {w : World} {base : Nat} {V : Value} {us : List Vn} {ms : List (Int × Int)} (h : NO w base V us ms) : ∃ X C Y D, V = .agg #[.slice X us.length C, .slice Y ms.length D] := by
  obtain ⟨X, C, Y, D, e, -⟩ := h.nn
  exact ⟨X, C, Y, D, e⟩
def C1 : List Vn := [newV 3]
def C2 : List Vn := [newV 1, newV 3]
def C3 : List Vn := growVs C2 1 ⟨256, 10, 7⟩
theorem bgn_make1 : makeE 0 [] 0 [] 3 = 0 := by kernel_rfl
theorem bgn_ins1 : insVn 3 [] = C1 := by kernel_rfl
theorem bgn_make2 : makeE 1 C1 0 [] 1 = 0 := by kernel_rfl
theorem bgn_ins2 : insVn 1 C1 = C2 := by kernel_rfl
theorem bgn_grow : ngrowE 2 C2 0 [] 3 ⟨256, 10, 7⟩ = 0 := by kernel_rfl
theorem bgn_at : vplace 2 C2 3 = 1 := by kernel_rfl
theorem bgn_join : joinE 2 C3 0 [] 3 1 = 0 := by kernel_rfl
theorem bgn_ins : insLk (min 3 1, max 3 1) [] = [(1, 3)] := by kernel_rfl
theorem bgn_grpE : grpE 2 C3 1 [(1, 3)] 1 = 0 := by kernel_rfl
theorem bgn_grpL : grpL [(1, 3)] C3 1 = [1, 3] := by kernel_rfl
theorem bgn_busy : ngrowE 2 C3 1 [(1, 3)] 1 ⟨256, 16, 7⟩ = 9 := by kernel_rfl
theorem bgn_part : partE 2 C3 1 [(1, 3)] 1 3 = 0 := by kernel_rfl

set_option maxRecDepth 100000 in
set_option maxHeartbeats 6400000 in
theorem netBegun_any (w : World) : Calls Tryz.prog 14 #[] w fun e w' => e = .returned (.bool true) ∧ Below w.heap.size w w' := by
  have hm1 := make_any none 0 0 [] none 0 0 [] 3 w ⟨rfl, fun i hi => absurd hi (Nat.not_lt_zero _), fun i hi => absurd hi (Nat.not_lt_zero _)⟩ (by omega) (by omega) ⟨rfl, fun i hi => absurd hi (Nat.not_lt_zero _)⟩ (by omega)
  go_enter Tryz.func14, Tryz.ntmps14
  go_wp2_with fail
  refine hm1.mono ?_
  rintro e w1 hpo
  obtain ⟨V, us1, ms1, rfl, hb1, hN1, hR1⟩ := hpo.zero bgn_make1
  clear hm1 hpo
  obtain ⟨X1, C1', Y1, D1, rfl⟩ := hN1.agg
  have hc1 : Hid (us1.map canV = C1 ∧ ms1 = []) := ⟨hR1.1.can.trans bgn_ins1, hR1.2⟩
  clear hR1
  go_upto_region 2 with fail
  obtain ⟨w2, hw2⟩ : ∃ w2, w2 = w1.alloc (netB (.slice X1 us1.length C1') (.slice Y1 ms1.length D1)) := ⟨_, rfl⟩
  rw [← hw2]
  have h12 : Below w1.heap.size w1 w2 := by rw [hw2]; exact bl1 w1 _
  have hbx : w2.heap[w1.heap.size]? = some (netB (.slice X1 us1.length C1') (.slice Y1 ms1.length D1)) := by rw [hw2]; exact heap_new _ rfl
  have hbs : Hid (w1.heap.size < w2.heap.size) := (Array.getElem?_eq_some_iff.1 hbx).1
  clear hw2
  have hB2 : Bx w w2 w1.heap.size X1 C1' Y1 D1 us1 ms1 := by
    obtain ⟨X', C', Y', D', he, h1, h2, h3, h4, h5, h6⟩ := (hN1.later h12).nn
    simp only [Value.agg.injEq, Array.mk.injEq, List.cons.injEq, Value.slice.injEq, and_true] at he
    obtain ⟨⟨rfl, -, rfl⟩, rfl, -, rfl⟩ := he
    exact ⟨hbx, h1, h2, h3, h4, h5, h6, hb1.trans (h12.mono hb1.size)⟩
  have hbw : Hid (w.heap.size ≤ w1.heap.size) := hb1.size
  generalize w1.heap.size = b at *
  clear h12 hbx hb1 hN1
  have n0 : w2.cell? ⟨b, 0, none⟩ = some (.slice X1 us1.length C1') := (box_cells hB2.box).1 0
  have n1 : w2.cell? ⟨b, 1, none⟩ = some (.slice Y1 ms1.length D1) := (box_cells hB2.box).1 1
  have hop := make_any X1 us1.length C1' us1 Y1 ms1.length D1 ms1 1 w2 hB2.vs (by have := hB2.xc; have := hB2.c63; omega) hB2.xc hB2.ps (by have := hB2.yd; have := hB2.d63; omega)
  go_wp2_with fail
  refine hop.mono ?_
  rintro e v2 hpo
  obtain ⟨V, us2, ms2, rfl, hb2, hN2, hR2⟩ := hpo.zero (by rw [hc1.out.2, can_len hc1.out.1, ← makeE_can, hc1.out.1]; exact bgn_make2)
  clear hop hpo n0 n1
  obtain ⟨X2, C2v, Y2, D2, rfl⟩ := hN2.agg
  have hc2 : Hid (us2.map canV = C2 ∧ ms2 = []) := ⟨by rw [hR2.1.can, hc1.out.1]; exact bgn_ins2, hR2.2.trans hc1.out.2⟩
  clear hR2
  have hbb2 := heap_later hb2 hB2.box
  have hbl2 : Hid (b < w2.heap.size) := (Array.getElem?_eq_some_iff.1 hB2.box).1
  have hBN := Bx.put hN2 hbb2 hbl2.out (hB2.below.trans (hb2.mono hB2.below.size)) hbw.out
  have n0 : v2.cell? ⟨b, 0, none⟩ = some (.slice X1 us1.length C1') := (box_cells hbb2).1 0
  have n1 : v2.cell? ⟨b, 1, none⟩ = some (.slice Y1 ms1.length D1) := (box_cells hbb2).1 1
  have z0 := (box_cells hbb2).2 0
  have z1 := (box_cells hbb2).2 1
  go_upto_region 3 with fail
  obtain ⟨w3, hw3⟩ : ∃ w3, w3 = (v2.setCell ⟨b, 0, none⟩ (.slice X2 us2.length C2v)).setCell ⟨b, 1, none⟩ (.slice Y2 ms2.length D2) := ⟨_, rfl⟩
  rw [← hw3] at hBN ⊢
  have hB3 := hBN
  clear hBN hw3 n0 n1 z0 z1 hbb2 hb2 hN2 hB2
  have n0 : w3.cell? ⟨b, 0, none⟩ = some (.slice X2 us2.length C2v) := (box_cells hB3.box).1 0
  have n1 : w3.cell? ⟨b, 1, none⟩ = some (.slice Y2 ms2.length D2) := (box_cells hB3.box).1 1
  have hop := ngrow_any X2 us2.length C2v us2 Y2 ms2.length D2 ms2 3 ⟨256, 10, 7⟩ w3 hB3.vs (by have := hB3.xc; have := hB3.c63; omega) hB3.xc hB3.ps (by have := hB3.yd; have := hB3.d63; omega)
  go_wp2_with fail
  refine hop.mono ?_
  rintro e v3 hpo
  obtain ⟨V, us3, ms3, rfl, hb3, hN3, hR3⟩ := hpo.zero (by rw [hc2.out.2, can_len hc2.out.1, ← ngrowE_can, hc2.out.1]; exact bgn_grow)
  clear hop hpo n0 n1
  obtain ⟨X3, C3v, Y3, D3, rfl⟩ := hN3.agg
  have hc3 : Hid (us3.map canV = C3 ∧ ms3 = []) := ⟨by rw [← hR3.1.can, growVs_can, hc2.out.1, can_len hc2.out.1, ← vplace_can, hc2.out.1]; exact (congrArg (fun i => growVs C2 (Int.toNat i) ⟨256, 10, 7⟩) bgn_at), hR3.2.trans hc2.out.2⟩
  clear hR3
  have hbb3 := heap_later hb3 hB3.box
  have hbl3 : Hid (b < w3.heap.size) := (Array.getElem?_eq_some_iff.1 hB3.box).1
  have hBN := Bx.put hN3 hbb3 hbl3.out (hB3.below.trans (hb3.mono hB3.below.size)) hbw.out
  have n0 : v3.cell? ⟨b, 0, none⟩ = some (.slice X2 us2.length C2v) := (box_cells hbb3).1 0
  have n1 : v3.cell? ⟨b, 1, none⟩ = some (.slice Y2 ms2.length D2) := (box_cells hbb3).1 1
  have z0 := (box_cells hbb3).2 0
  have z1 := (box_cells hbb3).2 1
  go_upto_region 4 with fail
  obtain ⟨w4, hw4⟩ : ∃ w4, w4 = (v3.setCell ⟨b, 0, none⟩ (.slice X3 us3.length C3v)).setCell ⟨b, 1, none⟩ (.slice Y3 ms3.length D3) := ⟨_, rfl⟩
  rw [← hw4] at hBN ⊢
  have hB4 := hBN
  clear hBN hw4 n0 n1 z0 z1 hbb3 hb3 hN3 hB3
  have n0 : w4.cell? ⟨b, 0, none⟩ = some (.slice X3 us3.length C3v) := (box_cells hB4.box).1 0
  have n1 : w4.cell? ⟨b, 1, none⟩ = some (.slice Y3 ms3.length D3) := (box_cells hB4.box).1 1
  have hop := join_any X3 us3.length C3v us3 Y3 ms3.length D3 ms3 3 1 w4 hB4.vs (by have := hB4.xc; have := hB4.c63; omega) hB4.xc hB4.ps (by have := hB4.yd; have := hB4.d63; omega)
  go_wp2_with fail
  refine hop.mono ?_
  rintro e v4 hpo
  obtain ⟨V, us4, ms4, rfl, hb4, hN4, hR4⟩ := hpo.zero (by rw [hc3.out.2, can_len hc3.out.1, ← joinE_can, hc3.out.1]; exact bgn_join)
  clear hop hpo n0 n1
  obtain ⟨X4, C4v, Y4, D4, rfl⟩ := hN4.agg
  have hc4 : Hid (us4.map canV = C3 ∧ ms4 = [(1, 3)]) := ⟨by rw [← hR4.1.can]; exact hc3.out.1, by rw [hR4.2, hc3.out.2]; exact bgn_ins⟩
  clear hR4
  have hbb4 := heap_later hb4 hB4.box
  have hbl4 : Hid (b < w4.heap.size) := (Array.getElem?_eq_some_iff.1 hB4.box).1
  have hBN := Bx.put hN4 hbb4 hbl4.out (hB4.below.trans (hb4.mono hB4.below.size)) hbw.out
  have n0 : v4.cell? ⟨b, 0, none⟩ = some (.slice X3 us3.length C3v) := (box_cells hbb4).1 0
  have n1 : v4.cell? ⟨b, 1, none⟩ = some (.slice Y3 ms3.length D3) := (box_cells hbb4).1 1
  have z0 := (box_cells hbb4).2 0
  have z1 := (box_cells hbb4).2 1
  go_upto_region 5 with fail
  obtain ⟨w5, hw5⟩ : ∃ w5, w5 = (v4.setCell ⟨b, 0, none⟩ (.slice X4 us4.length C4v)).setCell ⟨b, 1, none⟩ (.slice Y4 ms4.length D4) := ⟨_, rfl⟩
  rw [← hw5] at hBN ⊢
  have hB5 := hBN
  clear hBN hw5 n0 n1 z0 z1 hbb4 hb4 hN4 hB4
  have hg5 := group_any X4 us4.length C4v us4 Y4 ms4.length D4 ms4 1 w5 hB5.vs (by have := hB5.xc; have := hB5.c63; omega) hB5.xc hB5.ps (by have := hB5.yd; have := hB5.d63; omega)
  have hgE : grpE us4.length us4 ms4.length ms4 1 = 0 := by rw [hc4.out.2, can_len hc4.out.1, ← grpE_can, hc4.out.1]; exact bgn_grpE
  have hgL : grpL ms4 us4 1 = [1, 3] := by rw [hc4.out.2, ← grpL_can, hc4.out.1]; exact bgn_grpL
  have n0 : w5.cell? ⟨b, 0, none⟩ = some (.slice X4 us4.length C4v) := (box_cells hB5.box).1 0
  have n1 : w5.cell? ⟨b, 1, none⟩ = some (.slice Y4 ms4.length D4) := (box_cells hB5.box).1 1
  go_wp2_with fail
  refine hg5.mono ?_
  rintro e w6 ⟨gv, rfl, hO6, hb6⟩
  rw [hgE, if_pos rfl, hgL] at hO6
  rw [hgE]
  clear hg5 hgE hgL n0 n1
  have hB6 := hB5.later hb6
  obtain ⟨gx, gc, rfl, hgc1, hgc2, -, hgm⟩ := hO6.mem
  have hI6 : IS w6 gx 2 [1, 3] := hgm
  clear hgm hO6 hB5 hb6
  have hop := ngrow_any X4 us4.length C4v us4 Y4 ms4.length D4 ms4 1 ⟨256, 16, 7⟩ w6 hB6.vs (by have := hB6.xc; have := hB6.c63; omega) hB6.xc hB6.ps (by have := hB6.yd; have := hB6.d63; omega)
  have n0 : w6.cell? ⟨b, 0, none⟩ = some (.slice X4 us4.length C4v) := (box_cells hB6.box).1 0
  have n1 : w6.cell? ⟨b, 1, none⟩ = some (.slice Y4 ms4.length D4) := (box_cells hB6.box).1 1
  go_wp2_with fail
  refine hop.mono ?_
  rintro e w7 hpo
  obtain ⟨rfl, hb7⟩ := hpo.not (t := 9) (by rw [hc4.out.2, can_len hc4.out.1, ← ngrowE_can, hc4.out.1]; exact bgn_busy) (by decide)
  clear hop hpo n0 n1
  have hB7 := hB6.later hb7
  have hI7 := hI6.later hb7
  clear hB6 hI6 hb7
  go_upto_region 7 with fail
  obtain ⟨w8, hw8⟩ : ∃ w8, w8 = w7.alloc (netB (.slice none 0 0) (.slice none 0 0)) := ⟨_, rfl⟩
  rw [← hw8]
  have hb8 : Below w7.heap.size w7 w8 := by rw [hw8]; exact bl1 w7 _
  clear hw8
  have hB8 := hB7.later hb8
  have hI8 := hI7.later hb8
  clear hB7 hI7 hb8
  have hop := part_any X4 us4.length C4v us4 Y4 ms4.length D4 ms4 1 3 w8 hB8.vs (by have := hB8.xc; have := hB8.c63; omega) hB8.xc hB8.ps (by have := hB8.yd; have := hB8.d63; omega)
  have n0 : w8.cell? ⟨b, 0, none⟩ = some (.slice X4 us4.length C4v) := (box_cells hB8.box).1 0
  have n1 : w8.cell? ⟨b, 1, none⟩ = some (.slice Y4 ms4.length D4) := (box_cells hB8.box).1 1
  go_wp2_with fail
  refine hop.mono ?_
  rintro e w9 hpo
  obtain ⟨V, us9, ms9, rfl, hb9, hN9, hR9⟩ := hpo.zero (by rw [hc4.out.2, can_len hc4.out.1, ← partE_can, hc4.out.1]; exact bgn_part)
  clear hop hpo n0 n1
  obtain ⟨X9, C9, Y9, D9, rfl⟩ := hN9.agg
  obtain ⟨-, i9, hi9, -, hm9⟩ := hR9
  have hms9 : ms9 = [] := by
    rw [hc4.out.2] at hi9 hm9
    have : i9 = 0 := by simpa using hi9
    rw [hm9, this]
    rfl
  clear hi9 hm9 hN9
  subst hms9
  have hBw : Below w.heap.size w w9 := hB8.below.trans (hb9.mono hB8.below.size)
  have hI9 := hI8.later hb9
  clear hB8 hI8 hb9
  go_upto_region 8 with fail
  obtain ⟨wa, hwa⟩ : ∃ wa, wa = w9.alloc (netB (.slice X9 us9.length C9) (.slice Y9 0 D9)) := ⟨_, rfl⟩
  rw [← hwa]
  have hba : Below w9.heap.size w9 wa := by rw [hwa]; exact bl1 w9 _
  have hbxa : wa.heap[w9.heap.size]? = some (netB (.slice X9 us9.length C9) (.slice Y9 0 D9)) := by rw [hwa]; exact heap_new _ rfl
  clear hwa
  have hIa := hI9.later hba
  have hBa := hBw.trans (hba.mono hBw.size)
  have hsa : Hid (w.heap.size ≤ wa.heap.size) := hBa.size
  clear hI9 hBw hba
  have m1 : wa.cell? ⟨w9.heap.size, 1, none⟩ = some (.slice Y9 0 D9) := (box_cells hbxa).1 1
  generalize w9.heap.size = bm at *
  go_wp2_with fail
  have hbL := bl1 wa (.cells #[.int .i64 1, .int .i64 3] 3)
  have hIL : IS (wa.alloc (.cells #[.int .i64 1, .int .i64 3] 3)) (some ⟨wa.heap.size, 0, none⟩) 2 [1, 3] := ⟨rfl, fun i hi => by
    have hh := (box_cells (heap_new (W := wa) (.cells #[.int .i64 1, .int .i64 3] 3) rfl)).1
    rcases i with _ | _ | i
    · exact ⟨_, _, rfl, hh 0⟩
    · exact ⟨_, _, rfl, hh 1⟩
    · omega⟩
  refine (sameInts_yes gx (some ⟨wa.heap.size, 0, none⟩) 2 gc 2 [1, 3] _ (hIa.later hbL) hIL (by omega)).mono ?_
  rintro e wb ⟨rfl, hbb⟩
  have hBb : Below wa.heap.size wa wb := hbL.trans (hbb.mono hbL.size)
  have m1' := cell_later hBb m1
  clear m1
  go_wp2
  go_ret
  exact ⟨rfl, hBa.trans (hBb.mono hsa.out)⟩
end Go.Proofs.YtlalgkjollgcbaaGreat
/- What joining and parting do to groups and links: mathematics. -/
namespace Go.Proofs.YtlalgkjollgcbaaGreat
open Go.RowKit Go.Shelf

theorem inAt_getN {ns : List Int} {j : Nat} (h : j < ns.length) : inAt ns j = ns[j] := by
  unfold inAt
  rw [List.getD_eq_getElem?_getD, List.getElem?_eq_getElem h]
  rfl
theorem any_in {ns : List Int} {y : Int} : anyAt ns.length (fun j => inAt ns j == y) = decide (y ∈ ns) := by
  by_cases h : y ∈ ns
  · rw [decide_eq_true h]
    obtain ⟨i, hi, e⟩ := List.getElem_of_mem h
    exact any_yes hi (by rw [inAt_getN hi, e]; simp)
  · rw [decide_eq_false h]
    refine any_no fun j hj => ?_
    rw [inAt_getN hj, beq_eq_false_iff_ne]
    intro e
    exact h (e ▸ List.getElem_mem hj)
theorem grp_mem {ls : List (Int × Int)} {vs : List Vn} {id y : Int} (hy : y ∈ idsOf vs) : decide (y ∈ grpL ls vs id) = (hdOf ls y == hdOf ls id) := by
  unfold grpL
  by_cases h : hdOf ls y = hdOf ls id
  · rw [decide_eq_true (List.mem_filter.2 ⟨hy, by simpa using h⟩)]
    simpa using h
  · rw [decide_eq_false (fun hm => h (by simpa using (List.mem_filter.1 hm).2))]
    symm
    simpa using h
theorem grp_same {ls : List (Int × Int)} {vs : List Vn} {a b : Int} (h : hdOf ls a = hdOf ls b) : grpL ls vs a = grpL ls vs b := by
  unfold grpL
  rw [h]
theorem grpE_ids {n : Nat} {vs : List Vn} {ln : Nat} {ls : List (Int × Int)} {id : Int} (hl : vs.length = n) (h : grpE n vs ln ls id = 0) : id ∈ idsOf vs := vplace_mem hl (grpE_zero h).2
/-- What a join that went well says. -/
theorem joinE_zero {n : Nat} {vs : List Vn} {ln : Nat} {ls : List (Int × Int)} {a b : Int} (h : joinE n vs ln ls a b = 0) : chkN n vs ln ls = 0 ∧ a ≠ b ∧ ¬ vplace n vs a < 0 ∧ ¬ vplace n vs b < 0 ∧ jnB ln ls a b = false ∧ apB (insLk (min a b, max a b) ls) n vs = true ∧ ln ≠ 12 := by
  unfold joinE at h
  split at h
  · rename_i h0
    split at h
    · omega
    · rename_i h1
      split at h
      · omega
      · rename_i h2
        split at h
        · omega
        · rename_i h3
          split at h
          · omega
          · rename_i h4
            split at h
            · omega
            · rename_i h5
              split at h
              · omega
              · rename_i h6
                exact ⟨h0, h1, h2, h3, by simpa using h4, by simpa using h5, h6⟩
  · rename_i h0
    exact absurd h h0
theorem lkLt_tri {p q : Int × Int} (h : lkLt p q = false) (hne : p ≠ q) : lkLt q p = true := by
  unfold lkLt at *
  simp only [Bool.or_eq_false_iff, Bool.and_eq_false_iff, decide_eq_false_iff_not, Bool.or_eq_true, Bool.and_eq_true, decide_eq_true_eq] at *
  obtain ⟨h1, h2⟩ := h
  by_cases e : q.1 < p.1
  · exact .inl e
  · refine .inr ⟨by omega, ?_⟩
    rcases h2 with h2 | h2
    · omega
    · have : p.2 ≠ q.2 := fun e2 => hne (Prod.ext (by omega) e2)
      omega
theorem riseL_lt {ps : List (Int × Int)} {i : Nat} : riseLAt ps (i + 1) = lkLt (lkAt ps i) (lkAt ps (i + 1)) := by
  unfold riseLAt lkLt
  have e0 : ∀ j, at0 ps j = (lkAt ps j).1 := fun _ => rfl
  have e1 : ∀ j, at1 ps j = (lkAt ps j).2 := fun _ => rfl
  rw [Nat.add_sub_cancel, e0, e0, e1, e1]
  generalize lkAt ps i = p
  generalize lkAt ps (i + 1) = q
  simp only [Bool.false_or, show (i + 1 == 0) = false by simp]
  by_cases h1 : p.1 < q.1
  · simp [h1]
  · by_cases h2 : p.1 = q.1
    · simp [h2]
    · simp [h1, h2]
theorem ins_get {p : Int × Int} {ls : List (Int × Int)} {j i : Nat} (hj : j ≤ ls.length) : lkAt (ls.take j ++ [p] ++ ls.drop j) i = if i < j then lkAt ls i else if i = j then p else lkAt ls (i - 1) := by
  have hlen : (ls.take j).length = j := by rw [List.length_take]; omega
  unfold lkAt
  simp only [List.getD_eq_getElem?_getD]
  by_cases h1 : i < j
  · rw [if_pos h1, List.append_assoc, List.getElem?_append_left (by omega), List.getElem?_take_of_lt h1]
  · rw [if_neg h1]
    by_cases h2 : i = j
    · rw [if_pos h2, List.append_assoc, List.getElem?_append_right (by omega), hlen, h2, Nat.sub_self]
      rfl
    · rw [if_neg h2, List.getElem?_append_right (by simp; omega), List.getElem?_drop]
      rw [show j + (i - (List.take j ls ++ [p]).length) = i - 1 by simp; omega]
theorem posLk_spec (p : Int × Int) (ls : List (Int × Int)) : posLk p ls ≤ ls.length ∧ (∀ j, j < posLk p ls → lkLt p (lkAt ls j) = false) ∧ (posLk p ls < ls.length → lkLt p (lkAt ls (posLk p ls)) = true) := by
  cases h : (List.range ls.length).find? (fun i => lkLt p (lkAt ls i)) with
  | none =>
    have e : posLk p ls = ls.length := by unfold posLk; rw [h]; rfl
    rw [e]
    refine ⟨Nat.le_refl _, fun j hj => ?_, fun h => absurd h (Nat.lt_irrefl _)⟩
    have := List.find?_eq_none.1 h j (by simpa using hj)
    simpa using this
  | some i =>
    obtain ⟨h1, h2, h3⟩ := List.find?_range_eq_some.1 h
    have hi : i < ls.length := by simpa using h2
    have e : posLk p ls = i := by unfold posLk; rw [h]; rfl
    rw [e]
    exact ⟨by omega, fun j hj => by simpa using h3 j hj, fun _ => h1⟩
/-- Put in at its place, a new link leaves the links rising. -/
theorem ins_rise {p : Int × Int} {ls : List (Int × Int)} (h : riseLB ls = true) (hp : p ∉ ls) : riseLB (insLk p ls) = true := by
  obtain ⟨hj, hlo, hup⟩ := posLk_spec p ls
  have hr : ∀ i, i < ls.length → riseLAt ls i = true := fun i hi => by
    unfold riseLB at h
    exact List.all_eq_true.1 h i (by simpa using hi)
  unfold insLk
  generalize posLk p ls = j at *
  refine riseL_yes fun i hi => ?_
  have hlen : (ls.take j ++ [p] ++ ls.drop j).length = ls.length + 1 := by simp; omega
  rw [hlen] at hi
  cases i with
  | zero => rfl
  | succ i =>
    rw [riseL_lt, ins_get hj, ins_get hj]
    by_cases h1 : i + 1 < j
    · rw [if_pos (by omega), if_pos h1, ← riseL_lt]
      exact hr (i + 1) (by omega)
    · rw [if_neg h1]
      by_cases h2 : i + 1 = j
      · rw [if_pos (by omega), if_pos h2]
        have hi2 : i < ls.length := by omega
        refine lkLt_tri (hlo i (by omega)) (fun e => hp ?_)
        rw [e]
        unfold lkAt
        rw [List.getD_eq_getElem?_getD, List.getElem?_eq_getElem hi2]
        exact List.getElem_mem hi2
      · rw [if_neg h2, if_neg (by omega)]
        by_cases h3 : i = j
        · rw [if_pos h3, Nat.add_sub_cancel, h3]
          exact hup (by omega)
        · rw [if_neg h3, Nat.add_sub_cancel]
          obtain ⟨q, rfl⟩ : ∃ q, i = q + 1 := ⟨i - 1, by omega⟩
          rw [Nat.add_sub_cancel, ← riseL_lt]
          exact hr (q + 1) (by omega)
theorem mem_jn {ln : Nat} {ls : List (Int × Int)} (hl : ls.length = ln) {a b : Int} : jnB ln ls a b = decide ((min a b, max a b) ∈ ls) := jn_lk hl a b
/-- What comes of a join is right. -/
theorem join_right {n : Nat} {vs : List Vn} {ln : Nat} {ls : List (Int × Int)} {a b : Int} (hvl : vs.length = n) (hll : ls.length = ln) (h : joinE n vs ln ls a b = 0) : chkN n vs (ln + 1) (insLk (min a b, max a b) ls) = 0 := by
  obtain ⟨h0, hab, ha, hb, hj, hap, h12⟩ := joinE_zero h
  obtain ⟨g6, g12, gv, gl, -⟩ := chkN_zero h0
  refine chkN_ok (by simp; omega) gv ?_ hap
  have hnm : (min a b, max a b) ∉ ls := by
    rw [mem_jn hll] at hj
    simpa using hj
  have gl' := gl
  unfold linksB at gl ⊢
  rw [Bool.and_eq_true] at gl ⊢
  refine ⟨ins_rise gl.1 hnm, ?_⟩
  rw [any_no (fun i hi => ?_)]
  · rfl
  have hil : i < (insLk (min a b, max a b) ls).length := by rw [ins_len]; omega
  have hm : lkAt (insLk (min a b, max a b) ls) i ∈ insLk (min a b, max a b) ls := by
    unfold lkAt
    rw [List.getD_eq_getElem?_getD, List.getElem?_eq_getElem hil]
    exact List.getElem_mem hil
  have e0 : at0 (insLk (min a b, max a b) ls) i = (lkAt (insLk (min a b, max a b) ls) i).1 := rfl
  have e1 : at1 (insLk (min a b, max a b) ls) i = (lkAt (insLk (min a b, max a b) ls) i).2 := rfl
  unfold lbad
  rw [e0, e1]
  rcases ins_mem.1 hm with e | e
  · rw [e]
    rcases Int.le_total a b with hle | hle
    · rw [Int.min_eq_left hle, Int.max_eq_right hle]
      simp only [Bool.or_eq_false_iff, decide_eq_false_iff_not]
      exact ⟨⟨by omega, ha⟩, hb⟩
    · rw [Int.min_eq_right hle, Int.max_eq_left hle]
      simp only [Bool.or_eq_false_iff, decide_eq_false_iff_not]
      exact ⟨⟨by omega, hb⟩, ha⟩
  · obtain ⟨k1, ⟨q1, hq1, hq2⟩, q3, hq3, hq4⟩ := links_in hvl hll gl' _ e
    have hrv : riseVB vs = true := by
      unfold vpcsB at gv
      rw [Bool.and_eq_true] at gv
      exact gv.1
    simp only [Bool.or_eq_false_iff, decide_eq_false_iff_not]
    refine ⟨⟨by omega, ?_⟩, ?_⟩
    · rw [← hq2, vplace_at hvl hrv hq1]; omega
    · rw [← hq4, vplace_at hvl hrv hq3]; omega
/-- Parted again, the links are as they were. -/
theorem cut_ins {p : Int × Int} {ls ms : List (Int × Int)} {i : Nat} (hp : p ∉ ls) (hi : i < (insLk p ls).length) (he : lkAt (insLk p ls) i = p) (hm : ms = (insLk p ls).take i ++ (insLk p ls).drop (i + 1)) : ms = ls := by
  obtain ⟨hj, -, -⟩ := posLk_spec p ls
  rw [ins_len] at hi
  have hij : i = posLk p ls := by
    unfold insLk at he
    rw [ins_get hj] at he
    have key : ∀ k, k < ls.length → lkAt ls k ≠ p := fun k hk e => hp (by
      rw [← e]
      unfold lkAt
      rw [List.getD_eq_getElem?_getD, List.getElem?_eq_getElem hk]
      exact List.getElem_mem hk)
    by_cases h1 : i < posLk p ls
    · rw [if_pos h1] at he
      exact absurd he (key i (by omega))
    · rw [if_neg h1] at he
      by_cases h2 : i = posLk p ls
      · exact h2
      · rw [if_neg h2] at he
        exact absurd he (key (i - 1) (by omega))
  subst hij
  rw [hm]
  unfold insLk
  have hlen : (ls.take (posLk p ls)).length = posLk p ls := by rw [List.length_take]; omega
  rw [List.append_assoc, List.take_append_of_le_length (by omega), List.take_of_length_le (by omega), List.drop_append, List.drop_eq_nil_of_le (by omega), hlen, show posLk p ls + 1 - posLk p ls = 1 by omega]
  simp
end Go.Proofs.YtlalgkjollgcbaaGreat
/- OwnNet of the reference. -/
namespace Go.Proofs.YtlalgkjollgcbaaGreat
open Go.RowKit Go.Shelf

/-- append of a slice of links, nil or not, to a row of the call's own. -/
theorem wpList_append_KK {w : World} {ops : Array Oper} {rest : List Oper} {o : Oper} {a : Act} {Q : Exit → Act → World → Prop} (hgd : o.guard = none) (s x : Operand)
    (ho : o.op = .call { callee := .builtin .append, args := #[s, x], argTypes := #[23, 23] }) (base : Nat) (v : Value) (es : List (Int × Int)) (hs : a.eval s = v) (hO : OwnK w base v es)
    (ad : Option Addr) (m c : Nat) (fs : List (Int × Int)) (hx : a.eval x = .slice ad m c) (hl : PS w ad m fs)
    (hlen : es.length + m ≤ 1000000000) (hbase : base ≤ w.heap.size)
    (h : ∀ v' w', OwnK w' base v' (es ++ fs) → w.grownBy w' v.ownBlock → wpList Tryz.prog ops Q rest (a.put o.dst v') w') : wpList Tryz.prog ops Q (o :: rest) a w := by
  cases ad with
  | some ad => exact wpList_append_K hgd s x ho base v es hs hO ad m c fs hx hl.len hl.flatK_cells hlen hbase h
  | none =>
    obtain ⟨i0, hi, hz0, hz1, hz2⟩ := info_K'
    have h0 : m = 0 := by
      rcases Nat.eq_zero_or_pos m with h | h
      · exact h
      · obtain ⟨b, o, h, -⟩ := hl.cells 0 h
        cases h
    obtain rfl : fs = [] := List.eq_nil_of_length_eq_zero (by rw [hl.len, h0])
    subst h0
    have h1 := h v w (by rw [List.append_nil]; exact hO) ⟨rfl, rfl, rfl, Nat.le_refl _, fun _ _ _ => rfl⟩
    refine wpList_plain hgd fun K hK => ?_
    have hrun := run_append_none_v (P := Tryz.prog) (w := w) base 23 o.type 63 i0 2 c under_K hi v es.length (flatK es) hO
    unfold Oper.wp
    simp [execOp, ho, resolve, invoke, builtin, hs, hx, hrun, Result.andThen]
    exact hK _ _ h1

theorem OwnV.kind {w : World} {base g : Nat} {v : Value} {fs : List Vn} (h : OwnV w base v fs) (hv : v.ownBlock = some g) : ∃ cur, w.heap[g]? = some (.cells cur 52) := by
  rcases h.2 with ⟨rfl, -⟩ | ⟨g', cap, cur, rfl, -, h3, -⟩
  · simp [Value.ownBlock] at hv
  · simp only [Value.ownBlock, Option.some.injEq] at hv
    subst hv
    exact ⟨cur, h3⟩
theorem grown_none {w w' : World} (hg : w.grownBy w' none) : Below w.heap.size w w' := ⟨hg.os, hg.tape, hg.output, hg.size, fun k hk => hg.block k hk (by simp)⟩
/-- What grows in a row of networks leaves networks of the call's own as they are. -/
theorem Von.grownV {w w' : World} {base b : Nat} {v : Vn} {vX : Value} {fs : List Vn} (h : Von w base v) (hO : OwnV w b vX fs) (hg : w.grownBy w' vX.ownBlock) : Von w' base v := by
  cases hv : vX.ownBlock with
  | none => rw [hv] at hg; exact h.later (grown_none hg)
  | some g =>
    rw [hv] at hg
    obtain ⟨cur, hc⟩ := hO.kind hv
    exact h.grown hg hc (by decide) (by decide) (by decide) (by decide)
theorem OwnK.grownV {w w' : World} {base b : Nat} {v : Value} {ls : List (Int × Int)} {vX : Value} {fs : List Vn} (h : OwnK w base v ls) (hO : OwnV w b vX fs) (hg : w.grownBy w' vX.ownBlock) : OwnK w' base v ls := by
  cases hv : vX.ownBlock with
  | none => rw [hv] at hg; exact h.later (grown_none hg)
  | some g =>
    rw [hv] at hg
    obtain ⟨cur, hc⟩ := hO.kind hv
    exact h.kept hg (fun k hk e => by subst e; exact h.ne hc (by decide) hk)
def OnMid (vs : List Vn) (ls : List (Int × Int)) (n ob : Nat) (vK : Value) (w0 : World) (i : Value) (wr : World) : Prop := ∃ (q : Nat) (us : List Vn) (vX : Value), q ≤ n ∧ i = .int .i64 q ∧ us.length = q ∧ (∀ j, j < q → sameV (vnAt vs j) (vnAt us j)) ∧ OwnV wr w0.heap.size vX us ∧ (∀ u ∈ us, Von wr w0.heap.size u) ∧ OwnK wr w0.heap.size vK ls ∧ wr.heap[ob]? = some (netB vX vK) ∧ Below w0.heap.size w0 wr
theorem vns_cells (W : World) (e : Vn) : ∀ j u, (flatV [e])[j]? = some u → (W.alloc (.cells #[.int .i64 e.id, .slice e.rx e.rn e.rc, .slice e.sx e.sn e.sc] 52)).cell? (Addr.add ⟨W.heap.size, 0, none⟩ j) = some u := fun j u hj => by
  rw [addr_add, Nat.zero_add]
  exact ((box_cells (heap_new (W := W) (.cells #[.int .i64 e.id, .slice e.rx e.rn e.rc, .slice e.sx e.sn e.sc] 52) rfl)).1 j).trans (by rw [List.getElem?_toArray]; exact hj)

set_option maxRecDepth 100000 in
set_option maxHeartbeats 6400000 in
theorem ownNet_any (x : Option Addr) (n c : Nat) (vs : List Vn) (lx : Option Addr) (ln lc : Nat) (ls : List (Int × Int)) (w : World) (hp : VS w x n vs) (hn : n ≤ 64) (hl : PS w lx ln ls) (hln : ln ≤ 64) (hfew : ∀ i, i < n → FewV (vnAt vs i)) :
    Calls Tryz.prog 35 #[.agg #[.slice x n c, .slice lx ln lc]] w (FnPost vs ls w) := by
  have hvl : Hid (vs.length = n) := hp.len
  go_enter Tryz.func35, Tryz.ntmps35
  go_upto_region 1 with fail
  obtain ⟨w0, hw0⟩ : ∃ w0, w0 = (w.alloc (netO x n c lx ln lc)).alloc (netB (.slice none 0 0) (.slice none 0 0)) := ⟨_, rfl⟩
  rw [← hw0]
  have hB0 : Below w.heap.size w w0 := by rw [hw0]; exact bl2 w _ _
  have hb0 : w0.heap[w.heap.size]? = some (netO x n c lx ln lc) := by rw [hw0]; exact heap_old _ (heap_new _ rfl)
  have hr0 : w0.heap[w.heap.size + 1]? = some (netB (.slice none 0 0) (.slice none 0 0)) := by rw [hw0]; exact heap_new _ (by simp)
  clear hw0
  have hsz : w.heap.size + 1 < w0.heap.size := (Array.getElem?_eq_some_iff.1 hr0).1
  have hp0 := hp.later hB0
  have hl0 := hl.later hB0
  have k1 : w0.cell? ⟨w.heap.size, 1, none⟩ = some (.slice lx ln lc) := (box_cells hb0).1 1
  have k1' : ∀ o, (w0.alloc o).cell? ⟨w.heap.size, 1, none⟩ = some (.slice lx ln lc) := fun o => cell_later (bl1 w0 o) k1
  go_wp2_with (at_builtin; refine Hid.out ?_)
  unfold Hid
  have hOa : OwnK (w0.alloc (.cells #[] 63)) w0.heap.size (.slice (some ⟨w0.heap.size, 0, none⟩) 0 0) [] := ⟨rfl, .inr ⟨w0.heap.size, 0, #[], rfl, Nat.le_refl _, heap_new (W := w0) _ rfl, by simp, by unfold maxLen; omega, by simp, rfl⟩⟩
  refine wpList_append_KK rfl _ _ rfl w0.heap.size _ [] rfl hOa lx ln lc ls rfl (hl0.later (bl1 w0 _)) (by simp; omega) (by simp) ?_
  intro v5 w5 hO5 hg5
  rw [List.nil_append] at hO5
  have hb5 : Below w0.heap.size w0 w5 := below_grownr (bl1 w0 _) hg5 (fun k e => (hOa.lt k e).1)
  obtain ⟨x5, c5, hv5, -⟩ := hO5.mem
  subst hv5
  clear k1 k1' hOa hg5
  go_upto_region 2 with fail
  obtain ⟨w6, hw6⟩ : ∃ w6, w6 = w5.alloc (netB (.slice none 0 0) (.slice x5 ls.length c5)) := ⟨_, rfl⟩
  rw [← hw6]
  have hb56 : Below w5.heap.size w5 w6 := by rw [hw6]; exact bl1 w5 _
  have hbx6 : w6.heap[w5.heap.size]? = some (netB (.slice none 0 0) (.slice x5 ls.length c5)) := by rw [hw6]; exact heap_new _ rfl
  clear hw6
  have hB6 : Below w0.heap.size w0 w6 := hb5.trans (hb56.mono hb5.size)
  have hO6 := hO5.later hb56
  have hos : Hid (w0.heap.size ≤ w5.heap.size) := hb5.size
  clear hb5 hb56 hO5
  generalize w5.heap.size = ob at *
  go_wp2
  go_loopw [4] (fun i wr => OnMid vs ls n ob (.slice x5 ls.length c5) w0 i wr) (fun i _ => n - (intOf i).toNat)
  case atStart => exact ⟨0, [], .slice none 0 0, by omega, rfl, rfl, fun j hj => by omega, World.ownsRow_nil _ _ _ _, (fun u hu => by cases hu), hO6, hbx6, hB6⟩
  case round =>
    clear hO6 hbx6 hB6
    obtain ⟨q, us, vX, hq, rfl, hul, hs, hO, hV, hK', hbr, hBr⟩ := hrel
    have hul' : Hid (us.length = q) := hul
    have r0 : wr.cell? ⟨w.heap.size, 0, none⟩ = some (.slice x n c) := (box_cells ((hBr.block _ (by omega)).trans hb0)).1 0
    by_cases hlt : q < n
    · have hlt' : Hid (q < n) := hlt
      obtain ⟨f1, f2, f3, f4⟩ := hfew q hlt
      have hvp := (hp0.later hBr).vps q hlt
      have hfv := fun W (hW : Below wr.heap.size wr W) => ownVpc_any (vnAt vs q).id (vnAt vs q).rx (vnAt vs q).rn (vnAt vs q).rc (vnAt vs q).rs (vnAt vs q).sx (vnAt vs q).sn (vnAt vs q).sc (vnAt vs q).ss W (hvp.2.2.2.later hW) f1 f2 f3 f4
      have hrsl : Hid ((vnAt vs q).rs.length = (vnAt vs q).rn ∧ (vnAt vs q).ss.length = (vnAt vs q).sn) := ⟨hvp.2.2.2.ranges.len, hvp.2.2.2.subs.len⟩
      obtain ⟨bx, ox, hxo, d0, d1, d2⟩ := (hp0.later hBr).cells q hlt
      subst hxo
      have hlx : Hid (us.length ≤ 64) := by show _ ≤ _; omega
      clear f1 f2 f3 f4 hul
      have a0 := Ws.here r0
      have a1 := Ws.here d0
      have a2 := Ws.here d1
      have a3 := Ws.here d2
      have a4 : ∀ u : Ws wr.heap.size wr, u.val.cell? ⟨ob, 0, none⟩ = some vX := Ws.here ((box_cells hbr).1 0)
      go_upto_region 5 with fail
      clear r0 d0 d1 d2
      have hbd : Below wr.heap.size wr wr.drew := (Below.refl _ _).drew
      refine wp_region_V (fun w' => ∃ u : Ws wr.heap.size wr, w' = u.val) (fun j => decide (j < 9)) 12 _ (by kernel_rfl) rfl rfl ?_
      refine wpV_takes 5 [0, 1, 2, 3, 4, 5, 6] rfl _ rfl (by kernel_rfl) (fun d _ _ _ _ h => by cases d <;> exact h) ⟨⟨_, hbd⟩, rfl⟩ ?_
      simp only [List.map_cons, List.map_nil, List.getD_cons_zero, List.getD_cons_succ]
      repeat (go_big_quiet_step (fail))
      refine wpQuiet_nil ?_
      clear a0 a1 a2 a3 a4
      refine wpV_one 7 _ _ (by kernel_rfl) (by kernel_rfl) rfl rfl ?_
      intro K hK
      simp only [List.getD_cons_zero, List.getD_cons_succ]
      go_wp2_with fail
      refine (hfv wr.drew hbd).mono ?_
      rintro e w1 ⟨vR, vS, ts, rfl, hOR, hss, hOS, hb1⟩
      have hB1 : Below wr.heap.size wr w1 := ⟨hb1.os, hb1.tape, hb1.output, hb1.size, hb1.block⟩
      obtain ⟨x1, c1, hv1, -⟩ := hOR.rs
      obtain ⟨x2, c2, hv2, -⟩ := hOS.subs
      subst hv1
      subst hv2
      go_wp2_with fail
      refine wildK_normal (hK.out _ _ ⟨⟨_, hB1⟩, rfl⟩ ?_)
      clear hK K hfv
      refine wpV_one 8 _ _ (by kernel_rfl) (by kernel_rfl) rfl rfl ?_
      intro K hK
      simp only [List.getD_cons_zero, List.getD_cons_succ]
      go_wp2_with fail
      have hB2 : Below wr.heap.size wr (w1.alloc (.cells #[.int .i64 (vnAt vs q).id, .slice x1 (vnAt vs q).rs.length c1, .slice x2 ts.length c2] 52)) := hB1.trans ((bl1 w1 _).mono hB1.size)
      refine wildK_normal (hK.out _ _ ⟨⟨_, hB2⟩, rfl⟩ ?_)
      clear hK K
      refine wpV_tail [9, 10, 11] rfl (by kernel_rfl) ?_
      simp only [List.map_cons, List.map_nil, List.getD_cons_zero, List.getD_cons_succ]
      have hsz2 : w0.heap.size ≤ wr.heap.size := hBr.size
      refine wpList_append_V rfl _ _ rfl w0.heap.size vX us rfl (hO.later hB2) ⟨w1.heap.size, 0, none⟩ 1 1 [⟨(vnAt vs q).id, x1, (vnAt vs q).rs.length, c1, (vnAt vs q).rs, x2, ts.length, c2, ts⟩] rfl rfl (vns_cells w1 ⟨(vnAt vs q).id, x1, (vnAt vs q).rs.length, c1, (vnAt vs q).rs, x2, ts.length, c2, ts⟩) (by have := hlx.out; omega) (Nat.le_trans hsz2 hB2.size) ?_
      intro v9 w9 hO9 hg9
      obtain ⟨w3, hw3⟩ : ∃ w3, w3 = w1.alloc (.cells #[.int .i64 (vnAt vs q).id, .slice x1 (vnAt vs q).rs.length c1, .slice x2 ts.length c2] 52) := ⟨_, rfl⟩
      have h13 : Below w1.heap.size w1 w3 := by rw [hw3]; exact bl1 w1 _
      rw [← hw3] at hB2 hg9
      clear hw3
      obtain ⟨u, hu⟩ : ∃ u : Vn, u = ⟨(vnAt vs q).id, x1, (vnAt vs q).rs.length, c1, (vnAt vs q).rs, x2, ts.length, c2, ts⟩ := ⟨_, rfl⟩
      rw [← hu] at hO9
      have hVu : Von w3 w0.heap.size u := by
        rw [hu]
        exact (Von.low (v := ⟨(vnAt vs q).id, x1, (vnAt vs q).rs.length, c1, (vnAt vs q).rs, x2, ts.length, c2, ts⟩) ⟨hOR, hOS⟩ hBr.size).later h13
      have hsu : sameV (vnAt vs q) u := by
        rw [hu]
        exact ⟨rfl, hrsl.out.1.symm, rfl, by rw [← hrsl.out.2]; exact hss.1, hss⟩
      have hO3 := hO.later hB2
      have hV9 : ∀ v ∈ us ++ [u], Von w9 w0.heap.size v := fun v hv => by
        rcases List.mem_append.1 hv with h | h
        · exact ((hV v h).later hB2).grownV hO3 hg9
        · obtain rfl : v = u := by simpa using h
          exact hVu.grownV hO3 hg9
      have hK9 := (hK'.later hB2).grownV hO3 hg9
      have hbr3 := heap_later hB2 hbr
      have hbr9 := grown_keep hg9 (hO3.ne hbr3 (by decide)) hbr3
      have hB9 : Below w0.heap.size w0 w9 := below_grownr (hBr.trans (hB2.mono hBr.size)) hg9 (fun k e => (hO3.lt k e).1)
      obtain ⟨x9, c9, hv9, -⟩ := hO9.mem
      subst hv9
      have hl9 : Hid ((us ++ [u]).length = q + 1) := by show _ = _; have := hul'.out; simp; omega
      have hfin : Hid (OnMid vs ls n ob (.slice x5 ls.length c5) w0 (.int .i64 ((q : Int) + 1)) (w9.setCell ⟨ob, 0, none⟩ (.slice x9 (us ++ [u]).length c9))) := by
        refine ⟨q + 1, us ++ [u], .slice x9 (us ++ [u]).length c9, hlt'.out, by simp, hl9.out, fun j hj => ?_, hO9.putBox hbr9 (by decide), fun v hv => (hV9 v hv).putBox hbr9 (by decide) (by decide) (by decide) (by decide), hK9.putBox hbr9 (by decide), ?_, hB9.setCell (p := ⟨ob, 0, none⟩) hos.out _⟩
        · have e : vnAt (us ++ [u]) j = if j < q then vnAt us j else u := by
            unfold vnAt
            rw [List.getD_eq_getElem?_getD]
            by_cases h : j < q
            · rw [if_pos h, List.getElem?_append_left (by rw [hul'.out]; exact h), List.getD_eq_getElem?_getD]
            · rw [if_neg h, List.getElem?_append_right (by rw [hul'.out]; omega), hul'.out, show j - q = 0 by omega]
              rfl
          rw [e]
          by_cases h : j < q
          · rw [if_pos h]; exact hs j h
          · rw [if_neg h]
            obtain rfl : j = q := by omega
            exact hsu
        · simpa using heap_setCell_same w9 ob 0 _ _ (.slice x9 (us ++ [u]).length c9) hbr9
      have m0 : w9.cell? ⟨ob, 0, none⟩ = some vX := (box_cells hbr9).1 0
      have mz := (box_cells hbr9).2 0
      clear hO9 hV9 hK9 hbr9 hB9 hO3 hVu hsu hu
      generalize (us ++ [u]).length = N9 at *
      go_wp2
      go_roundw
      case rel => exact hfin.out
      case measure => simp [intOf]; have := hlt'.out; omega
    · obtain rfl : n = q := by omega
      have hrr : wr.heap[w.heap.size + 1]? = some (netB (.slice none 0 0) (.slice none 0 0)) := (hBr.block _ hsz).trans hr0
      obtain ⟨xv, cv, hvX, -⟩ := hO.mem
      subst hvX
      have e0 : wr.cell? ⟨ob, 0, none⟩ = some (.slice xv us.length cv) := (box_cells hbr).1 0
      have e1 : wr.cell? ⟨ob, 1, none⟩ = some (.slice x5 ls.length c5) := (box_cells hbr).1 1
      have s0 : wr.cell? ⟨w.heap.size + 1, 0, none⟩ = some (.slice none 0 0) := (box_cells hrr).1 0
      have s1 : wr.cell? ⟨w.heap.size + 1, 1, none⟩ = some (.slice none 0 0) := (box_cells hrr).1 1
      have z0 := (box_cells hrr).2 0
      have z1 := (box_cells hrr).2 1
      clear hul
      go_wp2
      refine bodyPost_ret (v := .agg #[.slice xv us.length cv, .slice x5 ls.length c5]) (by simp [results, Tryz.results35, go_sem, s0, s1]) rfl ?_
      exact ⟨_, _, us, rfl, ⟨hvl.out.trans hul'.out.symm, fun i hi => hs i (by rw [← hvl.out]; exact hi)⟩, ((hO.put hsz).put hsz).low hB0.size, fun i hi => (((hV _ (vnAt_get' hi)).put hsz).put hsz).low hB0.size, ((hK'.put hsz).put hsz).low hB0.size, ((hB0.trans (hBr.mono hB0.size)).setCell (by simp) _).setCell (by simp) _⟩
end Go.Proofs.YtlalgkjollgcbaaGreat
/- PartNet of the reference. -/
namespace Go.Proofs.YtlalgkjollgcbaaGreat
open Go.RowKit Go.Shelf

theorem checkNetP_is (x : Option Addr) (n c : Nat) (vs : List Vn) (lx : Option Addr) (ln lc : Nat) (ls : List (Int × Int)) (t : Int) (h : chkN n vs ln ls = t) (w : World) (hp : VS w x n vs) (hn : n ≤ 9223372036854775807) (hl : PS w lx ln ls) (hln : ln ≤ 9223372036854775807) :
    Calls Tryz.prog 9 #[.agg #[.slice x n c, .slice lx ln lc]] w fun e w' => e = .returned (.int .i64 t) ∧ Below w.heap.size w w' := by
  subst h
  exact checkNet_any x n c vs lx ln lc ls w hp hn hl hln
theorem OwnK.kind {w : World} {base g : Nat} {v : Value} {fs : List (Int × Int)} (h : OwnK w base v fs) (hv : v.ownBlock = some g) : ∃ cur, w.heap[g]? = some (.cells cur 63) := by
  rcases h.2 with ⟨rfl, -⟩ | ⟨g', cap, cur, rfl, -, h3, -⟩
  · simp [Value.ownBlock] at hv
  · simp only [Value.ownBlock, Option.some.injEq] at hv
    subst hv
    exact ⟨cur, h3⟩
/-- What grows in a row of links leaves networks of the call's own as they are. -/
theorem Von.grownK {w w' : World} {base b : Nat} {v : Vn} {vX : Value} {fs : List (Int × Int)} (h : Von w base v) (hO : OwnK w b vX fs) (hg : w.grownBy w' vX.ownBlock) : Von w' base v := by
  cases hv : vX.ownBlock with
  | none => rw [hv] at hg; exact h.later (grown_none hg)
  | some g =>
    rw [hv] at hg
    obtain ⟨cur, hc⟩ := hO.kind hv
    exact h.grown hg hc (by decide) (by decide) (by decide) (by decide)
theorem OwnV.grownK {w w' : World} {base b : Nat} {v : Value} {us : List Vn} {vX : Value} {fs : List (Int × Int)} (h : OwnV w base v us) (hO : OwnK w b vX fs) (hg : w.grownBy w' vX.ownBlock) : OwnV w' base v us := by
  cases hv : vX.ownBlock with
  | none => rw [hv] at hg; exact h.later (grown_none hg)
  | some g =>
    rw [hv] at hg
    obtain ⟨cur, hc⟩ := hO.kind hv
    exact h.kept hg (fun k hk e => by subst e; exact h.ne hc (by decide) hk)
/-- A net that is being made: its row of links grows in blocks from b5 on. -/
structure PnW (w W : World) (x : Option Addr) (n c : Nat) (lx : Option Addr) (ln lc : Nat) (ob b5 bc : Nat) (X : Option Addr) (C : Nat) (us : List Vn) (vL : Value) (qs : List (Int × Int)) : Prop where
  tm : TM w W x n c lx ln lc
  box : W.heap[ob]? = some (netB (.slice X us.length C) vL)
  row : OwnK W b5 vL qs
  all : OwnV W bc (.slice X us.length C) us
  von : ∀ u ∈ us, Von W bc u
  wo : w.heap.size + 1 < ob
  wc : w.heap.size + 1 < b5
  big : b5 ≤ W.heap.size
theorem PnW.later {w W W' : World} {x : Option Addr} {n c : Nat} {lx : Option Addr} {ln lc : Nat} {ob b5 bc : Nat} {X : Option Addr} {C : Nat} {us : List Vn} {vL : Value} {qs : List (Int × Int)} (h : PnW w W x n c lx ln lc ob b5 bc X C us vL qs) (hb : Below W.heap.size W W') : PnW w W' x n c lx ln lc ob b5 bc X C us vL qs :=
  ⟨h.tm.later hb, heap_later hb h.box, h.row.later hb, h.all.later hb, fun u hu => (h.von u hu).later hb, h.wo, h.wc, Nat.le_trans h.big hb.size⟩
theorem PnW.step {w W W9 : World} {x : Option Addr} {n c : Nat} {lx : Option Addr} {ln lc : Nat} {ob b5 bc : Nat} {X : Option Addr} {C : Nat} {us : List Vn} {vL v9 : Value} {qs ps : List (Int × Int)} (h : PnW w W x n c lx ln lc ob b5 bc X C us vL qs) (hO : OwnK W9 b5 v9 ps) (hg : W.grownBy W9 vL.ownBlock) :
    PnW w (W9.setCell ⟨ob, 1, none⟩ v9) x n c lx ln lc ob b5 bc X C us v9 ps ∧ W9.heap[ob]? = some (netB (.slice X us.length C) vL) := by
  have k1 := grown_keep hg (h.row.ne h.tm.hb (by decide)) h.tm.hb
  have k2 := grown_keep hg (h.row.ne h.tm.hs (by decide)) h.tm.hs
  have k3 := grown_keep hg (h.row.ne h.box (by decide)) h.box
  have hB : Below w.heap.size w W9 := below_grownr h.tm.below hg (fun k e => by have := (h.row.lt k e).1; have := h.wc; omega)
  refine ⟨⟨⟨(heap_setCell_other _ _ _ _ (by have := h.wo; show w.heap.size ≠ ob; omega)).trans k1, (heap_setCell_other _ _ _ _ (by have := h.wo; show w.heap.size + 1 ≠ ob; omega)).trans k2, hB.setCell (p := ⟨ob, 1, none⟩) (by have := h.wo; show w.heap.size ≤ ob; omega) _⟩, ?_, hO.putBox k3 (by decide), (h.all.grownK h.row hg).putBox k3 (by decide), fun u hu => ((h.von u hu).grownK h.row hg).putBox k3 (by decide) (by decide) (by decide) (by decide), h.wo, h.wc, by simpa using Nat.le_trans h.big hg.size⟩, k3⟩
  simpa using heap_setCell_same W9 ob 1 _ _ v9 k3
theorem lks_cells (W : World) (e : Int × Int) : ∀ j u, (flatK [e])[j]? = some u → (W.alloc (.cells #[.int .i64 e.1, .int .i64 e.2] 63)).cell? (Addr.add ⟨W.heap.size, 0, none⟩ j) = some u := fun j u hj => by
  rw [addr_add, Nat.zero_add]
  exact ((box_cells (heap_new (W := W) (.cells #[.int .i64 e.1, .int .i64 e.2] 63) rfl)).1 j).trans (by rw [List.getElem?_toArray]; exact hj)
/-- The links but that one. -/
def delLk (p : Int × Int) (ls : List (Int × Int)) : List (Int × Int) := ls.filter fun q => !(decide (q.1 = p.1) && decide (q.2 = p.2))
theorem delLk_take {p : Int × Int} {ls : List (Int × Int)} {k : Nat} (h : k < ls.length) : delLk p (ls.take (k + 1)) = delLk p (ls.take k) ++ (if (decide ((lkAt ls k).1 = p.1) && decide ((lkAt ls k).2 = p.2)) = true then [] else [lkAt ls k]) := by
  have e : lkAt ls k = ls[k] := by unfold lkAt; rw [List.getD_eq_getElem?_getD, List.getElem?_eq_getElem h]; rfl
  unfold delLk
  rw [List.take_add_one, List.getElem?_eq_getElem h, Option.toList_some, List.filter_append, e]
  by_cases hc : (decide (ls[k].1 = p.1) && decide (ls[k].2 = p.2)) = true
  · rw [if_pos hc, List.filter_cons_of_neg (by rw [hc]; decide), List.filter_nil]
  · have hc' := Bool.eq_false_iff.2 hc
    rw [if_neg hc, List.filter_cons_of_pos (by rw [hc']; rfl), List.filter_nil]
def PartQ (vs : List Vn) (ls : List (Int × Int)) (a b : Int) (us : List Vn) (ms : List (Int × Int)) : Prop := sameVs vs us ∧ ms = delLk (min a b, max a b) ls
def PnMid (w : World) (x : Option Addr) (n c : Nat) (lx : Option Addr) (ln lc : Nat) (ob b5 bc : Nat) (X : Option Addr) (C : Nat) (us : List Vn) (ls : List (Int × Int)) (p : Int × Int) (i : Value) (wr : World) : Prop :=
  ∃ (k : Nat) (vL : Value), k ≤ ln ∧ i = .int .i64 k ∧ PnW w wr x n c lx ln lc ob b5 bc X C us vL (delLk p (ls.take k))

set_option maxRecDepth 100000 in
set_option maxHeartbeats 6400000 in
theorem partNet_any (x : Option Addr) (n c : Nat) (vs : List Vn) (lx : Option Addr) (ln lc : Nat) (ls : List (Int × Int)) (a b : Int) (w : World) (hp : VS w x n vs) (hn : n ≤ 9223372036854775807) (hl : PS w lx ln ls) (hln : ln ≤ 9223372036854775807) :
    Calls Tryz.prog 21 #[.agg #[.slice x n c, .slice lx ln lc], .int .i64 a, .int .i64 b] w (NPost (partE n vs ln ls a b) (PartQ vs ls a b) w) := by
  have hvl : Hid (vs.length = n) := hp.len
  have hll : Hid (ls.length = ln) := hl.len
  have hE : Hid (partE n vs ln ls a b = if chkN n vs ln ls = 0 then (if jnB ln ls a b = true then 0 else 5) else chkN n vs ln ls) := rfl
  go_enter Tryz.func21, Tryz.ntmps21
  go_upto_region 1 with fail
  obtain ⟨w0, hw0⟩ : ∃ w0, w0 = (w.alloc (netO x n c lx ln lc)).alloc (netB (.slice none 0 0) (.slice none 0 0)) := ⟨_, rfl⟩
  rw [← hw0]
  have hT0 : TM w w0 x n c lx ln lc := by
    rw [hw0]
    exact ⟨heap_old _ (heap_new _ rfl), heap_new _ (by simp), bl2 w _ _⟩
  clear hw0
  have k0 : w0.cell? ⟨w.heap.size, 0, none⟩ = some (.slice x n c) := (box_cells hT0.hb).1 0
  have k1 : w0.cell? ⟨w.heap.size, 1, none⟩ = some (.slice lx ln lc) := (box_cells hT0.hb).1 1
  have ks0 : w0.cell? ⟨w.heap.size + 1, 0, none⟩ = some (.slice none 0 0) := (box_cells hT0.hs).1 0
  have ks1 : w0.cell? ⟨w.heap.size + 1, 1, none⟩ = some (.slice none 0 0) := (box_cells hT0.hs).1 1
  have kz0 := (box_cells hT0.hs).2 0
  have kz1 := (box_cells hT0.hs).2 1
  by_cases hc0 : chkN n vs ln ls = 0
  · have hck := checkNetP_is x n c vs lx ln lc ls 0 hc0 w0 (hp.later hT0.below) hn (hl.later hT0.below) hln
    obtain ⟨h6, h12, hfew⟩ := few_of hc0
    have hE1 : Hid (partE n vs ln ls a b = if jnB ln ls a b = true then 0 else 5) := hE.out.trans (if_pos hc0)
    clear hc0 hE
    go_wp2_with fail
    refine hck.mono ?_
    rintro e w1 ⟨rfl, hb⟩
    have hT1 := hT0.later hb
    clear k0 k1 ks0 ks1 kz0 kz1
    have k0 : w1.cell? ⟨w.heap.size, 0, none⟩ = some (.slice x n c) := (box_cells hT1.hb).1 0
    have k1 : w1.cell? ⟨w.heap.size, 1, none⟩ = some (.slice lx ln lc) := (box_cells hT1.hb).1 1
    have ks0 : w1.cell? ⟨w.heap.size + 1, 0, none⟩ = some (.slice none 0 0) := (box_cells hT1.hs).1 0
    have ks1 : w1.cell? ⟨w.heap.size + 1, 1, none⟩ = some (.slice none 0 0) := (box_cells hT1.hs).1 1
    have kz0 := (box_cells hT1.hs).2 0
    have kz1 := (box_cells hT1.hs).2 1
    clear hck
    cases hj : jnB ln ls a b with
    | false =>
      have hlk := linked_is x n c lx ln lc ls a b false hj w1 (hl.later hT1.below) (by omega)
      have hE2 : Hid (partE n vs ln ls a b = 5 ∧ (5 : Int) ≠ 0) := ⟨hE1.out.trans (if_neg (by rw [hj]; decide)), by decide⟩
      clear hj hE1
      go_wp2_with fail
      refine hlk.mono ?_
      rintro e w2 ⟨rfl, hb⟩
      have hT2 := hT1.later hb
      clear k0 k1 ks0 ks1 kz0 kz1
      have k0 : w2.cell? ⟨w.heap.size, 0, none⟩ = some (.slice x n c) := (box_cells hT2.hb).1 0
      have k1 : w2.cell? ⟨w.heap.size, 1, none⟩ = some (.slice lx ln lc) := (box_cells hT2.hb).1 1
      have ks0 : w2.cell? ⟨w.heap.size + 1, 0, none⟩ = some (.slice none 0 0) := (box_cells hT2.hs).1 0
      have ks1 : w2.cell? ⟨w.heap.size + 1, 1, none⟩ = some (.slice none 0 0) := (box_cells hT2.hs).1 1
      have kz0 := (box_cells hT2.hs).2 0
      have kz1 := (box_cells hT2.hs).2 1
      clear hlk
      go_wp2
      refine bodyPost_ret (v := .tuple #[.agg #[.slice none 0 0, .slice none 0 0], .int .i64 5]) (by simp [results, Tryz.results21, go_sem, ks0, ks1]) rfl ?_
      exact NPost.err hE2.out ((hT2.below.setCell (p := ⟨w.heap.size + 1, 0, none⟩) (Nat.le_add_right _ _) _).setCell (p := ⟨w.heap.size + 1, 1, none⟩) (Nat.le_add_right _ _) _)
    | true =>
      have hlk := linked_is x n c lx ln lc ls a b true hj w1 (hl.later hT1.below) (by omega)
      have hE3 : Hid (partE n vs ln ls a b = 0) := hE1.out.trans (if_pos hj)
      clear hj hE1
      go_wp2_with fail
      refine hlk.mono ?_
      rintro e w3 ⟨rfl, hb⟩
      have hT3 := hT1.later hb
      clear k0 k1 ks0 ks1 kz0 kz1
      have k0 : w3.cell? ⟨w.heap.size, 0, none⟩ = some (.slice x n c) := (box_cells hT3.hb).1 0
      have k1 : w3.cell? ⟨w.heap.size, 1, none⟩ = some (.slice lx ln lc) := (box_cells hT3.hb).1 1
      have ks0 : w3.cell? ⟨w.heap.size + 1, 0, none⟩ = some (.slice none 0 0) := (box_cells hT3.hs).1 0
      have ks1 : w3.cell? ⟨w.heap.size + 1, 1, none⟩ = some (.slice none 0 0) := (box_cells hT3.hs).1 1
      have kz0 := (box_cells hT3.hs).2 0
      have kz1 := (box_cells hT3.hs).2 1
      clear hlk
      have hfn := ownNet_any x n c vs lx ln lc ls w3 (hp.later hT3.below) (by omega) (hl.later hT3.below) (by omega) hfew
      go_wp2_with fail
      refine hfn.mono ?_
      rintro e w4 ⟨vV, vK, us, rfl, hsv, hOV, hVo, hOK, hb4⟩
      have hT4 := hT3.later hb4
      clear hfn
      obtain ⟨X, C, hvV, hXm⟩ := hOV.mem
      obtain ⟨Y, D, hvK, hPS4, -, -, -⟩ := hOK.ps
      subst hvV
      subst hvK
      have hw3s : Hid (w.heap.size + 1 < w3.heap.size) := (Array.getElem?_eq_some_iff.1 hT3.hs).1
      clear k0 k1 ks0 ks1 kz0 kz1
      go_upto_region 7 with fail
      obtain ⟨w5, hw5⟩ : ∃ w5, w5 = w4.alloc (netB (.slice X us.length C) (.slice Y ls.length D)) := ⟨_, rfl⟩
      rw [← hw5]
      have hb5 : Below w4.heap.size w4 w5 := by rw [hw5]; exact bl1 w4 _
      have hbx5 : w5.heap[w4.heap.size]? = some (netB (.slice X us.length C) (.slice Y ls.length D)) := by rw [hw5]; exact heap_new _ rfl
      clear hw5
      have m1 : w5.cell? ⟨w4.heap.size, 1, none⟩ = some (.slice Y ls.length D) := (box_cells hbx5).1 1
      have mz := (box_cells hbx5).2 1
      have h45 : w4.heap.size < w5.heap.size := (Array.getElem?_eq_some_iff.1 hbx5).1
      have hT5 := hT4.later hb5
      have hne0 : w.heap.size ≠ w4.heap.size := by have := hw3s.out; have := hb4.size; omega
      have hne1 : w.heap.size + 1 ≠ w4.heap.size := by have := hw3s.out; have := hb4.size; omega
      have hM6 : PnW w (w5.setCell ⟨w4.heap.size, 1, none⟩ (.slice none 0 0)) x n c lx ln lc w4.heap.size w5.heap.size w3.heap.size X C us (.slice none 0 0) [] :=
        ⟨⟨(heap_setCell_other _ _ _ _ hne0).trans hT5.hb, (heap_setCell_other _ _ _ _ hne1).trans hT5.hs, hT5.below.setCell (p := ⟨w4.heap.size, 1, none⟩) (by show w.heap.size ≤ w4.heap.size; have := hw3s.out; have := hb4.size; omega) _⟩, by simpa using heap_setCell_same w5 w4.heap.size 1 _ _ (.slice none 0 0) hbx5, World.ownsRow_nil _ _ _ _, (hOV.later hb5).putBox hbx5 (by decide), fun u hu => by
          obtain ⟨i, hi, rfl⟩ := mem_vnAt hu
          exact ((hVo i hi).later hb5).putBox hbx5 (by decide) (by decide) (by decide) (by decide), by have := hw3s.out; have := hb4.size; omega, by have := hw3s.out; have := hb4.size; omega, by simp⟩
      clear hT4 hT5 hne0 hne1 hOV hVo hOK hPS4 hXm
      go_upto_region 8 with fail
      obtain ⟨w6, hw6⟩ : ∃ w6, w6 = w5.setCell ⟨w4.heap.size, 1, none⟩ (.slice none 0 0) := ⟨_, rfl⟩
      rw [← hw6] at hM6 ⊢
      clear hw6 m1 mz hbx5
      have hw34 : w3.heap.size ≤ w4.heap.size := hb4.size
      go_wp2
      go_loopw [10] (fun i wr => PnMid w x n c lx ln lc w4.heap.size w5.heap.size w3.heap.size X C us ls (min a b, max a b) i wr) (fun i _ => ln - (intOf i).toNat)
      case atStart => exact ⟨0, _, Nat.zero_le _, rfl, hM6⟩
      case round =>
        clear hM6
        obtain ⟨k, vL, hk, rfl, hM⟩ := hrel
        have hqlen : Hid ((delLk (min a b, max a b) (ls.take k)).length ≤ 12) := by
          show _ ≤ _
          have h1 := List.length_filter_le (fun q : Int × Int => !(decide (q.1 = (min a b)) && decide (q.2 = (max a b)))) (ls.take k)
          have h2 : (ls.take k).length ≤ 12 := by rw [List.length_take]; have := hll.out; omega
          exact Nat.le_trans h1 h2
        have r1 : wr.cell? ⟨w.heap.size, 1, none⟩ = some (.slice lx ln lc) := (box_cells hM.tm.hb).1 1
        by_cases hlt : k < ln
        · have hlt' : Hid (k < ln) := hlt
          have hst : Hid (delLk (min a b, max a b) (ls.take (k + 1)) = delLk (min a b, max a b) (ls.take k) ++ (if (decide ((lkAt ls k).1 = (min a b)) && decide ((lkAt ls k).2 = (max a b))) = true then [] else [lkAt ls k])) := delLk_take (by rw [hll.out]; exact hlt)
          obtain ⟨bx, ox, hxo, c0, c1⟩ := (hl.later hM.tm.below).cells k hlt
          have c0' : wr.cell? ⟨bx, ox + k * 2, none⟩ = some (.int .i64 (lkAt ls k).1) := c0
          have c1' : wr.cell? ⟨bx, ox + k * 2 + 1, none⟩ = some (.int .i64 (lkAt ls k).2) := c1
          clear c0 c1
          subst hxo
          generalize hqk : lkAt ls k = qk at *
          obtain ⟨cc, hcc⟩ : ∃ cc, Hid ((decide (qk.1 = (min a b)) && decide (qk.2 = (max a b))) = cc) := ⟨_, rfl⟩
          rw [hcc.out] at hst
          go_upto_region 11 with fail
          go_cut [45] (fun v wc => v = .bool (!cc) ∧ wc = wr)
          case first =>
            by_cases e1 : qk.1 = min a b
            · by_cases e2 : qk.2 = max a b
              · have hcf : Hid (cc = true) := by show _ = _; rw [← hcc.out]; simp [e1, e2]
                rw [e1] at c0'
                rw [e2] at c1'
                go_wp2
                go_meet
                case rel => exact ⟨by rw [hcf.out]; rfl, rfl⟩
              · have hcf : Hid (cc = false) := by show _ = _; rw [← hcc.out]; simp [e2]
                rw [e1] at c0'
                go_wp2
                go_meet
                case rel => exact ⟨by rw [hcf.out]; rfl, rfl⟩
            · have hcf : Hid (cc = false) := by show _ = _; rw [← hcc.out]; simp [e1]
              go_wp2
              go_meet
              case rel => exact ⟨by rw [hcf.out]; rfl, rfl⟩
          case rest =>
          obtain ⟨rfl, hwc⟩ := hcut
          subst hwc
          cases cc with
          | true =>
            rw [if_pos rfl, List.append_nil] at hst
            clear c0' c1' r1 hcc
            simp only [Bool.not_true]
            go_wp2
            go_roundw
            case rel => exact ⟨k + 1, vL, hlt'.out, by go_num, by rw [hst.out]; exact hM⟩
            case measure => simp [intOf]; have := hlt'.out; omega
          | false =>
            rw [if_neg (by decide)] at hst
            clear hcc
            simp only [Bool.not_false]
            have a0 : ∀ u : Ws wc.heap.size wc, u.val.cell? ⟨w4.heap.size, 1, none⟩ = some vL := Ws.here ((box_cells hM.box).1 1)
            have a1 := Ws.here r1
            have a2 := Ws.here c0'
            have a3 := Ws.here c1'
            go_upto_region 12 with fail
            clear c0' c1' r1
            have hbd : Below wc.heap.size wc wc.drew := (Below.refl _ _).drew
            refine wp_region_V (fun w' => ∃ u : Ws wc.heap.size wc, w' = u.val) (fun j => decide (j < 8)) 11 _ (by kernel_rfl) rfl rfl ?_
            refine wpV_takes 4 [0, 1, 2, 3, 4, 5, 6] rfl _ rfl (by kernel_rfl) (fun d _ _ _ _ h => by cases d <;> exact h) ⟨⟨_, hbd⟩, rfl⟩ ?_
            simp only [List.map_cons, List.map_nil, List.getD_cons_zero, List.getD_cons_succ]
            repeat (go_big_quiet_step (fail))
            refine wpQuiet_nil ?_
            clear a0 a1 a2 a3
            refine wpV_one 7 _ _ (by kernel_rfl) (by kernel_rfl) rfl rfl ?_
            intro K hK
            simp only [List.getD_cons_zero, List.getD_cons_succ]
            go_wp2_with fail
            have hba : Below wc.heap.size wc (wc.alloc (.cells #[.int .i64 qk.1, .int .i64 qk.2] 63)).drew := (bl1 wc _).drew
            refine wildK_normal (hK.out _ _ ⟨⟨_, hba⟩, rfl⟩ ?_)
            clear hK K
            have hMa := hM.later hba
            refine wpV_tail [8, 9, 10] rfl (by kernel_rfl) ?_
            simp only [List.map_cons, List.map_nil, List.getD_cons_zero, List.getD_cons_succ]
            refine wpList_append_K rfl _ _ rfl w5.heap.size vL _ rfl hMa.row ⟨wc.heap.size, 0, none⟩ 1 1 [qk] rfl rfl (lks_cells wc qk) (by have := hqlen.out; omega) hMa.big ?_
            intro v9 w9 hO9 hg9
            obtain ⟨x9, c9, hv9, -⟩ := hO9.mem
            subst hv9
            obtain ⟨hM9, hbx9⟩ := hMa.step hO9 hg9
            have o1' : w9.cell? ⟨w4.heap.size, 1, none⟩ = some vL := (box_cells hbx9).1 1
            have oz1 := (box_cells hbx9).2 1
            clear hg9 hMa hO9
            rw [← hst.out] at hM9 ⊢
            generalize (delLk (min a b, max a b) (ls.take (k + 1))).length = N9 at *
            go_wp2
            go_roundw
            case rel => exact ⟨k + 1, _, hlt'.out, by go_num, hM9⟩
            case measure => simp [intOf]; have := hlt'.out; omega
        · obtain rfl : ln = k := by omega
          have e : ls.take ln = ls := by rw [← hll.out, List.take_length]
          rw [e] at hM
          obtain ⟨ms, hms⟩ : ∃ ms, ms = delLk (min a b, max a b) ls := ⟨_, rfl⟩
          rw [← hms] at hM
          have hR : Hid (PartQ vs ls a b us ms) := ⟨hsv, hms⟩
          clear hms e hqlen
          obtain ⟨xv, cv, hvX, -⟩ := hM.row.mem
          subst hvX
          have g0 : wr.cell? ⟨w4.heap.size, 0, none⟩ = some (.slice X us.length C) := (box_cells hM.box).1 0
          have g1 : wr.cell? ⟨w4.heap.size, 1, none⟩ = some (.slice xv ms.length cv) := (box_cells hM.box).1 1
          clear r1
          have k0 : wr.cell? ⟨w.heap.size, 0, none⟩ = some (.slice x n c) := (box_cells hM.tm.hb).1 0
          have k1 : wr.cell? ⟨w.heap.size, 1, none⟩ = some (.slice lx ln lc) := (box_cells hM.tm.hb).1 1
          have ks0 : wr.cell? ⟨w.heap.size + 1, 0, none⟩ = some (.slice none 0 0) := (box_cells hM.tm.hs).1 0
          have ks1 : wr.cell? ⟨w.heap.size + 1, 1, none⟩ = some (.slice none 0 0) := (box_cells hM.tm.hs).1 1
          have kz0 := (box_cells hM.tm.hs).2 0
          have kz1 := (box_cells hM.tm.hs).2 1
          go_wp2
          refine bodyPost_ret (v := .tuple #[.agg #[.slice X us.length C, .slice xv ms.length cv], .int .i64 0]) (by simp [results, Tryz.results21, go_sem, ks0, ks1]) rfl ?_
          exact NPost.ok hE3.out ((hM.tm.below.setCell (p := ⟨w.heap.size + 1, 0, none⟩) (Nat.le_add_right _ _) _).setCell (p := ⟨w.heap.size + 1, 1, none⟩) (Nat.le_add_right _ _) _) (us := us) (ms := ms) (NO.of ((hM.all.put hw3s.out).put hw3s.out) (by have := hw3s.out; omega) (b2 := w3.heap.size) (fun u hu => ((hM.von u hu).put hw3s.out).put hw3s.out) (by have := hw3s.out; omega) ((hM.row.put hM.wc).put hM.wc) (by have := hM.wc; omega)) hR.out
  · obtain ⟨t, ht⟩ : ∃ t, chkN n vs ln ls = t := ⟨_, rfl⟩
    have hck := checkNetP_is x n c vs lx ln lc ls t ht w0 (hp.later hT0.below) hn (hl.later hT0.below) hln
    rw [ht] at hc0
    have hE1 : Hid (partE n vs ln ls a b = t ∧ t ≠ 0) := ⟨by rw [hE.out, ht, if_neg hc0], hc0⟩
    have hne : (t != 0) = true := by simpa using hc0
    clear hE ht
    go_wp2_with fail
    refine hck.mono ?_
    rintro e w1 ⟨rfl, hb⟩
    have hT1 := hT0.later hb
    clear k0 k1 ks0 ks1 kz0 kz1
    have k0 : w1.cell? ⟨w.heap.size, 0, none⟩ = some (.slice x n c) := (box_cells hT1.hb).1 0
    have k1 : w1.cell? ⟨w.heap.size, 1, none⟩ = some (.slice lx ln lc) := (box_cells hT1.hb).1 1
    have ks0 : w1.cell? ⟨w.heap.size + 1, 0, none⟩ = some (.slice none 0 0) := (box_cells hT1.hs).1 0
    have ks1 : w1.cell? ⟨w.heap.size + 1, 1, none⟩ = some (.slice none 0 0) := (box_cells hT1.hs).1 1
    have kz0 := (box_cells hT1.hs).2 0
    have kz1 := (box_cells hT1.hs).2 1
    clear hck
    go_wp2
    refine bodyPost_ret (v := .tuple #[.agg #[.slice none 0 0, .slice none 0 0], .int .i64 t]) (by simp [results, Tryz.results21, go_sem, ks0, ks1]) rfl ?_
    exact NPost.err hE1.out ((hT1.below.setCell (p := ⟨w.heap.size + 1, 0, none⟩) (Nat.le_add_right _ _) _).setCell (p := ⟨w.heap.size + 1, 1, none⟩) (Nat.le_add_right _ _) _)
end Go.Proofs.YtlalgkjollgcbaaGreat
/- A join: who comes into one group; links written over in place. -/
namespace Go.Proofs.YtlalgkjollgcbaaGreat
open Go.RowKit Go.Shelf

/-- Who are of one group behind a join. -/
theorem hd_ins {ls : List (Int × Int)} {a b x y : Int} (h : hdOf (insLk (min a b, max a b) ls) x = hdOf (insLk (min a b, max a b) ls) y) : hdOf ls x = hdOf ls y ∨ (hdOf ls x = hdOf ls a ∧ hdOf ls y = hdOf ls b) ∨ (hdOf ls x = hdOf ls b ∧ hdOf ls y = hdOf ls a) := by
  have key : ∀ u v, (hdOf ls x = hdOf ls u ∨ (hdOf ls x = hdOf ls a ∧ hdOf ls u = hdOf ls b) ∨ (hdOf ls x = hdOf ls b ∧ hdOf ls u = hdOf ls a)) → ((u = a ∧ v = b) ∨ (u = b ∧ v = a) ∨ hdOf ls u = hdOf ls v) → (hdOf ls x = hdOf ls v ∨ (hdOf ls x = hdOf ls a ∧ hdOf ls v = hdOf ls b) ∨ (hdOf ls x = hdOf ls b ∧ hdOf ls v = hdOf ls a)) := by
    intro u v hu huv
    rcases huv with ⟨rfl, rfl⟩ | ⟨rfl, rfl⟩ | e
    · rcases hu with h | ⟨h, -⟩ | ⟨h, -⟩
      · exact .inr (.inl ⟨h, rfl⟩)
      · exact .inr (.inl ⟨h, rfl⟩)
      · exact .inl h
    · rcases hu with h | ⟨h, -⟩ | ⟨h, -⟩
      · exact .inr (.inr ⟨h, rfl⟩)
      · exact .inl h
      · exact .inr (.inr ⟨h, rfl⟩)
    · rw [← e]
      exact hu
  have mem : ∀ u v, (u, v) ∈ (insLk (min a b, max a b) ls) → (u = a ∧ v = b) ∨ (u = b ∧ v = a) ∨ hdOf ls u = hdOf ls v := by
    intro u v hm
    rcases ins_mem.1 hm with e | e
    · simp only [Prod.mk.injEq] at e
      rcases Int.le_total a b with hle | hle
      · rw [Int.min_eq_left hle, Int.max_eq_right hle] at e
        exact .inl e
      · rw [Int.min_eq_right hle, Int.max_eq_left hle] at e
        exact .inr (.inl e)
    · exact .inr (.inr (hd_link ls (u, v) e))
  refine hd_con _ x y h (fun y => hdOf ls x = hdOf ls y ∨ (hdOf ls x = hdOf ls a ∧ hdOf ls y = hdOf ls b) ∨ (hdOf ls x = hdOf ls b ∧ hdOf ls y = hdOf ls a)) (.inl rfl) (fun u v hu hm => key u v hu (mem u v hm)) (fun u v hu hm => key u v hu ?_)
  rcases mem v u hm with ⟨h1, h2⟩ | ⟨h1, h2⟩ | h1
  · exact .inr (.inl ⟨h2, h1⟩)
  · exact .inl ⟨h2, h1⟩
  · exact .inr (.inr h1.symm)
theorem hd_more {ls : List (Int × Int)} {p : Int × Int} {x y : Int} (h : hdOf ls x = hdOf ls y) : hdOf (insLk p ls) x = hdOf (insLk p ls) y := con_hd ((hd_con ls x y h).more fun _ hq => ins_mem.2 (.inr hq))
theorem hd_ab (ls : List (Int × Int)) (a b : Int) : hdOf (insLk (min a b, max a b) ls) a = hdOf (insLk (min a b, max a b) ls) b := by
  have hm := hd_link (insLk (min a b, max a b) ls) (min a b, max a b) (ins_mem.2 (.inl rfl))
  generalize (insLk (min a b, max a b) ls) = L at hm ⊢
  simp only at hm
  rcases Int.le_total a b with e | e
  · rwa [Int.min_eq_left e, Int.max_eq_right e] at hm
  · rw [Int.min_eq_right e, Int.max_eq_left e] at hm
    exact hm.symm
theorem busy_bad {ls : List (Int × Int)} {n : Nat} {vs : List Vn} {a b : Int} {i j : Nat} (hi : i < n) (hj : j < n) (hij : i ≠ j) (h1 : hdOf ls (vnAt vs i).id = hdOf ls a) (h2 : hdOf ls (vnAt vs j).id = hdOf ls b) (hm : vmB (vnAt vs i) (vnAt vs j) = true) : apB (insLk (min a b, max a b) ls) n vs = false := by
  cases ha : apB (insLk (min a b, max a b) ls) n vs
  · rfl
  · exfalso
    have hh : hdOf (insLk (min a b, max a b) ls) (vnAt vs i).id = hdOf (insLk (min a b, max a b) ls) (vnAt vs j).id := (hd_more h1).trans ((hd_ab ls a b).trans (hd_more h2).symm)
    rcases Nat.lt_trichotomy i j with hlt | heq | hgt
    · have h3 := ap_at ha hj hlt
      unfold clsh at h3
      rw [hh] at h3
      unfold vmB at hm
      rw [meetB_comm] at hm
      rw [hm] at h3
      simp at h3
    · exact hij heq
    · have h3 := ap_at ha hi hgt
      unfold clsh at h3
      rw [hh] at h3
      unfold vmB at hm
      rw [hm] at h3
      simp at h3
theorem busy_ok {ls : List (Int × Int)} {n : Nat} {vs : List Vn} {a b : Int} (ha : apB ls n vs = true) (h : ∀ i j, i < n → j < n → i ≠ j → hdOf ls (vnAt vs i).id = hdOf ls a → hdOf ls (vnAt vs j).id = hdOf ls b → vmB (vnAt vs i) (vnAt vs j) = false) : apB (insLk (min a b, max a b) ls) n vs = true := by
  unfold apB
  rw [List.all_eq_true]
  intro i hi
  have hi' : i < n := by simpa using hi
  unfold apAt
  rw [List.all_eq_true]
  intro j hj
  have hj' : j < i := by simpa using hj
  rw [Bool.not_eq_true']
  unfold clsh
  rw [Bool.and_eq_false_iff]
  by_cases e : hdOf (insLk (min a b, max a b) ls) (vnAt vs i).id = hdOf (insLk (min a b, max a b) ls) (vnAt vs j).id
  · refine .inr ?_
    rcases hd_ins e with e1 | ⟨e1, e2⟩ | ⟨e1, e2⟩
    · have h3 := ap_at ha hi' hj'
      unfold clsh at h3
      rw [e1] at h3
      simpa using h3
    · exact h i j hi' (by omega) (by omega) e1 e2
    · rw [meetB_comm]
      exact h j i (by omega) hi' (by omega) e2 e1
  · exact .inl (by simpa using e)
/-- The reference's question to a pair of the two groups. -/
def gdB (n : Nat) (vs : List Vn) (ga gb : List Int) (i k : Nat) : Prop := inAt ga i ≠ inAt gb k → vmB (vnAt vs (vplace n vs (inAt ga i)).toNat) (vnAt vs (vplace n vs (inAt gb k)).toNat) = false
theorem grp_ix {ls : List (Int × Int)} {n : Nat} {vs : List Vn} {y : Int} {i : Nat} (hl : vs.length = n) (hi : i < n) (h : hdOf ls (vnAt vs i).id = hdOf ls y) : ∃ k, k < (grpL ls vs y).length ∧ inAt (grpL ls vs y) k = (vnAt vs i).id := by
  have hm : (vnAt vs i).id ∈ grpL ls vs y := grpL_mem.2 ⟨ids_mem (by rw [hl]; exact hi), h⟩
  obtain ⟨k, hk, e⟩ := List.getElem_of_mem hm
  exact ⟨k, hk, by rw [inAt_getN hk, e]⟩
theorem good_all {ls : List (Int × Int)} {n : Nat} {vs : List Vn} {a b : Int} (hl : vs.length = n) (hr : riseVB vs = true) (ha : apB ls n vs = true) (h : ∀ i, i < (grpL ls vs a).length → ∀ k, k < (grpL ls vs b).length → gdB n vs (grpL ls vs a) (grpL ls vs b) i k) : apB (insLk (min a b, max a b) ls) n vs = true := by
  refine busy_ok ha fun i j hi hj hij h1 h2 => ?_
  obtain ⟨p, hp, e1⟩ := grp_ix hl hi h1
  obtain ⟨q, hq, e2⟩ := grp_ix hl hj h2
  have h3 := h p hp q hq
  unfold gdB at h3
  rw [e1, e2, vplace_at hl hr hi, vplace_at hl hr hj, Int.toNat_natCast, Int.toNat_natCast] at h3
  exact h3 fun e => hij (ids_one hl hr i j hi hj e)
theorem lkLt_not {p q : Int × Int} (h : lkLt p q = true) : lkLt q p = false := by
  unfold lkLt at *
  simp only [Bool.or_eq_false_iff, Bool.and_eq_false_iff, decide_eq_false_iff_not, Bool.or_eq_true, Bool.and_eq_true, decide_eq_true_eq] at *
  rcases h with h | ⟨h1, h2⟩
  · exact ⟨by omega, .inl (by omega)⟩
  · exact ⟨by omega, .inr (by omega)⟩
theorem lkLt_trans {p q r : Int × Int} (h : lkLt p q = true) (g : lkLt q r = true) : lkLt p r = true := by
  unfold lkLt at *
  simp only [Bool.or_eq_true, Bool.and_eq_true, decide_eq_true_eq] at *
  omega
theorem riseK_lt {ls : List (Int × Int)} (h : riseLB ls = true) : ∀ (k j : Nat), j < k → k < ls.length → lkLt (lkAt ls j) (lkAt ls k) = true
  | 0, j, hj, _ => by omega
  | k + 1, j, hj, hk => by
    have h1 : lkLt (lkAt ls k) (lkAt ls (k + 1)) = true := by
      rw [← riseL_lt]
      unfold riseLB at h
      exact List.all_eq_true.1 h (k + 1) (by simpa using hk)
    by_cases e : j = k
    · subst e; exact h1
    · exact lkLt_trans (riseK_lt h k j (by omega) (by omega)) h1
/-- Where sorting from the end leaves a new link. -/
theorem ins_end {p : Int × Int} {ls : List (Int × Int)} {k : Nat} (hr : riseLB ls = true) (hk : k ≤ ls.length) (hge : ∀ j, k ≤ j → j < ls.length → lkLt p (lkAt ls j) = true) (hlo : k = 0 ∨ lkLt (lkAt ls (k - 1)) p = true) : insLk p ls = ls.take k ++ [p] ++ ls.drop k := by
  refine ins_at hk (fun j hj => ?_) (fun h => hge k (Nat.le_refl _) h)
  rcases hlo with h | h
  · omega
  · by_cases e : j = k - 1
    · subst e; exact lkLt_not h
    · exact lkLt_not (lkLt_trans (riseK_lt hr (k - 1) j (by omega) (by omega)) h)
theorem lkAt_mem {ls : List (Int × Int)} {k : Nat} (h : k < ls.length) : lkAt ls k ∈ ls := by
  unfold lkAt
  rw [List.getD_eq_getElem?_getD, List.getElem?_eq_getElem h]
  exact List.getElem_mem h
theorem swap_insK {xs : List (Int × Int)} {e : Int × Int} {q : Nat} (hq : q < xs.length) : ((xs.take (q + 1) ++ [e] ++ xs.drop (q + 1)).set q e).set (q + 1) (lkAt xs q) = xs.take q ++ [e] ++ xs.drop q := by
  have hg : lkAt xs q = xs[q] := by unfold lkAt; rw [List.getD_eq_getElem?_getD, List.getElem?_eq_getElem hq]; rfl
  have hx : xs[q]? = some (lkAt xs q) := by rw [hg, List.getElem?_eq_getElem hq]
  have h1 : xs.take (q + 1) = xs.take q ++ [lkAt xs q] := by rw [List.take_add_one, hx]; rfl
  have h2 : xs.drop q = lkAt xs q :: xs.drop (q + 1) := by rw [List.drop_eq_getElem_cons hq, hg]
  have hlen : (xs.take q).length = q := by rw [List.length_take]; omega
  rw [h1, h2]
  have e1 : (xs.take q ++ [lkAt xs q] ++ [e] ++ xs.drop (q + 1)) = xs.take q ++ (lkAt xs q :: e :: xs.drop (q + 1)) := by simp
  rw [e1]
  have e2 : (xs.take q ++ (lkAt xs q :: e :: xs.drop (q + 1))).set q e = xs.take q ++ (e :: e :: xs.drop (q + 1)) := by
    rw [List.set_append_right _ _ (by omega), hlen, Nat.sub_self]
    rfl
  rw [e2, List.set_append_right _ _ (by omega), hlen, show q + 1 - q = 1 by omega]
  simp
theorem OwnK.frozen {w : World} {base g n cap : Nat} {fs : List (Int × Int)} (h : OwnK w base (.slice (some ⟨g, 0, none⟩) n cap) fs) (i : Nat) : w.frozen? ⟨g, i, none⟩ = false := by
  rcases h.2 with ⟨hv, -⟩ | ⟨g', cap', cur, hv, h1, h2, -⟩
  · simp at hv
  · simp only [Value.slice.injEq, Option.some.injEq, Addr.mk.injEq] at hv
    obtain ⟨⟨rfl, -⟩, -, rfl⟩ := hv
    simp [World.frozen?, h2]
theorem OwnK.cells {w : World} {base g n cap : Nat} {fs : List (Int × Int)} (h : OwnK w base (.slice (some ⟨g, 0, none⟩) n cap) fs) (q : Nat) (hq : q < fs.length) :
    w.cell? ⟨g, q * 2, none⟩ = some (.int .i64 (lkAt fs q).1) ∧ w.cell? ⟨g, q * 2 + 1, none⟩ = some (.int .i64 (lkAt fs q).2) := by
  obtain ⟨x2, c2, he2, -, -, -, hm'⟩ := h.mem
  simp only [Value.slice.injEq] at he2
  obtain ⟨b2, o2, he3, c7, c8⟩ := hm' q hq
  rw [← he2.1] at he3
  simp only [Option.some.injEq, Addr.mk.injEq] at he3
  obtain ⟨rfl, rfl, -⟩ := he3
  exact ⟨by simpa using c7, by simpa using c8⟩
theorem lkAt_setK {fs : List (Int × Int)} {i : Nat} (hi : i < fs.length) (e : Int × Int) (j : Nat) : lkAt (fs.set i e) j = if i = j then e else lkAt fs j := by
  unfold lkAt
  rw [List.getD_eq_getElem?_getD, List.getElem?_set, List.getD_eq_getElem?_getD]
  by_cases h : i = j
  · subst h
    rw [if_pos rfl, if_pos rfl, if_pos hi]
    rfl
  · rw [if_neg h, if_neg h]
theorem flatK_setK (fs : List (Int × Int)) (i : Nat) (e : Int × Int) (hi : i < fs.length) : ((flatK fs).set (i * 2) (.int .i64 e.1)).set (i * 2 + 1) (.int .i64 e.2) = flatK (fs.set i e) := by
  refine List.ext_getElem? fun j => ?_
  by_cases hj : j < fs.length * 2
  · have e1 : j = (j / 2) * 2 + j % 2 := by omega
    have hq : j / 2 < fs.length := by omega
    rw [e1, flatK_at _ _ _ (by rw [List.length_set]; exact hq) (by omega), lkAt_setK hi, List.getElem?_set, List.length_set, List.getElem?_set, flatK_len]
    by_cases h1 : i = j / 2
    · rw [if_pos h1]
      have h3 : j % 2 = 0 ∨ j % 2 = 1 := by omega
      rcases h3 with h3 | h3
      · rw [if_neg (by omega), if_pos (by omega), if_pos (by omega), h3]
        rfl
      · rw [if_pos (by omega), if_pos (by omega), h3]
        rfl
    · rw [if_neg h1, if_neg (by omega), if_neg (by omega), flatK_at _ _ _ hq (by omega)]
  · rw [List.getElem?_eq_none (by rw [List.length_set, List.length_set, flatK_len]; omega), List.getElem?_eq_none (by rw [flatK_len, List.length_set]; omega)]
/-- The world with a link of a row written over. -/
def setK (w : World) (g i : Nat) (e : Int × Int) : World := (w.setCell ⟨g, i * 2, none⟩ (.int .i64 e.1)).setCell ⟨g, i * 2 + 1, none⟩ (.int .i64 e.2)
theorem OwnK.setE {w : World} {base g n cap : Nat} {fs : List (Int × Int)} (h : OwnK w base (.slice (some ⟨g, 0, none⟩) n cap) fs) (i : Nat) (hi : i < fs.length) (e : Int × Int) :
    OwnK (setK w g i e) base (.slice (some ⟨g, 0, none⟩) n cap) (fs.set i e) := by
  rcases h.2 with ⟨hv, -⟩ | ⟨g', cap', cur, hv, h1, h2, h3, h4, h5, h6⟩
  · simp at hv
  · simp only [Value.slice.injEq, Option.some.injEq, Addr.mk.injEq] at hv
    obtain ⟨⟨rfl, -⟩, rfl, rfl⟩ := hv
    refine ⟨flatK_len _, .inr ⟨g, cap, (cur.setIfInBounds (i * 2) (.int .i64 e.1)).setIfInBounds (i * 2 + 1) (.int .i64 e.2), by rw [List.length_set], h1, heap_setCell_same _ g _ _ _ _ (heap_setCell_same w g _ _ _ _ h2), by rw [List.length_set]; exact h3, h4, by simpa using h5, ?_⟩⟩
    rw [List.length_set, Array.toList_setIfInBounds, Array.toList_setIfInBounds, List.take_set, List.take_set, h6, flatK_setK fs i e hi]
theorem setK_grown (w : World) (g i : Nat) (e : Int × Int) : w.grownBy (setK w g i e) (some g) := by
  have g1 := set_grown w g (i * 2) (.int .i64 e.1)
  have g2 := set_grown (w.setCell ⟨g, i * 2, none⟩ (.int .i64 e.1)) g (i * 2 + 1) (.int .i64 e.2)
  exact ⟨g2.os.trans g1.os, g2.tape.trans g1.tape, g2.output.trans g1.output, Nat.le_trans g1.size g2.size, fun k hk hne => (g2.block k (Nat.lt_of_lt_of_le hk g1.size) hne).trans (g1.block k hk hne)⟩
theorem setK_box {w : World} {g i b : Nat} {e : Int × Int} (h : b ≠ g) : (setK w g i e).heap[b]? = w.heap[b]? :=
  (heap_setCell_other _ _ _ _ h).trans (heap_setCell_other _ _ _ _ h)
/-- A link of the row that is being sorted is written over. -/
theorem PnW.setL {w W : World} {x : Option Addr} {n c : Nat} {lx : Option Addr} {ln lc : Nat} {ob b5 bc : Nat} {X : Option Addr} {C : Nat} {us : List Vn} {g N cap : Nat} {qs : List (Int × Int)} (h : PnW w W x n c lx ln lc ob b5 bc X C us (.slice (some ⟨g, 0, none⟩) N cap) qs) (i : Nat) (hi : i < qs.length) (e : Int × Int) :
    PnW w (setK W g i e) x n c lx ln lc ob b5 bc X C us (.slice (some ⟨g, 0, none⟩) N cap) (qs.set i e) := by
  obtain ⟨hb, cur, hc⟩ := h.row.block
  have hg := setK_grown W g i e
  have ne : ∀ b cs t, W.heap[b]? = some (.cells cs t) → t ≠ 63 → b ≠ g := fun b cs t h1 h2 e => by
    rw [e, hc] at h1
    simp only [Option.some.injEq, Obj.cells.injEq] at h1
    exact h2 h1.2.1.symm
  have n1 := ne _ _ _ h.tm.hb (by decide)
  have n2 := ne _ _ _ h.tm.hs (by decide)
  have n3 := ne _ _ _ h.box (by decide)
  exact ⟨⟨(setK_box n1).trans h.tm.hb, (setK_box n2).trans h.tm.hs, below_grownr h.tm.below hg (fun q e => by cases e; have := h.wc; omega)⟩, (setK_box n3).trans h.box, h.row.setE i hi e, h.all.kept hg (fun q hq e => by subst e; exact h.all.ne hc (by decide) hq), fun u hu => (h.von u hu).grown hg hc (by decide) (by decide) (by decide) (by decide), h.wo, h.wc, Nat.le_trans h.big hg.size⟩
theorem clash_isN (p q : Vn) (t : Bool) (h : vmB p q = t) (w : World) (hp : RS w p.rx p.rn p.rs) (hq : RS w q.rx q.rn q.rs) (hpn : p.rn ≤ 1048576) (hqn : q.rn ≤ 1048576) :
    Calls Tryz.prog 32 #[.agg #[.int .i64 p.id, .slice p.rx p.rn p.rc, .slice p.sx p.sn p.sc], .agg #[.int .i64 q.id, .slice q.rx q.rn q.rc, .slice q.sx q.sn q.sc]] w fun e w' => e = .returned (.bool t) ∧ Below w.heap.size w w' := by
  subst h
  exact clash_any p q w hp hq hpn hqn
end Go.Proofs.YtlalgkjollgcbaaGreat
/- JoinNet of the reference. -/
namespace Go.Proofs.YtlalgkjollgcbaaGreat
open Go.RowKit Go.Shelf

theorem insK_at {p : Int × Int} {ls : List (Int × Int)} {q : Nat} (hq : q < ls.length) : lkAt (ls.take (q + 1) ++ [p] ++ ls.drop (q + 1)) q = lkAt ls q ∧ lkAt (ls.take (q + 1) ++ [p] ++ ls.drop (q + 1)) (q + 1) = p := by
  rw [ins_get hq, ins_get hq, if_pos (by omega), if_neg (by omega), if_pos rfl]
  exact ⟨rfl, rfl⟩
def JnMid (w : World) (x : Option Addr) (n c : Nat) (lx : Option Addr) (ln lc : Nat) (ob bc : Nat) (X : Option Addr) (C : Nat) (us : List Vn) (g N cap : Nat) (ls : List (Int × Int)) (p : Int × Int) (jv : Value) (wr : World) : Prop :=
  ∃ j : Nat, jv = .int .i64 j ∧ j ≤ N ∧ PnW w wr x n c lx ln lc ob bc bc X C us (.slice (some ⟨g, 0, none⟩) (N + 1) cap) (ls.take j ++ [p] ++ ls.drop j) ∧ Hid (∀ k, j ≤ k → k < N → lkLt p (lkAt ls k) = true)

set_option maxRecDepth 100000 in
set_option maxHeartbeats 12800000 in
theorem joinNet_any (x : Option Addr) (n c : Nat) (vs : List Vn) (lx : Option Addr) (ln lc : Nat) (ls : List (Int × Int)) (a b : Int) (w : World) (hp : VS w x n vs) (hn : n ≤ 9223372036854775807) (hl : PS w lx ln ls) (hln : ln ≤ 9223372036854775807) :
    Calls Tryz.prog 20 #[.agg #[.slice x n c, .slice lx ln lc], .int .i64 a, .int .i64 b] w (NPost (joinE n vs ln ls a b) (JoinR vs ls a b) w) := by
  have hvl : Hid (vs.length = n) := hp.len
  have hll : Hid (ls.length = ln) := hl.len
  obtain ⟨E, hEE⟩ : ∃ E, E = joinE n vs ln ls a b := ⟨_, rfl⟩
  rw [← hEE]
  unfold joinE at hEE
  replace hEE := Hid.mk' hEE
  go_enter Tryz.func20, Tryz.ntmps20
  go_upto_region 1 with fail
  obtain ⟨w0, hw0⟩ : ∃ w0, w0 = (w.alloc (netO x n c lx ln lc)).alloc (netB (.slice none 0 0) (.slice none 0 0)) := ⟨_, rfl⟩
  rw [← hw0]
  have hT0 : TM w w0 x n c lx ln lc := by
    rw [hw0]
    exact ⟨heap_old _ (heap_new _ rfl), heap_new _ (by simp), bl2 w _ _⟩
  clear hw0
  have k0 : w0.cell? ⟨w.heap.size, 0, none⟩ = some (.slice x n c) := (box_cells hT0.hb).1 0
  have k1 : w0.cell? ⟨w.heap.size, 1, none⟩ = some (.slice lx ln lc) := (box_cells hT0.hb).1 1
  have ks0 : w0.cell? ⟨w.heap.size + 1, 0, none⟩ = some (.slice none 0 0) := (box_cells hT0.hs).1 0
  have ks1 : w0.cell? ⟨w.heap.size + 1, 1, none⟩ = some (.slice none 0 0) := (box_cells hT0.hs).1 1
  have kz0 := (box_cells hT0.hs).2 0
  have kz1 := (box_cells hT0.hs).2 1
  by_cases hc0 : chkN n vs ln ls = 0
  · have hck := checkNetP_is x n c vs lx ln lc ls 0 hc0 w0 (hp.later hT0.below) hn (hl.later hT0.below) hln
    obtain ⟨h6, h12, hfew⟩ := few_of hc0
    rw [if_pos hc0] at hEE
    obtain ⟨-, -, hvb, hlb, hab0⟩ := chkN_zero hc0
    have hvf := vpcs_few hvb
    have hrv : Hid (riseVB vs = true) := by
      show _ = _
      unfold vpcsB at hvb
      rw [Bool.and_eq_true] at hvb
      exact hvb.1
    have hrl : Hid (riseLB ls = true) := by
      show _ = _
      have h1 := hlb
      unfold linksB at h1
      rw [Bool.and_eq_true] at h1
      exact h1.1
    have hlbH : Hid (linksB n vs ln ls = true) := hlb
    have hapH : Hid (apB ls n vs = true) := hab0
    clear hc0 hvb hlb hab0
    by_cases hab : a = b
    · rw [if_pos hab] at hEE
      have hE2 : Hid (E = 3 ∧ (3 : Int) ≠ 0) := ⟨hEE.out, by decide⟩
      have hab' : (a == b) = true := by simpa using hab
      clear hEE hab
      go_wp2_with fail
      refine hck.mono ?_
      rintro e w1 ⟨rfl, hb⟩
      have hT1 := hT0.later hb
      clear k0 k1 ks0 ks1 kz0 kz1
      have k0 : w1.cell? ⟨w.heap.size, 0, none⟩ = some (.slice x n c) := (box_cells hT1.hb).1 0
      have k1 : w1.cell? ⟨w.heap.size, 1, none⟩ = some (.slice lx ln lc) := (box_cells hT1.hb).1 1
      have ks0 : w1.cell? ⟨w.heap.size + 1, 0, none⟩ = some (.slice none 0 0) := (box_cells hT1.hs).1 0
      have ks1 : w1.cell? ⟨w.heap.size + 1, 1, none⟩ = some (.slice none 0 0) := (box_cells hT1.hs).1 1
      have kz0 := (box_cells hT1.hs).2 0
      have kz1 := (box_cells hT1.hs).2 1
      clear hck
      go_wp2
      refine bodyPost_ret (v := .tuple #[.agg #[.slice none 0 0, .slice none 0 0], .int .i64 3]) (by simp [results, Tryz.results20, go_sem, ks0, ks1]) rfl ?_
      exact NPost.err hE2.out ((hT1.below.setCell (p := ⟨w.heap.size + 1, 0, none⟩) (Nat.le_add_right _ _) _).setCell (p := ⟨w.heap.size + 1, 1, none⟩) (Nat.le_add_right _ _) _)
    rw [if_neg hab] at hEE
    have hab' : (a == b) = false := by simpa using hab
    clear hab
    go_wp2_with fail
    refine hck.mono ?_
    rintro e w1 ⟨rfl, hb⟩
    have hT1 := hT0.later hb
    clear k0 k1 ks0 ks1 kz0 kz1
    have k0 : w1.cell? ⟨w.heap.size, 0, none⟩ = some (.slice x n c) := (box_cells hT1.hb).1 0
    have k1 : w1.cell? ⟨w.heap.size, 1, none⟩ = some (.slice lx ln lc) := (box_cells hT1.hb).1 1
    have ks0 : w1.cell? ⟨w.heap.size + 1, 0, none⟩ = some (.slice none 0 0) := (box_cells hT1.hs).1 0
    have ks1 : w1.cell? ⟨w.heap.size + 1, 1, none⟩ = some (.slice none 0 0) := (box_cells hT1.hs).1 1
    have kz0 := (box_cells hT1.hs).2 0
    have kz1 := (box_cells hT1.hs).2 1
    clear hck
    rcases (vplace_cases n vs a).symm with hpa0 | ⟨ia, hia, hida, hpa0⟩
    · have hpa := vpcAt_is x n c vs lx ln lc a (-1) hpa0 w1 (hp.later hT1.below) (by omega)
      rw [hpa0, if_pos (by decide)] at hEE
      have hE2 : Hid (E = 5 ∧ (5 : Int) ≠ 0) := ⟨hEE.out, by decide⟩
      clear hEE hpa0
      go_wp2_with fail
      refine hpa.mono ?_
      rintro e w2 ⟨rfl, hb⟩
      have hT2 := hT1.later hb
      clear k0 k1 ks0 ks1 kz0 kz1
      have k0 : w2.cell? ⟨w.heap.size, 0, none⟩ = some (.slice x n c) := (box_cells hT2.hb).1 0
      have k1 : w2.cell? ⟨w.heap.size, 1, none⟩ = some (.slice lx ln lc) := (box_cells hT2.hb).1 1
      have ks0 : w2.cell? ⟨w.heap.size + 1, 0, none⟩ = some (.slice none 0 0) := (box_cells hT2.hs).1 0
      have ks1 : w2.cell? ⟨w.heap.size + 1, 1, none⟩ = some (.slice none 0 0) := (box_cells hT2.hs).1 1
      have kz0 := (box_cells hT2.hs).2 0
      have kz1 := (box_cells hT2.hs).2 1
      clear hpa
      go_wp2
      refine bodyPost_ret (v := .tuple #[.agg #[.slice none 0 0, .slice none 0 0], .int .i64 5]) (by simp [results, Tryz.results20, go_sem, ks0, ks1]) rfl ?_
      exact NPost.err hE2.out ((hT2.below.setCell (p := ⟨w.heap.size + 1, 0, none⟩) (Nat.le_add_right _ _) _).setCell (p := ⟨w.heap.size + 1, 1, none⟩) (Nat.le_add_right _ _) _)
    have hpa := vpcAt_is x n c vs lx ln lc a ia hpa0 w1 (hp.later hT1.below) (by omega)
    have hia0 : ¬ ((ia : Int) < 0) := by omega
    rw [hpa0, if_neg hia0] at hEE
    go_wp2_with fail
    refine hpa.mono ?_
    rintro e w2 ⟨rfl, hb⟩
    have hT2 := hT1.later hb
    clear k0 k1 ks0 ks1 kz0 kz1
    have k0 : w2.cell? ⟨w.heap.size, 0, none⟩ = some (.slice x n c) := (box_cells hT2.hb).1 0
    have k1 : w2.cell? ⟨w.heap.size, 1, none⟩ = some (.slice lx ln lc) := (box_cells hT2.hb).1 1
    have ks0 : w2.cell? ⟨w.heap.size + 1, 0, none⟩ = some (.slice none 0 0) := (box_cells hT2.hs).1 0
    have ks1 : w2.cell? ⟨w.heap.size + 1, 1, none⟩ = some (.slice none 0 0) := (box_cells hT2.hs).1 1
    have kz0 := (box_cells hT2.hs).2 0
    have kz1 := (box_cells hT2.hs).2 1
    clear hpa hpa0
    rcases (vplace_cases n vs b).symm with hpb0 | ⟨ib, hib, hidb, hpb0⟩
    · have hpb := vpcAt_is x n c vs lx ln lc b (-1) hpb0 w2 (hp.later hT2.below) (by omega)
      rw [hpb0, if_pos (by decide)] at hEE
      have hE2 : Hid (E = 5 ∧ (5 : Int) ≠ 0) := ⟨hEE.out, by decide⟩
      clear hEE hpb0
      go_wp2_with fail
      refine hpb.mono ?_
      rintro e w3 ⟨rfl, hb⟩
      have hT3 := hT2.later hb
      clear k0 k1 ks0 ks1 kz0 kz1
      have k0 : w3.cell? ⟨w.heap.size, 0, none⟩ = some (.slice x n c) := (box_cells hT3.hb).1 0
      have k1 : w3.cell? ⟨w.heap.size, 1, none⟩ = some (.slice lx ln lc) := (box_cells hT3.hb).1 1
      have ks0 : w3.cell? ⟨w.heap.size + 1, 0, none⟩ = some (.slice none 0 0) := (box_cells hT3.hs).1 0
      have ks1 : w3.cell? ⟨w.heap.size + 1, 1, none⟩ = some (.slice none 0 0) := (box_cells hT3.hs).1 1
      have kz0 := (box_cells hT3.hs).2 0
      have kz1 := (box_cells hT3.hs).2 1
      clear hpb
      go_wp2
      refine bodyPost_ret (v := .tuple #[.agg #[.slice none 0 0, .slice none 0 0], .int .i64 5]) (by simp [results, Tryz.results20, go_sem, ks0, ks1]) rfl ?_
      exact NPost.err hE2.out ((hT3.below.setCell (p := ⟨w.heap.size + 1, 0, none⟩) (Nat.le_add_right _ _) _).setCell (p := ⟨w.heap.size + 1, 1, none⟩) (Nat.le_add_right _ _) _)
    have hpb := vpcAt_is x n c vs lx ln lc b ib hpb0 w2 (hp.later hT2.below) (by omega)
    have hib0 : ¬ ((ib : Int) < 0) := by omega
    rw [hpb0, if_neg hib0] at hEE
    go_wp2_with fail
    refine hpb.mono ?_
    rintro e w3 ⟨rfl, hb⟩
    have hT3 := hT2.later hb
    clear k0 k1 ks0 ks1 kz0 kz1
    have k0 : w3.cell? ⟨w.heap.size, 0, none⟩ = some (.slice x n c) := (box_cells hT3.hb).1 0
    have k1 : w3.cell? ⟨w.heap.size, 1, none⟩ = some (.slice lx ln lc) := (box_cells hT3.hb).1 1
    have ks0 : w3.cell? ⟨w.heap.size + 1, 0, none⟩ = some (.slice none 0 0) := (box_cells hT3.hs).1 0
    have ks1 : w3.cell? ⟨w.heap.size + 1, 1, none⟩ = some (.slice none 0 0) := (box_cells hT3.hs).1 1
    have kz0 := (box_cells hT3.hs).2 0
    have kz1 := (box_cells hT3.hs).2 1
    clear hpb hpb0
    cases hj : jnB ln ls a b with
    | true =>
      have hlk := linked_is x n c lx ln lc ls a b true hj w3 (hl.later hT3.below) (by omega)
      rw [hj, if_pos rfl] at hEE
      have hE2 : Hid (E = 6 ∧ (6 : Int) ≠ 0) := ⟨hEE.out, by decide⟩
      clear hj hEE
      go_wp2_with fail
      refine hlk.mono ?_
      rintro e wj ⟨rfl, hb⟩
      have hTj := hT3.later hb
      clear k0 k1 ks0 ks1 kz0 kz1
      have k0 : wj.cell? ⟨w.heap.size, 0, none⟩ = some (.slice x n c) := (box_cells hTj.hb).1 0
      have k1 : wj.cell? ⟨w.heap.size, 1, none⟩ = some (.slice lx ln lc) := (box_cells hTj.hb).1 1
      have ks0 : wj.cell? ⟨w.heap.size + 1, 0, none⟩ = some (.slice none 0 0) := (box_cells hTj.hs).1 0
      have ks1 : wj.cell? ⟨w.heap.size + 1, 1, none⟩ = some (.slice none 0 0) := (box_cells hTj.hs).1 1
      have kz0 := (box_cells hTj.hs).2 0
      have kz1 := (box_cells hTj.hs).2 1
      clear hlk
      go_wp2
      refine bodyPost_ret (v := .tuple #[.agg #[.slice none 0 0, .slice none 0 0], .int .i64 6]) (by simp [results, Tryz.results20, go_sem, ks0, ks1]) rfl ?_
      exact NPost.err hE2.out ((hTj.below.setCell (p := ⟨w.heap.size + 1, 0, none⟩) (Nat.le_add_right _ _) _).setCell (p := ⟨w.heap.size + 1, 1, none⟩) (Nat.le_add_right _ _) _)
    | false =>
      have hlk := linked_is x n c lx ln lc ls a b false hj w3 (hl.later hT3.below) (by omega)
      rw [hj, if_neg (by decide)] at hEE
      have hnm : Hid ((min a b, max a b) ∉ ls) := by
        rw [mem_jn hll.out] at hj
        show _ ∉ _
        simpa using hj
      have hEH : Hid (E = if apB (insLk (min a b, max a b) ls) n vs = false then 9 else if ln = 12 then 2 else 0) := hEE.out
      clear hj hEE
      go_wp2_with fail
      refine hlk.mono ?_
      rintro e wj ⟨rfl, hb⟩
      have hTj := hT3.later hb
      clear k0 k1 ks0 ks1 kz0 kz1
      have k0 : wj.cell? ⟨w.heap.size, 0, none⟩ = some (.slice x n c) := (box_cells hTj.hb).1 0
      have k1 : wj.cell? ⟨w.heap.size, 1, none⟩ = some (.slice lx ln lc) := (box_cells hTj.hb).1 1
      have ks0 : wj.cell? ⟨w.heap.size + 1, 0, none⟩ = some (.slice none 0 0) := (box_cells hTj.hs).1 0
      have ks1 : wj.cell? ⟨w.heap.size + 1, 1, none⟩ = some (.slice none 0 0) := (box_cells hTj.hs).1 1
      have kz0 := (box_cells hTj.hs).2 0
      have kz1 := (box_cells hTj.hs).2 1
      clear hlk
      have hgo := fun W (hW : Below wj.heap.size wj W) => groupOf_any x n c vs lx ln lc ls a ia W ((hp.later hTj.below).later hW) (by omega) ((hl.later hTj.below).later hW) (by omega) hrv.out hlbH.out hia hida
      have hgo2 := fun W (hW : Below wj.heap.size wj W) => groupOf_any x n c vs lx ln lc ls b ib W ((hp.later hTj.below).later hW) (by omega) ((hl.later hTj.below).later hW) (by omega) hrv.out hlbH.out hib hidb
      have a0 := Ws.here k0
      have a1 := Ws.here k1
      go_upto_region 10 with fail
      go_cut [9, 10] (fun u v wc => ∃ gx gc hx hc, u = .slice gx (grpL ls vs a).length gc ∧ v = .slice hx (grpL ls vs b).length hc ∧ IS wc gx (grpL ls vs a).length (grpL ls vs a) ∧ IS wc hx (grpL ls vs b).length (grpL ls vs b) ∧ Below wj.heap.size wj wc)
      case first =>
        clear k0 k1 ks0 ks1 kz0 kz1
        have hbd : Below wj.heap.size wj wj.drew := (Below.refl _ _).drew
        refine wp_region_V (fun w' => ∃ u : Ws wj.heap.size wj, w' = u.val) (fun j => decide (j < 6)) 8 _ (by kernel_rfl) rfl rfl ?_
        refine wpV_takes 4 [0, 1, 3, 4] rfl _ rfl (by kernel_rfl) (fun d _ _ _ _ h => by cases d <;> exact h) ⟨⟨_, hbd⟩, rfl⟩ ?_
        simp only [List.map_cons, List.map_nil, List.getD_cons_zero, List.getD_cons_succ]
        repeat (go_big_quiet_step (fail))
        refine wpQuiet_nil ?_
        clear a0 a1
        refine wpV_one 2 _ _ (by kernel_rfl) (by kernel_rfl) rfl rfl ?_
        intro K hK
        simp only [List.getD_cons_zero, List.getD_cons_succ]
        go_wp2_with fail
        refine (hgo wj.drew hbd).mono ?_
        rintro e wg ⟨vg, rfl, hOg, hbg⟩
        have hBg : Below wj.heap.size wj wg := ⟨hbg.os, hbg.tape, hbg.output, hbg.size, hbg.block⟩
        go_wp2_with fail
        refine wildK_normal (hK.out _ _ ⟨⟨_, hBg⟩, rfl⟩ ?_)
        clear hK K
        refine wpV_one 5 _ _ (by kernel_rfl) (by kernel_rfl) rfl rfl ?_
        intro K hK
        simp only [List.getD_cons_zero, List.getD_cons_succ]
        go_wp2_with fail
        refine (hgo2 wg hBg).mono ?_
        rintro e wh ⟨vh, rfl, hOh, hbh⟩
        have hBh : Below wj.heap.size wj wh := hBg.trans (hbh.mono hBg.size)
        go_wp2_with fail
        refine wildK_normal (hK.out _ _ ⟨⟨_, hBh⟩, rfl⟩ ?_)
        clear hK K
        obtain ⟨gx, gc, hgv, -, -, -, hI1⟩ := (hOg.later hbh).mem
        obtain ⟨kx, kc, hkv, -, -, -, hI2⟩ := hOh.mem
        subst hgv
        subst hkv
        refine wpV_tail [6, 7] rfl (by kernel_rfl) ?_
        simp only [List.map_cons, List.map_nil, List.getD_cons_zero, List.getD_cons_succ]
        go_wp2_with fail
        go_meet
        case rel => exact ⟨gx, gc, kx, kc, rfl, rfl, hI1, hI2, hBh⟩
      case rest =>
      obtain ⟨gx, gc, kx, kc, rfl, rfl, hI1, hI2, hBc⟩ := hcut
      clear a0 a1 hgo hgo2
      obtain ⟨wo, hwo⟩ : ∃ wo, wo = wc := ⟨_, rfl⟩
      subst hwo
      have hTo := hTj.later hBc
      clear k0 k1 ks0 ks1 kz0 kz1
      clear hBc
      have hga : Hid ((grpL ls vs a).length ≤ 6 ∧ (grpL ls vs b).length ≤ 6) := by
        have h2 : (idsOf vs).length = n := by unfold idsOf; rw [List.length_map]; exact hvl.out
        have h3 := List.length_filter_le (fun y => hdOf ls y == hdOf ls a) (idsOf vs)
        have h4 := List.length_filter_le (fun y => hdOf ls y == hdOf ls b) (idsOf vs)
        unfold grpL
        exact ⟨by omega, by omega⟩
      have hgtA : Hid (∀ k, k < (grpL ls vs a).length → ∃ j, j < n ∧ (vnAt vs j).id = inAt (grpL ls vs a) k ∧ vplace n vs (inAt (grpL ls vs a) k) = j ∧ hdOf ls (vnAt vs j).id = hdOf ls a) := fun k hk => grp_at hvl.out hrv.out hk
      have hgtB : Hid (∀ k, k < (grpL ls vs b).length → ∃ j, j < n ∧ (vnAt vs j).id = inAt (grpL ls vs b) k ∧ vplace n vs (inAt (grpL ls vs b) k) = j ∧ hdOf ls (vnAt vs j).id = hdOf ls b) := fun k hk => grp_at hvl.out hrv.out hk
      have hall : Hid ((∀ i, i < (grpL ls vs a).length → ∀ k, k < (grpL ls vs b).length → gdB n vs (grpL ls vs a) (grpL ls vs b) i k) → apB (insLk (min a b, max a b) ls) n vs = true) := fun h => good_all hvl.out hrv.out hapH.out h
      generalize grpL ls vs a = ga at *
      generalize grpL ls vs b = gb at *
      have hg6 := hga.out.1
      have hh6 := hga.out.2
      go_wp2
      go_loopw [11] (fun i wr => ∃ q : Nat, q ≤ ga.length ∧ i = .int .i64 q ∧ Below wo.heap.size wo wr ∧ Hid (∀ i, i < q → ∀ k, k < gb.length → gdB n vs ga gb i k)) (fun i _ => ga.length - (intOf i).toNat)
      case atStart => exact ⟨0, by omega, rfl, Below.refl _ _, fun i hi => by omega⟩
      case round =>
        obtain ⟨q1, hq1, rfl, hB1, hgd1⟩ := hrel
        by_cases hlt1 : q1 < ga.length
        · have hlt1' : Hid (q1 < ga.length) := hlt1
          obtain ⟨w7, hw7⟩ : ∃ w7, w7 = wr := ⟨_, rfl⟩
          subst hw7
          go_wp2
          go_loopw [12] (fun i wr => ∃ q : Nat, q ≤ gb.length ∧ i = .int .i64 q ∧ Below wo.heap.size wo wr ∧ Hid (∀ k, k < q → gdB n vs ga gb q1 k)) (fun i _ => gb.length - (intOf i).toNat)
          case atStart => exact ⟨0, by omega, rfl, hB1, fun i hi => by omega⟩
          case round =>
            clear hB1
            obtain ⟨q2, hq2, rfl, hB2, hgd2⟩ := hrel
            by_cases hlt2 : q2 < gb.length
            · have hlt2' : Hid (q2 < gb.length) := hlt2
              have hTr := hTo.later hB2
              obtain ⟨b1, o1, hx1, d1⟩ := (hI1.later hB2).cells q1 hlt1
              obtain ⟨b2, o2, hx2, d2⟩ := (hI2.later hB2).cells q2 hlt2
              subst hx1
              subst hx2
              obtain ⟨i1, hi1, hid1, hpl1, hhd1⟩ := hgtA.out q1 hlt1
              obtain ⟨i2, hi2, hid2, hpl2, hhd2⟩ := hgtB.out q2 hlt2
              have hgdef : Hid (gdB n vs ga gb q1 q2 ↔ (inAt ga q1 ≠ inAt gb q2 → vmB (vnAt vs i1) (vnAt vs i2) = false)) := by
                show _ ↔ _
                unfold gdB
                rw [hpl1, hpl2, Int.toNat_natCast, Int.toNat_natCast]
              generalize inAt ga q1 = y1 at *
              generalize inAt gb q2 = y2 at *
              obtain ⟨tt, htt⟩ : ∃ tt, Hid ((!(y1 == y2) && vmB (vnAt vs i1) (vnAt vs i2)) = tt) := ⟨_, rfl⟩
              have a2 := Ws.here d1
              have a3 := Ws.here d2
              go_upto_region 17 with fail
              clear d1 d2
              go_cut [95] (fun v wc => v = .bool tt ∧ Below wr.heap.size wr wc)
              case first =>
                by_cases hyy : y1 = y2
                · have hne : (y1 != y2) = false := by simpa using hyy
                  have htf : Hid (tt = false) := by show _ = _; rw [← htt.out, hyy]; simp
                  clear hyy hgdef hid1 hid2 hpl1 hpl2
                  refine wp_region_ws wr.heap.size (by kernel_rfl) (by kernel_rfl) ?_
                  repeat (go_big_quiet_step (fail))
                  refine wpQuiet_nil ?_
                  rintro _ ⟨u, rfl⟩
                  have hu := u.property
                  generalize u.val = wu at hu ⊢
                  clear u a2 a3
                  go_wp2
                  go_meet
                  case rel => exact ⟨by rw [htf.out], hu⟩
                · have hne : (y1 != y2) = true := by simpa using hyy
                  have hpr := (hp.later hTr.below)
                  have hV1 := (hpr.vps i1 hi1).2.2.2.ranges
                  have hV2 := (hpr.vps i2 hi2).2.2.2.ranges
                  have hr1 := (hvf i1 hi1).2
                  have hr2 := (hvf i2 hi2).2
                  have htf : Hid (vmB (vnAt vs i1) (vnAt vs i2) = tt) := by
                    show _ = _
                    rw [← htt.out, show (y1 == y2) = false by simpa using hyy]
                    rfl
                  obtain ⟨bx, ox, hxo, c0, c1, c2⟩ := hpr.cells i1 hi1
                  obtain ⟨bx', ox', hxo', e0, e1, e2⟩ := hpr.cells i2 hi2
                  rw [hxo] at hxo'
                  simp only [Option.some.injEq, Addr.mk.injEq, and_true] at hxo'
                  obtain ⟨hbx', hox'⟩ := hxo'
                  subst hbx'
                  subst hox'
                  have hcA := fun W (hW : Below wr.heap.size wr W) => vpcAt_is x n c vs lx ln lc y1 i1 hpl1 W (hpr.later hW) (by omega)
                  have hcB := fun W (hW : Below wr.heap.size wr W) => vpcAt_is x n c vs lx ln lc y2 i2 hpl2 W (hpr.later hW) (by omega)
                  have hcC := fun W (hW : Below wr.heap.size wr W) => clash_isN (vnAt vs i1) (vnAt vs i2) tt htf.out W (hV1.later hW) (hV2.later hW) (by omega) (by omega)
                  have a4 : ∀ u : Ws wr.heap.size wr, u.val.cell? ⟨w.heap.size, 0, none⟩ = some (.slice x n c) := Ws.here ((box_cells hTr.hb).1 0)
                  have a5 : ∀ u : Ws wr.heap.size wr, u.val.cell? ⟨w.heap.size, 1, none⟩ = some (.slice lx ln lc) := Ws.here ((box_cells hTr.hb).1 1)
                  rw [hxo] at a4 hcA hcB
                  rw [hxo]
                  have b0 := Ws.here c0
                  have b1' := Ws.here c1
                  have b2' := Ws.here c2
                  have f0 := Ws.here e0
                  have f1 := Ws.here e1
                  have f2 := Ws.here e2
                  have p1 : (0 : Int) ≤ i1 := by omega
                  have p2 : (i1 : Int) < n := by omega
                  have p3 : (0 : Int) ≤ i2 := by omega
                  have p4 : (i2 : Int) < n := by omega
                  clear hyy hgdef hid1 hid2 hpl1 hpl2 c0 c1 c2 e0 e1 e2 hV1 hV2 htf hpr
                  refine wp_region_ws wr.heap.size (by kernel_rfl) (by kernel_rfl) ?_
                  repeat (go_big_quiet_step (first | (go_at_call_of 10 y1; exact Calls.in_ws (Nat.le_refl _) (hcA _ (Ws.property _))) | (go_at_call_of 10 y2; exact Calls.in_ws (Nat.le_refl _) (hcB _ (Ws.property _))) | (go_at_call 32; exact Calls.in_ws (Nat.le_refl _) (hcC _ (Ws.property _)))))
                  refine wpQuiet_nil ?_
                  rintro _ ⟨u, rfl⟩
                  have hu := u.property
                  generalize u.val = wu at hu ⊢
                  clear u a2 a3 a4 a5 b0 b1' b2' f0 f1 f2
                  rw [← hxo]
                  go_wp2
                  go_meet
                  case rel => exact ⟨rfl, hu⟩
              case rest =>
              obtain ⟨rfl, hBc⟩ := hcut
              clear a2 a3
              have hB3 := hB2.trans (hBc.mono hB2.size)
              have hTc := hTr.later hBc
              clear hTr hBc hB2
              cases tt with
              | true =>
                have hbz : Hid (apB (insLk (min a b, max a b) ls) n vs = false) := by
                  have h1 := htt.out
                  simp only [Bool.and_eq_true, Bool.not_eq_true', beq_eq_false_iff_ne] at h1
                  exact busy_bad hi1 hi2 (fun e => h1.1 (by rw [← hid1, ← hid2, e])) hhd1 hhd2 h1.2
                have hE2 : Hid (E = 9 ∧ (9 : Int) ≠ 0) := ⟨hEH.out.trans (if_pos hbz.out), by decide⟩
                clear hbz hEH htt hid1 hid2 hpl1 hpl2
                have k0 : wc.cell? ⟨w.heap.size, 0, none⟩ = some (.slice x n c) := (box_cells hTc.hb).1 0
                have k1 : wc.cell? ⟨w.heap.size, 1, none⟩ = some (.slice lx ln lc) := (box_cells hTc.hb).1 1
                have ks0 : wc.cell? ⟨w.heap.size + 1, 0, none⟩ = some (.slice none 0 0) := (box_cells hTc.hs).1 0
                have ks1 : wc.cell? ⟨w.heap.size + 1, 1, none⟩ = some (.slice none 0 0) := (box_cells hTc.hs).1 1
                have kz0 := (box_cells hTc.hs).2 0
                have kz1 := (box_cells hTc.hs).2 1
                go_wp2
                refine bodyPost_ret (v := .tuple #[.agg #[.slice none 0 0, .slice none 0 0], .int .i64 9]) (by simp [results, Tryz.results20, go_sem, ks0, ks1]) rfl ?_
                exact NPost.err hE2.out ((hTc.below.setCell (p := ⟨w.heap.size + 1, 0, none⟩) (Nat.le_add_right _ _) _).setCell (p := ⟨w.heap.size + 1, 1, none⟩) (Nat.le_add_right _ _) _)
              | false =>
                have hgk : Hid (gdB n vs ga gb q1 q2) := by
                  refine hgdef.out.2 fun hne => ?_
                  have h1 := htt.out
                  rw [show (y1 == y2) = false by simpa using hne] at h1
                  simpa using h1
                clear htt hid1 hid2 hpl1 hpl2 hTc
                go_wp2
                go_roundw
                case rel => exact ⟨q2 + 1, hlt2'.out, by go_num, hB3, fun k hk => by
                  by_cases hk2 : k < q2
                  · exact hgd2.out k hk2
                  · obtain rfl : k = q2 := by omega
                    exact hgk.out⟩
                case measure => simp [intOf]; have := hlt2'.out; omega
            · obtain rfl : q2 = gb.length := by omega
              go_wp2
              go_roundw
              case rel => exact ⟨q1 + 1, hlt1'.out, by go_num, hB2, fun i hi k hk => by
                by_cases hi2 : i < q1
                · exact hgd1.out i hi2 k hk
                · obtain rfl : i = q1 := by omega
                  exact hgd2.out k hk⟩
              case measure => simp [intOf]; have := hlt1'.out; omega
        · obtain rfl : q1 = ga.length := by omega
          have hap1 : Hid (apB (insLk (min a b, max a b) ls) n vs = true) := hall.out hgd1.out
          have hE1 : Hid (E = if ln = 12 then 2 else 0) := hEH.out.trans (if_neg (by rw [hap1.out]; decide))
          clear hap1 hEH hgd1 hall hgtA hgtB hI1 hI2
          have hTw := hTo.later hB1
          clear hTo hB1 hlt1 hq1
          obtain ⟨wo, hwo⟩ : ∃ wo, wo = wr := ⟨_, rfl⟩
          subst hwo
          have k0 : wo.cell? ⟨w.heap.size, 0, none⟩ = some (.slice x n c) := (box_cells hTw.hb).1 0
          have k1 : wo.cell? ⟨w.heap.size, 1, none⟩ = some (.slice lx ln lc) := (box_cells hTw.hb).1 1
          have ks0 : wo.cell? ⟨w.heap.size + 1, 0, none⟩ = some (.slice none 0 0) := (box_cells hTw.hs).1 0
          have ks1 : wo.cell? ⟨w.heap.size + 1, 1, none⟩ = some (.slice none 0 0) := (box_cells hTw.hs).1 1
          have kz0 := (box_cells hTw.hs).2 0
          have kz1 := (box_cells hTw.hs).2 1
          by_cases hl12 : ln = 12
          · have hE3 : Hid (E = 2 ∧ (2 : Int) ≠ 0) := ⟨hE1.out.trans (if_pos hl12), by decide⟩
            have hl12' : (ln : Int) ≥ 12 := by omega
            clear hE1 hl12
            go_wp2
            refine bodyPost_ret (v := .tuple #[.agg #[.slice none 0 0, .slice none 0 0], .int .i64 2]) (by simp [results, Tryz.results20, go_sem, ks0, ks1]) rfl ?_
            exact NPost.err hE3.out ((hTw.below.setCell (p := ⟨w.heap.size + 1, 0, none⟩) (Nat.le_add_right _ _) _).setCell (p := ⟨w.heap.size + 1, 1, none⟩) (Nat.le_add_right _ _) _)
          · have hE3 : Hid (E = 0) := hE1.out.trans (if_neg hl12)
            have hl12' : ¬ (ln : Int) ≥ 12 := by omega
            clear hE1 hl12
            have hfn := ownNet_any x n c vs lx ln lc ls wo (hp.later hTw.below) (by omega) (hl.later hTw.below) (by omega) hfew
            go_wp2_with fail
            refine hfn.mono ?_
            rintro e w4 ⟨vV, vK, us, rfl, hsv, hOV, hVo, hOK, hb4⟩
            have hT4 := hTw.later hb4
            clear hfn hl12'
            obtain ⟨X, C, hvV, hXm⟩ := hOV.mem
            obtain ⟨Y, D, hvK, hPS4, -, -, -⟩ := hOK.ps
            subst hvV
            subst hvK
            have hws : Hid (w.heap.size + 1 < wo.heap.size) := (Array.getElem?_eq_some_iff.1 hTw.hs).1
            have hb4s := hb4.size
            clear k0 k1 ks0 ks1 kz0 kz1
            go_upto_region 22 with fail
            obtain ⟨w5, hw5⟩ : ∃ w5, w5 = w4.alloc (netB (.slice X us.length C) (.slice Y ls.length D)) := ⟨_, rfl⟩
            rw [← hw5]
            have hb5 : Below w4.heap.size w4 w5 := by rw [hw5]; exact bl1 w4 _
            have hbx5 : w5.heap[w4.heap.size]? = some (netB (.slice X us.length C) (.slice Y ls.length D)) := by rw [hw5]; exact heap_new _ rfl
            clear hw5
            have hM5 : PnW w w5 x n c lx ln lc w4.heap.size wo.heap.size wo.heap.size X C us (.slice Y ls.length D) ls :=
              ⟨hT4.later hb5, hbx5, hOK.later hb5, hOV.later hb5, fun u hu => by
                obtain ⟨i, hi, rfl⟩ := mem_vnAt hu
                exact (hVo i hi).later hb5, by have := hws.out; omega, hws.out, Nat.le_trans hb4s hb5.size⟩
            clear hT4 hOV hVo hOK hPS4 hXm hbx5 hb5 hTw
            obtain ⟨p, hpp⟩ : ∃ p : Int × Int, Hid (p = (min a b, max a b)) := ⟨_, rfl⟩
            have hp1 : Hid (min a b = p.1 ∧ max a b = p.2) := by constructor <;> rw [hpp.out]
            have o1 : w5.cell? ⟨w4.heap.size, 1, none⟩ = some (.slice Y ls.length D) := (box_cells hM5.box).1 1
            have hMa := hM5.later (bl1 w5 (.cells #[.int .i64 (min a b), .int .i64 (max a b)] 63))
            have hcel := lks_cells w5 (min a b, max a b)
            go_wp2_with (at_builtin; refine Hid.out ?_)
            unfold Hid
            refine wpList_append_K rfl _ _ rfl wo.heap.size _ ls rfl hMa.row ⟨w5.heap.size, 0, none⟩ 1 1 [(min a b, max a b)] rfl rfl hcel (by have := hll.out; omega) hMa.big ?_
            intro v9 w9 hO9 hg9
            rw [← hpp.out] at hO9
            obtain ⟨g, cap, hv9, -, -⟩ := hO9.held (by simp)
            obtain ⟨N, hN⟩ : ∃ N, Hid (N = ls.length) := ⟨_, rfl⟩
            have hv9' : v9 = (.slice (some ⟨g, 0, none⟩) (N + 1) cap) := by rw [hv9, List.length_append, hN.out]; rfl
            clear hv9
            subst hv9'
            obtain ⟨hM9, hbx9⟩ := hMa.step hO9 hg9
            have o1' : w9.cell? ⟨w4.heap.size, 1, none⟩ = some (.slice Y ls.length D) := (box_cells hbx9).1 1
            have oz1 := (box_cells hbx9).2 1
            have hM9' : PnW w (w9.setCell ⟨w4.heap.size, 1, none⟩ (.slice (some ⟨g, 0, none⟩) (N + 1) cap)) x n c lx ln lc w4.heap.size wo.heap.size wo.heap.size X C us (.slice (some ⟨g, 0, none⟩) (N + 1) cap) (ls.take N ++ [p] ++ ls.drop N) := by
              rw [hN.out, List.take_length, List.drop_length, List.append_nil, ← hN.out]
              exact hM9
            clear o1 hg9 hMa hO9 hM5 hcel hM9 hbx9
            go_upto_region 23 with fail
            obtain ⟨wL, hwL⟩ : ∃ wL, wL = w9.setCell ⟨w4.heap.size, 1, none⟩ (.slice (some ⟨g, 0, none⟩) (N + 1) cap) := ⟨_, rfl⟩
            rw [← hwL] at hM9' ⊢
            clear hwL o1' oz1
            have k3 : wL.cell? ⟨w4.heap.size, 1, none⟩ = some (.slice (some ⟨g, 0, none⟩) (N + 1) cap) := (box_cells hM9'.box).1 1
            have hN12 : N ≤ 12 := by have := hN.out; have := hll.out; omega
            go_wp2
            clear k3
            go_loopw [14] (fun jv wr => JnMid w x n c lx ln lc w4.heap.size wo.heap.size X C us g N cap ls p jv wr) (fun jv _ => (intOf jv).toNat)
            case atStart => exact ⟨N, by simp, Nat.le_refl _, hM9', fun k h1 h2 => by omega⟩
            case round =>
              clear hM9'
              obtain ⟨j, rfl, hjN, hM, hgt⟩ := hrel
              have hcl : Hid ((ls.take j ++ [p] ++ ls.drop j).length = N + 1) := by show _ = _; have := hN.out; simp; omega
              rcases Nat.eq_zero_or_pos j with hj0 | hj0
              · have hz1 : ¬ 0 < j := by omega
                have hz2 : decide (0 < j) = false := by simp; omega
                have hR : Hid (JoinR vs ls a b us (ls.take j ++ [p] ++ ls.drop j)) := ⟨hsv, by rw [← hpp.out]; exact (ins_end hrl.out (by rw [← hN.out]; exact hjN) (fun k h1 h2 => hgt.out k h1 (by rw [hN.out]; exact h2)) (.inl hj0)).symm⟩
                clear hj0
                obtain ⟨ms, hms⟩ : ∃ ms, ms = (ls.take j ++ [p] ++ ls.drop j) := ⟨_, rfl⟩
                rw [← hms] at hM hR hcl
                have hslr : Hid (NO wr wo.heap.size (.agg #[.slice X us.length C, (.slice (some ⟨g, 0, none⟩) (N + 1) cap)]) us ms) := NO.of hM.all (Nat.le_refl _) hM.von (Nat.le_refl _) hM.row (Nat.le_refl _)
                have g0 : wr.cell? ⟨w4.heap.size, 0, none⟩ = some (.slice X us.length C) := (box_cells hM.box).1 0
                have g1 : wr.cell? ⟨w4.heap.size, 1, none⟩ = some (.slice (some ⟨g, 0, none⟩) (N + 1) cap) := (box_cells hM.box).1 1
                have k0 : wr.cell? ⟨w.heap.size, 0, none⟩ = some (.slice x n c) := (box_cells hM.tm.hb).1 0
                have k1 : wr.cell? ⟨w.heap.size, 1, none⟩ = some (.slice lx ln lc) := (box_cells hM.tm.hb).1 1
                have ks0 : wr.cell? ⟨w.heap.size + 1, 0, none⟩ = some (.slice none 0 0) := (box_cells hM.tm.hs).1 0
                have ks1 : wr.cell? ⟨w.heap.size + 1, 1, none⟩ = some (.slice none 0 0) := (box_cells hM.tm.hs).1 1
                have kz0 := (box_cells hM.tm.hs).2 0
                have kz1 := (box_cells hM.tm.hs).2 1
                go_wp2
                refine bodyPost_ret (v := .tuple #[.agg #[.slice X us.length C, (.slice (some ⟨g, 0, none⟩) (N + 1) cap)], .int .i64 0]) (by simp [results, Tryz.results20, go_sem, ks0, ks1]) rfl ?_
                refine NPost.ok hE3.out ((hM.tm.below.setCell (p := ⟨w.heap.size + 1, 0, none⟩) (Nat.le_add_right _ _) _).setCell (p := ⟨w.heap.size + 1, 1, none⟩) (Nat.le_add_right _ _) _) (us := us) (ms := ms) ?_ hR.out
                obtain ⟨vV, vK, e, h1, h2, h3⟩ := (hslr.out.put (o := 0) (v := .slice X us.length C) hws.out).put (o := 1) (v := (.slice (some ⟨g, 0, none⟩) (N + 1) cap)) hws.out
                exact ⟨vV, vK, e, h1.low (by have := hws.out; omega), fun u hu => (h2 u hu).low (by have := hws.out; omega), h3.low (by have := hws.out; omega)⟩
              · obtain ⟨q, rfl⟩ : ∃ q, j = q + 1 := ⟨j - 1, by omega⟩
                clear hj0
                have hql : q < ls.length := by rw [← hN.out]; omega
                obtain ⟨y0, y1⟩ := hM.row.cells q (by rw [hcl.out]; omega)
                obtain ⟨v0, v1⟩ := hM.row.cells (q + 1) (by rw [hcl.out]; omega)
                rw [(insK_at hql).1] at y0 y1
                rw [(insK_at hql).2] at v0 v1
                have q0 : (0 : Int) ≤ q := by omega
                have q1 : (q : Int) < (N : Int) + 1 := by omega
                have q2 : (q : Int) + 1 < (N : Int) + 1 := by omega
                have q3 : (0 : Int) ≤ (q : Int) + 1 := by omega
                have q4 : (0 : Int) < (q : Int) + 1 := by omega
                have qw : IntKind.i64.wrap ((q : Int)) = (q : Int) := by rw [IntKind.wrap_i64]; omega
                have k3 : wr.cell? ⟨w4.heap.size, 1, none⟩ = some (.slice (some ⟨g, 0, none⟩) (N + 1) cap) := (box_cells hM.box).1 1
                generalize hlq : lkAt ls q = lq at *
                go_upto_region 26 with fail
                go_cut [15, 16] (fun p1 p2 wc => ∃ bp bq, p1 = .pointer (some ⟨bp, 0, none⟩) ∧ p2 = .pointer (some ⟨bq, 0, none⟩) ∧ wc.heap[bp]? = some (.cells #[.int .i64 lq.1, .int .i64 lq.2] 63) ∧ wc.heap[bq]? = some (.cells #[.int .i64 p.1, .int .i64 p.2] 63) ∧ Below wr.heap.size wr wc ∧ wr.heap.size ≤ bp ∧ wr.heap.size ≤ bq)
                case first =>
                  go_region_held3 (fun w' => w'.cell? ⟨w4.heap.size, 1, none⟩ = some (.slice (some ⟨g, 0, none⟩) (N + 1) cap) ∧ w'.cell? ⟨g, q * 2, none⟩ = some (.int .i64 lq.1) ∧ w'.cell? ⟨g, q * 2 + 1, none⟩ = some (.int .i64 lq.2) ∧ w'.cell? ⟨g, (q + 1) * 2, none⟩ = some (.int .i64 p.1) ∧ w'.cell? ⟨g, (q + 1) * 2 + 1, none⟩ = some (.int .i64 p.2)) (first | (go_keep; done)) (fail)
                  · go_wp2
                    go_meet
                    case rel => exact ⟨wr.heap.size, wr.heap.size + 1, rfl, rfl, heap_old _ (heap_new _ rfl), heap_new _ (by simp), (bl2 wr _ _).drew, Nat.le_refl _, Nat.le_succ _⟩
                  · go_wp2
                    go_meet
                    case rel => exact ⟨wr.heap.size + 1, wr.heap.size, rfl, rfl, heap_new _ (by simp), heap_old _ (heap_new _ rfl), (bl2 wr _ _).drew, Nat.le_succ _, Nat.le_refl _⟩
                case rest =>
                obtain ⟨bp, bq, rfl, rfl, hbp, hbq, hbc, hbp0, hbq0⟩ := hcut
                obtain ⟨wx, hwx⟩ : ∃ wx, wx = wc := ⟨_, rfl⟩
                subst hwx
                have hgl : g < wr.heap.size := by
                  obtain ⟨-, cc, hcc⟩ := hM.row.block
                  exact (Array.getElem?_eq_some_iff.1 hcc).1
                have hMc := hM.later hbc
                clear y0 y1 v0 v1 k3 hM hbc
                have x0 : wx.cell? ⟨bp, 0, none⟩ = some (.int .i64 lq.1) := (box_cells hbp).1 0
                have x1 : wx.cell? ⟨bp, 1, none⟩ = some (.int .i64 lq.2) := (box_cells hbp).1 1
                have z0 : wx.cell? ⟨bq, 0, none⟩ = some (.int .i64 p.1) := (box_cells hbq).1 0
                have z1 : wx.cell? ⟨bq, 1, none⟩ = some (.int .i64 p.2) := (box_cells hbq).1 1
                obtain ⟨lt, hlt⟩ : ∃ lt, Hid (lkLt lq p = lt) := ⟨_, rfl⟩
                go_upto_region 27 with fail
                go_cut [153] (fun v wc => v = .bool lt ∧ wc = wx)
                case first =>
                  by_cases e1 : lq.1 < p.1
                  · have hlf : Hid (lt = true) := by show _ = _; rw [← hlt.out]; unfold lkLt; simp [e1]
                    go_wp2
                    go_meet
                    case rel => exact ⟨by rw [hlf.out], rfl⟩
                  · by_cases e2 : lq.1 = p.1
                    · have e2' : (lq.1 == p.1) = true := by simpa using e2
                      by_cases e3 : lq.2 < p.2
                      · have hlf : Hid (lt = true) := by show _ = _; rw [← hlt.out]; unfold lkLt; simp [e2, e3]
                        clear e2
                        go_wp2
                        go_meet
                        case rel => exact ⟨by rw [hlf.out], rfl⟩
                      · have hlf : Hid (lt = false) := by show _ = _; rw [← hlt.out]; unfold lkLt; simp [e2, e3]
                        clear e2
                        go_wp2
                        go_meet
                        case rel => exact ⟨by rw [hlf.out], rfl⟩
                    · have e2' : (lq.1 == p.1) = false := by simpa using e2
                      have hlf : Hid (lt = false) := by show _ = _; rw [← hlt.out]; unfold lkLt; simp [e1, e2]
                      clear e2
                      go_wp2
                      go_meet
                      case rel => exact ⟨by rw [hlf.out], rfl⟩
                case rest =>
                obtain ⟨rfl, hwc⟩ := hcut
                subst hwc
                clear x0 x1 z0 z1
                cases lt with
                | true =>
                  have hR : Hid (JoinR vs ls a b us (ls.take (q + 1) ++ [p] ++ ls.drop (q + 1))) := ⟨hsv, by rw [← hpp.out]; exact (ins_end hrl.out (by rw [← hN.out]; exact hjN) (fun k h1 h2 => hgt.out k h1 (by rw [hN.out]; exact h2)) (.inr (by rw [Nat.add_sub_cancel, hlq]; exact hlt.out))).symm⟩
                  clear hbp hbq
                  obtain ⟨ms, hms⟩ : ∃ ms, ms = (ls.take (q + 1) ++ [p] ++ ls.drop (q + 1)) := ⟨_, rfl⟩
                  rw [← hms] at hMc hR hcl
                  have hslr : Hid (NO wc wo.heap.size (.agg #[.slice X us.length C, (.slice (some ⟨g, 0, none⟩) (N + 1) cap)]) us ms) := NO.of hMc.all (Nat.le_refl _) hMc.von (Nat.le_refl _) hMc.row (Nat.le_refl _)
                  have g0 : wc.cell? ⟨w4.heap.size, 0, none⟩ = some (.slice X us.length C) := (box_cells hMc.box).1 0
                  have g1 : wc.cell? ⟨w4.heap.size, 1, none⟩ = some (.slice (some ⟨g, 0, none⟩) (N + 1) cap) := (box_cells hMc.box).1 1
                  have k0 : wc.cell? ⟨w.heap.size, 0, none⟩ = some (.slice x n c) := (box_cells hMc.tm.hb).1 0
                  have k1 : wc.cell? ⟨w.heap.size, 1, none⟩ = some (.slice lx ln lc) := (box_cells hMc.tm.hb).1 1
                  have ks0 : wc.cell? ⟨w.heap.size + 1, 0, none⟩ = some (.slice none 0 0) := (box_cells hMc.tm.hs).1 0
                  have ks1 : wc.cell? ⟨w.heap.size + 1, 1, none⟩ = some (.slice none 0 0) := (box_cells hMc.tm.hs).1 1
                  have kz0 := (box_cells hMc.tm.hs).2 0
                  have kz1 := (box_cells hMc.tm.hs).2 1
                  go_wp2
                  refine bodyPost_ret (v := .tuple #[.agg #[.slice X us.length C, (.slice (some ⟨g, 0, none⟩) (N + 1) cap)], .int .i64 0]) (by simp [results, Tryz.results20, go_sem, ks0, ks1]) rfl ?_
                  refine NPost.ok hE3.out ((hMc.tm.below.setCell (p := ⟨w.heap.size + 1, 0, none⟩) (Nat.le_add_right _ _) _).setCell (p := ⟨w.heap.size + 1, 1, none⟩) (Nat.le_add_right _ _) _) (us := us) (ms := ms) ?_ hR.out
                  obtain ⟨vV, vK, e, h1, h2, h3⟩ := (hslr.out.put (o := 0) (v := .slice X us.length C) hws.out).put (o := 1) (v := (.slice (some ⟨g, 0, none⟩) (N + 1) cap)) hws.out
                  exact ⟨vV, vK, e, h1.low (by have := hws.out; omega), fun u hu => (h2 u hu).low (by have := hws.out; omega), h3.low (by have := hws.out; omega)⟩
                | false =>
                  have hlt2 : Hid (lkLt p lq = true) := by
                    refine lkLt_tri hlt.out (fun e => hnm.out ?_)
                    rw [← hpp.out, ← e, ← hlq]
                    exact lkAt_mem hql
                  obtain ⟨y0, y1⟩ := hMc.row.cells q (by rw [hcl.out]; omega)
                  have z0 := hMc.row.frozen (q * 2)
                  have z1 := hMc.row.frozen (q * 2 + 1)
                  have b0 : wc.cell? ⟨bq, 0, none⟩ = some (.int .i64 p.1) := (box_cells hbq).1 0
                  have b1 : wc.cell? ⟨bq, 1, none⟩ = some (.int .i64 p.2) := (box_cells hbq).1 1
                  have k3 : wc.cell? ⟨w4.heap.size, 1, none⟩ = some (.slice (some ⟨g, 0, none⟩) (N + 1) cap) := (box_cells hMc.box).1 1
                  have hpg : bp ≠ g := by omega
                  go_upto_region 29 with fail
                  have hMe := hMc.setL q (by rw [hcl.out]; omega) p
                  have hbpe : (setK wc g q p).heap[bp]? = some (.cells #[.int .i64 lq.1, .int .i64 lq.2] 63) := (setK_box hpg).trans hbp
                  obtain ⟨we, hwe⟩ : ∃ we, we = setK wc g q p := ⟨_, rfl⟩
                  rw [← hwe] at hMe hbpe
                  unfold setK at hwe
                  rw [← hwe]
                  clear hwe y0 y1 z0 z1 b0 b1 k3 hMc hbp hbq
                  have hcl2 : Hid (((ls.take (q + 1) ++ [p] ++ ls.drop (q + 1)).set q p).length = N + 1) := by show _ = _; rw [List.length_set]; exact hcl.out
                  obtain ⟨y0, y1⟩ := hMe.row.cells (q + 1) (by rw [hcl2.out]; omega)
                  have z0 := hMe.row.frozen ((q + 1) * 2)
                  have z1 := hMe.row.frozen ((q + 1) * 2 + 1)
                  have b0 : we.cell? ⟨bp, 0, none⟩ = some (.int .i64 lq.1) := (box_cells hbpe).1 0
                  have b1 : we.cell? ⟨bp, 1, none⟩ = some (.int .i64 lq.2) := (box_cells hbpe).1 1
                  have k3 : we.cell? ⟨w4.heap.size, 1, none⟩ = some (.slice (some ⟨g, 0, none⟩) (N + 1) cap) := (box_cells hMe.box).1 1
                  have hMh := hMe.setL (q + 1) (by rw [hcl2.out]; omega) lq
                  rw [← hlq, swap_insK hql, hlq] at hMh
                  unfold setK at hMh
                  have hlqH : Hid (lkAt ls q = lq) := hlq
                  clear hMe hbpe hlq
                  go_wp2
                  go_roundw
                  case rel => exact ⟨q, by go_num, by omega, hMh, fun k h1 h2 => by
                    by_cases hk : k = q
                    · subst hk; rw [hlqH.out]; exact hlt2.out
                    · exact hgt.out k (by omega) h2⟩
                  case measure => simp [intOf]
  · obtain ⟨t, ht⟩ : ∃ t, chkN n vs ln ls = t := ⟨_, rfl⟩
    have hck := checkNetP_is x n c vs lx ln lc ls t ht w0 (hp.later hT0.below) hn (hl.later hT0.below) hln
    rw [ht] at hc0 hEE
    have hE1 : Hid (E = t ∧ t ≠ 0) := ⟨by rw [hEE.out, if_neg hc0], hc0⟩
    have hne : (t != 0) = true := by simpa using hc0
    clear hEE ht
    go_wp2_with fail
    refine hck.mono ?_
    rintro e w1 ⟨rfl, hb⟩
    have hT1 := hT0.later hb
    clear k0 k1 ks0 ks1 kz0 kz1
    have k0 : w1.cell? ⟨w.heap.size, 0, none⟩ = some (.slice x n c) := (box_cells hT1.hb).1 0
    have k1 : w1.cell? ⟨w.heap.size, 1, none⟩ = some (.slice lx ln lc) := (box_cells hT1.hb).1 1
    have ks0 : w1.cell? ⟨w.heap.size + 1, 0, none⟩ = some (.slice none 0 0) := (box_cells hT1.hs).1 0
    have ks1 : w1.cell? ⟨w.heap.size + 1, 1, none⟩ = some (.slice none 0 0) := (box_cells hT1.hs).1 1
    have kz0 := (box_cells hT1.hs).2 0
    have kz1 := (box_cells hT1.hs).2 1
    clear hck
    go_wp2
    refine bodyPost_ret (v := .tuple #[.agg #[.slice none 0 0, .slice none 0 0], .int .i64 t]) (by simp [results, Tryz.results20, go_sem, ks0, ks1]) rfl ?_
    exact NPost.err hE1.out ((hT1.below.setCell (p := ⟨w.heap.size + 1, 0, none⟩) (Nat.le_add_right _ _) _).setCell (p := ⟨w.heap.size + 1, 1, none⟩) (Nat.le_add_right _ _) _)
end Go.Proofs.YtlalgkjollgcbaaGreat
/- The law NetJoins. -/
namespace Go.Proofs.YtlalgkjollgcbaaGreat
open Go.RowKit Go.Shelf

/-- What an operation answers, in one form: a net that is so, or nothing. -/
theorem NPost.bothJ {E : Int} {R : List Vn → List (Int × Int) → Prop} {w w' : World} {e : Ending} (h : NPost E R w e w') : ∃ V us ms, e = .returned (.tuple #[V, .int .i64 E]) ∧ Below w.heap.size w w' ∧ NN w' V us ms ∧ (E = 0 → R us ms) ∧ (E ≠ 0 → us = [] ∧ ms = []) := by
  obtain ⟨V, h1, h2, h3, h4⟩ := h
  by_cases h0 : E = 0
  · obtain ⟨us, ms, h5, h6⟩ := h4 h0
    exact ⟨V, us, ms, h1, h2, h5.nn, fun _ => h6, fun h => absurd h0 h⟩
  · refine ⟨V, [], [], h1, h2, ?_, fun h => absurd h h0, fun _ => ⟨rfl, rfl⟩⟩
    rw [h3 h0]
    exact ⟨none, 0, none, 0, rfl, ⟨rfl, fun i hi => absurd hi (Nat.not_lt_zero _), fun i hi => absurd hi (Nat.not_lt_zero _)⟩, ⟨rfl, fun i hi => absurd hi (Nat.not_lt_zero _)⟩, Nat.le_refl _, by omega, Nat.le_refl _, by omega⟩
theorem NN.aggJ {w : World} {V : Value} {us : List Vn} {ms : List (Int × Int)} (h : NN w V us ms) : ∃ X C Y D, V = .agg #[.slice X us.length C, .slice Y ms.length D] := by
  obtain ⟨X, C, Y, D, e, -⟩ := h
  exact ⟨X, C, Y, D, e⟩
/-- A link that is cut out is gone, and no other. -/
theorem cut_del {a b : Int} {ls ms : List (Int × Int)} (hr : riseLB ls = true) (h : CutLk a b ls ms) : ms = delLk (min a b, max a b) ls := by
  obtain ⟨i, hi, he, rfl⟩ := h
  unfold eqLk at he
  simp only [Bool.and_eq_true, decide_eq_true_eq] at he
  have hip : lkAt ls i = (min a b, max a b) := Prod.ext he.1.symm he.2.symm
  have hne : ∀ j, j < ls.length → j ≠ i → ¬ ((lkAt ls j).1 = min a b ∧ (lkAt ls j).2 = max a b) := fun j hj hji e => by
    have e2 : lkAt ls j = lkAt ls i := by rw [hip]; exact Prod.ext e.1 e.2
    rcases Nat.lt_or_gt_of_ne hji with h1 | h1
    · have h2 := riseK_lt hr i j h1 hi
      rw [e2] at h2
      have h3 := lkLt_not h2
      rw [h2] at h3
      cases h3
    · have h2 := riseK_lt hr j i h1 hj
      rw [e2] at h2
      have h3 := lkLt_not h2
      rw [h2] at h3
      cases h3
  have hat : ∀ j (hj : j < ls.length), ls[j] = lkAt ls j := fun j hj => by
    unfold lkAt
    rw [List.getD_eq_getElem?_getD, List.getElem?_eq_getElem hj]
    rfl
  have hsplit : ls = ls.take i ++ (lkAt ls i :: ls.drop (i + 1)) := by
    rw [← hat i hi, ← List.drop_eq_getElem_cons hi, List.take_append_drop]
  have h1 : (ls.take i).filter (fun q => !(decide (q.1 = min a b) && decide (q.2 = max a b))) = ls.take i := by
    rw [List.filter_eq_self]
    intro q hq
    obtain ⟨j, hj, rfl⟩ := List.getElem_of_mem hq
    rw [List.length_take] at hj
    rw [List.getElem_take, hat j (by omega)]
    have := hne j (by omega) (by omega)
    rw [Bool.not_eq_true', ← Bool.not_eq_true, Bool.and_eq_true, decide_eq_true_eq, decide_eq_true_eq]
    exact this
  have h2 : (ls.drop (i + 1)).filter (fun q => !(decide (q.1 = min a b) && decide (q.2 = max a b))) = ls.drop (i + 1) := by
    rw [List.filter_eq_self]
    intro q hq
    obtain ⟨j, hj, rfl⟩ := List.getElem_of_mem hq
    rw [List.length_drop] at hj
    rw [List.getElem_drop, hat _ (by omega)]
    have := hne (i + 1 + j) (by omega) (by omega)
    rw [Bool.not_eq_true', ← Bool.not_eq_true, Bool.and_eq_true, decide_eq_true_eq, decide_eq_true_eq]
    exact this
  unfold delLk
  show _ = ls.filter (fun q => !(decide (q.1 = min a b) && decide (q.2 = max a b)))
  conv => rhs; rw [hsplit]
  rw [List.filter_append, List.filter_cons_of_neg (by rw [hip]; simp), h1, h2]
theorem partE_zero {n : Nat} {vs : List Vn} {ln : Nat} {ls : List (Int × Int)} {a b : Int} (h : partE n vs ln ls a b = 0) : riseLB ls = true := by
  unfold partE at h
  split at h
  · rename_i h0
    have h1 := (chkN_zero h0).2.2.2.1
    unfold linksB at h1
    rw [Bool.and_eq_true] at h1
    exact h1.1
  · rename_i h0
    exact absurd h h0

set_option maxRecDepth 100000 in
set_option maxHeartbeats 25600000 in
theorem netJoins_any (x : Option Addr) (n c : Nat) (vs : List Vn) (lx : Option Addr) (ln lc : Nat) (ls : List (Int × Int)) (a b : Int) (w : World) (hp : VS w x n vs) (hn : n ≤ 9223372036854775807) (hnc : n ≤ c) (hl : PS w lx ln ls) (hln : ln ≤ 9223372036854775807) :
    Calls Tryz.prog 4 #[.agg #[.slice x n c, .slice lx ln lc], .int .i64 a, .int .i64 b] w fun e w' => e = .returned (.bool true) ∧ Below w.heap.size w w' := by
  go_enter Tryz.func4, Tryz.ntmps4
  go_upto_region 1 with fail
  obtain ⟨w0, hw0⟩ : ∃ w0, w0 = w.alloc (netO x n c lx ln lc) := ⟨_, rfl⟩
  rw [← hw0]
  have hB : Below w.heap.size w w0 := by rw [hw0]; exact bl1 w _
  have hbox : w0.heap[w.heap.size]? = some (netO x n c lx ln lc) := by rw [hw0]; exact heap_new _ rfl
  clear hw0
  replace hp := hp.later hB
  replace hl := hl.later hB
  have hsz : Hid (w.heap.size ≤ w0.heap.size) := hB.size
  generalize hbk : w.heap.size = bk at *
  have q0 : w0.cell? ⟨bk, 0, none⟩ = some (.slice x n c) := (box_cells hbox).1 0
  have q1 : w0.cell? ⟨bk, 1, none⟩ = some (.slice lx ln lc) := (box_cells hbox).1 1
  have hop := join_any x n c vs lx ln lc ls a b w0 hp hn hnc hl hln
  go_wp2_with fail
  refine hop.mono ?_
  rintro e vc hpo
  obtain ⟨Vc, usc, msc, rfl, hbc, hNc, hzc, hnc'⟩ := hpo.bothJ
  clear hop hpo q0 q1
  replace hp := hp.later hbc
  replace hl := hl.later hbc
  replace hbox := heap_later hbc hbox
  replace hB := hB.trans (hbc.mono hsz.out)
  have hsz2 : Hid (bk ≤ vc.heap.size) := Nat.le_trans hsz.out hbc.size
  clear hsz hbc
  have hsz := hsz2
  clear hsz2
  obtain ⟨Xc, Cc, Yc, Dc, hVc⟩ := hNc.aggJ
  subst hVc
  go_upto_region 2 with fail
  obtain ⟨wc, hwc⟩ : ∃ wc, wc = vc.alloc (netB (.slice Xc usc.length Cc) (.slice Yc msc.length Dc)) := ⟨_, rfl⟩
  rw [← hwc]
  have hbc : Below vc.heap.size vc wc := by rw [hwc]; exact bl1 vc _
  have hxc : wc.heap[vc.heap.size]? = some (netB (.slice Xc usc.length Cc) (.slice Yc msc.length Dc)) := by rw [hwc]; exact heap_new _ rfl
  clear hwc
  replace hp := hp.later hbc
  replace hl := hl.later hbc
  replace hbox := heap_later hbc hbox
  replace hNc := hNc.later hbc
  replace hB := hB.trans (hbc.mono hsz.out)
  have hsz2 : Hid (bk ≤ wc.heap.size) := Nat.le_trans hsz.out hbc.size
  clear hsz hbc
  have hsz := hsz2
  clear hsz2
  generalize vc.heap.size = bc at *
  have q0 : wc.cell? ⟨bk, 0, none⟩ = some (.slice x n c) := (box_cells hbox).1 0
  have q1 : wc.cell? ⟨bk, 1, none⟩ = some (.slice lx ln lc) := (box_cells hbox).1 1
  have hop := part_any x n c vs lx ln lc ls a b wc hp hn hnc hl hln
  go_wp2_with fail
  refine hop.mono ?_
  rintro e vd hpo
  obtain ⟨Vd, usd, msd, rfl, hbd, hNd, hzd, hnd⟩ := hpo.bothJ
  clear hop hpo q0 q1
  replace hp := hp.later hbd
  replace hl := hl.later hbd
  replace hbox := heap_later hbd hbox
  replace hNc := hNc.later hbd
  replace hxc := heap_later hbd hxc
  replace hB := hB.trans (hbd.mono hsz.out)
  have hsz2 : Hid (bk ≤ vd.heap.size) := Nat.le_trans hsz.out hbd.size
  clear hsz hbd
  have hsz := hsz2
  clear hsz2
  obtain ⟨Xd, Cd, Yd, Dd, hVd⟩ := hNd.aggJ
  subst hVd
  go_upto_region 3 with fail
  obtain ⟨wd, hwd⟩ : ∃ wd, wd = vd.alloc (netB (.slice Xd usd.length Cd) (.slice Yd msd.length Dd)) := ⟨_, rfl⟩
  rw [← hwd]
  have hbd : Below vd.heap.size vd wd := by rw [hwd]; exact bl1 vd _
  have hxd : wd.heap[vd.heap.size]? = some (netB (.slice Xd usd.length Cd) (.slice Yd msd.length Dd)) := by rw [hwd]; exact heap_new _ rfl
  clear hwd
  replace hp := hp.later hbd
  replace hl := hl.later hbd
  replace hbox := heap_later hbd hbox
  replace hNc := hNc.later hbd
  replace hxc := heap_later hbd hxc
  replace hNd := hNd.later hbd
  replace hB := hB.trans (hbd.mono hsz.out)
  have hsz2 : Hid (bk ≤ wd.heap.size) := Nat.le_trans hsz.out hbd.size
  clear hsz hbd
  have hsz := hsz2
  clear hsz2
  generalize vd.heap.size = bd at *
  have q0 : wd.cell? ⟨bk, 0, none⟩ = some (.slice x n c) := (box_cells hbox).1 0
  have q1 : wd.cell? ⟨bk, 1, none⟩ = some (.slice lx ln lc) := (box_cells hbox).1 1
  have hop := joinNet_any x n c vs lx ln lc ls a b wd hp hn hl hln
  go_wp2_with fail
  refine hop.mono ?_
  rintro e vx hpo
  obtain ⟨Vx, usx, msx, rfl, hbx, hNx, hzx, hnx⟩ := hpo.bothJ
  clear hop hpo q0 q1
  replace hp := hp.later hbx
  replace hl := hl.later hbx
  replace hbox := heap_later hbx hbox
  replace hNc := hNc.later hbx
  replace hxc := heap_later hbx hxc
  replace hNd := hNd.later hbx
  replace hxd := heap_later hbx hxd
  replace hB := hB.trans (hbx.mono hsz.out)
  have hsz2 : Hid (bk ≤ vx.heap.size) := Nat.le_trans hsz.out hbx.size
  clear hsz hbx
  have hsz := hsz2
  clear hsz2
  obtain ⟨Xx, Cx, Yx, Dx, hVx⟩ := hNx.aggJ
  subst hVx
  go_upto_region 4 with fail
  obtain ⟨wx, hwx⟩ : ∃ wx, wx = vx.alloc (netB (.slice Xx usx.length Cx) (.slice Yx msx.length Dx)) := ⟨_, rfl⟩
  rw [← hwx]
  have hbx : Below vx.heap.size vx wx := by rw [hwx]; exact bl1 vx _
  have hxx : wx.heap[vx.heap.size]? = some (netB (.slice Xx usx.length Cx) (.slice Yx msx.length Dx)) := by rw [hwx]; exact heap_new _ rfl
  clear hwx
  replace hp := hp.later hbx
  replace hl := hl.later hbx
  replace hbox := heap_later hbx hbox
  replace hNc := hNc.later hbx
  replace hxc := heap_later hbx hxc
  replace hNd := hNd.later hbx
  replace hxd := heap_later hbx hxd
  replace hNx := hNx.later hbx
  replace hB := hB.trans (hbx.mono hsz.out)
  have hsz2 : Hid (bk ≤ wx.heap.size) := Nat.le_trans hsz.out hbx.size
  clear hsz hbx
  have hsz := hsz2
  clear hsz2
  generalize vx.heap.size = bx at *
  have q0 : wx.cell? ⟨bk, 0, none⟩ = some (.slice x n c) := (box_cells hbox).1 0
  have q1 : wx.cell? ⟨bk, 1, none⟩ = some (.slice lx ln lc) := (box_cells hbox).1 1
  have hop := partNet_any x n c vs lx ln lc ls a b wx hp hn hl hln
  go_wp2_with fail
  refine hop.mono ?_
  rintro e vz hpo
  obtain ⟨Vz, usz, msz, rfl, hbz, hNz, hzz, hnz⟩ := hpo.bothJ
  clear hop hpo q0 q1
  replace hp := hp.later hbz
  replace hl := hl.later hbz
  replace hbox := heap_later hbz hbox
  replace hNc := hNc.later hbz
  replace hxc := heap_later hbz hxc
  replace hNd := hNd.later hbz
  replace hxd := heap_later hbz hxd
  replace hNx := hNx.later hbz
  replace hxx := heap_later hbz hxx
  replace hB := hB.trans (hbz.mono hsz.out)
  have hsz2 : Hid (bk ≤ vz.heap.size) := Nat.le_trans hsz.out hbz.size
  clear hsz hbz
  have hsz := hsz2
  clear hsz2
  obtain ⟨Xz, Cz, Yz, Dz, hVz⟩ := hNz.aggJ
  subst hVz
  go_upto_region 5 with fail
  obtain ⟨wz, hwz⟩ : ∃ wz, wz = vz.alloc (netB (.slice Xz usz.length Cz) (.slice Yz msz.length Dz)) := ⟨_, rfl⟩
  rw [← hwz]
  have hbz : Below vz.heap.size vz wz := by rw [hwz]; exact bl1 vz _
  have hxz : wz.heap[vz.heap.size]? = some (netB (.slice Xz usz.length Cz) (.slice Yz msz.length Dz)) := by rw [hwz]; exact heap_new _ rfl
  clear hwz
  replace hp := hp.later hbz
  replace hl := hl.later hbz
  replace hbox := heap_later hbz hbox
  replace hNc := hNc.later hbz
  replace hxc := heap_later hbz hxc
  replace hNd := hNd.later hbz
  replace hxd := heap_later hbz hxd
  replace hNx := hNx.later hbz
  replace hxx := heap_later hbz hxx
  replace hNz := hNz.later hbz
  replace hB := hB.trans (hbz.mono hsz.out)
  have hsz2 : Hid (bk ≤ wz.heap.size) := Nat.le_trans hsz.out hbz.size
  clear hsz hbz
  have hsz := hsz2
  clear hsz2
  generalize vz.heap.size = bz at *
  have hkM : Hid (usc.map canV = usx.map canV ∧ msx = msc) := by
    by_cases h0 : joinE n vs ln ls a b = 0
    · obtain ⟨p1, p2⟩ := hzc h0
      obtain ⟨p3, p4⟩ := hzx h0
      exact ⟨p1.can.symm.trans p3.can, p4.trans p2.symm⟩
    · obtain ⟨p1, p2⟩ := hnc' h0
      obtain ⟨p3, p4⟩ := hnx h0
      exact ⟨by rw [p1, p3], by rw [p2, p4]⟩
  have hkG : Hid (usd.map canV = usz.map canV ∧ msz = msd) := by
    by_cases h0 : partE n vs ln ls a b = 0
    · obtain ⟨p1, p2⟩ := hzd h0
      obtain ⟨p3, p4⟩ := hzz h0
      exact ⟨p1.can.symm.trans p3.can, p4.trans (cut_del (partE_zero h0) p2).symm⟩
    · obtain ⟨p1, p2⟩ := hnd h0
      obtain ⟨p3, p4⟩ := hnz h0
      exact ⟨by rw [p1, p3], by rw [p2, p4]⟩
  clear hzc hnc' hzd hnd hzx hnx hzz hnz
  have hsA : ∀ W, Below wz.heap.size wz W → Calls Tryz.prog 17 #[.agg #[.slice Xc usc.length Cc, .slice Yc msc.length Dc], .agg #[.slice Xx usx.length Cx, .slice Yx msx.length Dx]] W fun e w' => e = .returned (.bool true) ∧ Below W.heap.size W w' := fun W hW => sameNets_nn (hNc.later hW) (by have h := hNx.later hW; rw [hkM.out.2] at h ⊢; exact h) hkM.out.1
  have hsB : ∀ W, Below wz.heap.size wz W → Calls Tryz.prog 17 #[.agg #[.slice Xd usd.length Cd, .slice Yd msd.length Dd], .agg #[.slice Xz usz.length Cz, .slice Yz msz.length Dz]] W fun e w' => e = .returned (.bool true) ∧ Below W.heap.size W w' := fun W hW => sameNets_nn (hNd.later hW) (by have h := hNz.later hW; rw [hkG.out.2] at h ⊢; exact h) hkG.out.1
  have a0 : ∀ u : Ws wz.heap.size wz, u.val.cell? ⟨bc, 0, none⟩ = some (.slice Xc usc.length Cc) := Ws.here ((box_cells hxc).1 0)
  have a1 : ∀ u : Ws wz.heap.size wz, u.val.cell? ⟨bc, 1, none⟩ = some (.slice Yc msc.length Dc) := Ws.here ((box_cells hxc).1 1)
  have a2 : ∀ u : Ws wz.heap.size wz, u.val.cell? ⟨bx, 0, none⟩ = some (.slice Xx usx.length Cx) := Ws.here ((box_cells hxx).1 0)
  have a3 : ∀ u : Ws wz.heap.size wz, u.val.cell? ⟨bx, 1, none⟩ = some (.slice Yx msx.length Dx) := Ws.here ((box_cells hxx).1 1)
  have a4 : ∀ u : Ws wz.heap.size wz, u.val.cell? ⟨bd, 0, none⟩ = some (.slice Xd usd.length Cd) := Ws.here ((box_cells hxd).1 0)
  have a5 : ∀ u : Ws wz.heap.size wz, u.val.cell? ⟨bd, 1, none⟩ = some (.slice Yd msd.length Dd) := Ws.here ((box_cells hxd).1 1)
  have a6 : ∀ u : Ws wz.heap.size wz, u.val.cell? ⟨bz, 0, none⟩ = some (.slice Xz usz.length Cz) := Ws.here ((box_cells hxz).1 0)
  have a7 : ∀ u : Ws wz.heap.size wz, u.val.cell? ⟨bz, 1, none⟩ = some (.slice Yz msz.length Dz) := Ws.here ((box_cells hxz).1 1)
  clear hxc hxd hxx hxz hbox hNc hNd hNx hNz hp hl hkM hkG
  generalize joinE n vs ln ls a b = Em at *
  generalize partE n vs ln ls a b = Eg at *
  refine wp_region_wf wz.heap.size ?_
  repeat (go_big_quiet_step (first | (go_at_call 14; exact Calls.in_ws (Nat.le_refl _) (netBegun_any _)) | (go_at_call_of 17 Xc; exact Calls.in_ws (Nat.le_refl _) (hsA _ (Ws.property _))) | (go_at_call_of 17 Xd; exact Calls.in_ws (Nat.le_refl _) (hsB _ (Ws.property _)))))
  refine wpQuiet_nil ?_
  rintro _ ⟨u, rfl⟩
  have hu := hB.trans (u.property.mono hsz.out)
  generalize u.val = wu at hu ⊢
  clear u a0 a1 a2 a3 a4 a5 a6 a7
  go_wp2
  go_ret
  exact ⟨rfl, by first | exact hu | (rw [hbk]; exact hu)⟩
end Go.Proofs.YtlalgkjollgcbaaGreat
