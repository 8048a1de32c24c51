/- The law NetGrows. -/
import Derived.Test.YtlalgkjollgcbaaGreatMN20
namespace Go.Proofs.YtlalgkjollgcbaaGreat
open Go.RowKit Go.Shelf

/-- What an operation answers, in one form: a net that is so, or nothing. -/
theorem NPost.both {E : Int} {R : List Vn → List (Int × Int) → Prop} {w w' : World} {e : Ending} (h : NPost E R w e w') : ∃ V us ms, e = .returned (.tuple #[V, .int .i64 E]) ∧ Below w.heap.size w w' ∧ NN w' V us ms ∧ (E = 0 → R us ms) ∧ (E ≠ 0 → us = [] ∧ ms = []) := by
  obtain ⟨V, h1, h2, h3, h4⟩ := h
  by_cases h0 : E = 0
  · obtain ⟨us, ms, h5, h6⟩ := h4 h0
    exact ⟨V, us, ms, h1, h2, h5.nn, fun _ => h6, fun h => absurd h0 h⟩
  · refine ⟨V, [], [], h1, h2, ?_, fun h => absurd h h0, fun _ => ⟨rfl, rfl⟩⟩
    rw [h3 h0]
    exact ⟨none, 0, none, 0, rfl, ⟨rfl, fun i hi => absurd hi (Nat.not_lt_zero _), fun i hi => absurd hi (Nat.not_lt_zero _)⟩, ⟨rfl, fun i hi => absurd hi (Nat.not_lt_zero _)⟩, Nat.le_refl _, by omega, Nat.le_refl _, by omega⟩
theorem NN.agg {w : World} {V : Value} {us : List Vn} {ms : List (Int × Int)} (h : NN w V us ms) : ∃ X C Y D, V = .agg #[.slice X us.length C, .slice Y ms.length D] := by
  obtain ⟨X, C, Y, D, e, -⟩ := h
  exact ⟨X, C, Y, D, e⟩

set_option maxRecDepth 100000 in
set_option maxHeartbeats 25600000 in
theorem netGrows_any (x : Option Addr) (n c : Nat) (vs : List Vn) (lx : Option Addr) (ln lc : Nat) (ls : List (Int × Int)) (id : Int) (r : Rg) (w : World) (hp : VS w x n vs) (hn : n ≤ 9223372036854775807) (hnc : n ≤ c) (hl : PS w lx ln ls) (hln : ln ≤ 9223372036854775807) :
    Calls Tryz.prog 3 #[.agg #[.slice x n c, .slice lx ln lc], .int .i64 id, .agg #[.int .i64 r.a, .int .i64 r.l, .int .i64 r.p]] w fun e w' => e = .returned (.bool true) ∧ Below w.heap.size w w' := by
  have hvl : Hid (vs.length = n) := hp.len
  go_enter Tryz.func3, Tryz.ntmps3
  go_upto_region 1 with fail
  obtain ⟨w0, hw0⟩ : ∃ w0, w0 = (w.alloc (netO x n c lx ln lc)).alloc (.cells #[.int .i64 r.a, .int .i64 r.l, .int .i64 r.p] 29) := ⟨_, rfl⟩
  rw [← hw0]
  have hB : Below w.heap.size w w0 := by rw [hw0]; exact bl2 w _ _
  have hbox : w0.heap[w.heap.size]? = some (netO x n c lx ln lc) := by rw [hw0]; exact heap_old _ (heap_new _ rfl)
  have hrb : w0.heap[w.heap.size + 1]? = some (.cells #[.int .i64 r.a, .int .i64 r.l, .int .i64 r.p] 29) := by rw [hw0]; exact heap_new _ (by simp)
  clear hw0
  replace hp := hp.later hB
  replace hl := hl.later hB
  have hsz : Hid (w.heap.size ≤ w0.heap.size) := hB.size
  obtain ⟨br, hbr⟩ : ∃ br, br = w.heap.size + 1 := ⟨_, rfl⟩
  rw [← hbr] at hrb ⊢
  clear hbr
  generalize hbk : w.heap.size = bk at *
  have q0 : w0.cell? ⟨bk, 0, none⟩ = some (.slice x n c) := (box_cells hbox).1 0
  have q1 : w0.cell? ⟨bk, 1, none⟩ = some (.slice lx ln lc) := (box_cells hbox).1 1
  have hgr := group_any x n c vs lx ln lc ls id w0 hp hn hnc hl hln
  go_wp2_with fail
  refine hgr.mono ?_
  rintro e w1 ⟨gv, rfl, hO, hb1⟩
  clear hgr
  clear q0 q1
  replace hp := hp.later hb1
  replace hl := hl.later hb1
  replace hbox := heap_later hb1 hbox
  replace hrb := heap_later hb1 hrb
  replace hB := hB.trans (hb1.mono hsz.out)
  have hsz2 : Hid (bk ≤ w1.heap.size) := Nat.le_trans hsz.out hb1.size
  clear hsz hb1
  have hsz := hsz2
  clear hsz2
  obtain ⟨gx, gc, hgv, -, -, -, hI1⟩ := hO.mem
  subst hgv
  clear hO
  obtain ⟨gl, hgl0⟩ : ∃ gl, gl = (if grpE n vs ln ls id = 0 then grpL ls vs id else []) := ⟨_, rfl⟩
  have hgl : Hid (gl.length ≤ n) := by
    show _ ≤ _
    rw [hgl0]
    split
    · have h1 := List.length_filter_le (fun y => hdOf ls y == hdOf ls id) (idsOf vs)
      have h2 : (idsOf vs).length = vs.length := by unfold idsOf; rw [List.length_map]
      unfold grpL
      rw [h2, hvl.out] at h1
      exact h1
    · exact Nat.zero_le _
  rw [← hgl0] at hI1 ⊢
  have hgl' : Hid (gl = if grpE n vs ln ls id = 0 then grpL ls vs id else []) := hgl0
  clear hgl0
  have q0 : w1.cell? ⟨bk, 0, none⟩ = some (.slice x n c) := (box_cells hbox).1 0
  have q1 : w1.cell? ⟨bk, 1, none⟩ = some (.slice lx ln lc) := (box_cells hbox).1 1
  have hop := make_any x n c vs lx ln lc ls id w1 hp hn hnc hl hln
  go_wp2_with fail
  refine hop.mono ?_
  rintro e va hpo
  obtain ⟨Va, usa, msa, rfl, hba, hNa, hza, hna⟩ := hpo.both
  clear hop hpo
  clear q0 q1
  replace hp := hp.later hba
  replace hl := hl.later hba
  replace hbox := heap_later hba hbox
  replace hrb := heap_later hba hrb
  replace hI1 := hI1.later hba
  replace hB := hB.trans (hba.mono hsz.out)
  have hsz2 : Hid (bk ≤ va.heap.size) := Nat.le_trans hsz.out hba.size
  clear hsz hba
  have hsz := hsz2
  clear hsz2
  obtain ⟨Xa, Ca, Ya, Da, hVa⟩ := hNa.agg
  subst hVa
  go_upto_region 3 with fail
  obtain ⟨wa, hwa⟩ : ∃ wa, wa = va.alloc (netB (.slice Xa usa.length Ca) (.slice Ya msa.length Da)) := ⟨_, rfl⟩
  rw [← hwa]
  have hba : Below va.heap.size va wa := by rw [hwa]; exact bl1 va _
  have hxa : wa.heap[va.heap.size]? = some (netB (.slice Xa usa.length Ca) (.slice Ya msa.length Da)) := by rw [hwa]; exact heap_new _ rfl
  clear hwa
  replace hp := hp.later hba
  replace hl := hl.later hba
  replace hbox := heap_later hba hbox
  replace hrb := heap_later hba hrb
  replace hI1 := hI1.later hba
  replace hNa := hNa.later hba
  replace hB := hB.trans (hba.mono hsz.out)
  have hsz2 : Hid (bk ≤ wa.heap.size) := Nat.le_trans hsz.out hba.size
  clear hsz hba
  have hsz := hsz2
  clear hsz2
  generalize va.heap.size = ba at *
  have q0 : wa.cell? ⟨bk, 0, none⟩ = some (.slice x n c) := (box_cells hbox).1 0
  have q1 : wa.cell? ⟨bk, 1, none⟩ = some (.slice lx ln lc) := (box_cells hbox).1 1
  have r0 : wa.cell? ⟨br, 0, none⟩ = some (.int .i64 r.a) := (box_cells hrb).1 0
  have r1 : wa.cell? ⟨br, 1, none⟩ = some (.int .i64 r.l) := (box_cells hrb).1 1
  have r2 : wa.cell? ⟨br, 2, none⟩ = some (.int .i64 r.p) := (box_cells hrb).1 2
  have hop := ngrow_any x n c vs lx ln lc ls id r wa hp hn hnc hl hln
  go_wp2_with fail
  refine hop.mono ?_
  rintro e vb hpo
  obtain ⟨Vb, usb, msb, rfl, hbb, hNb, hzb, hnb⟩ := hpo.both
  clear hop hpo
  clear q0 q1 r0 r1 r2
  replace hp := hp.later hbb
  replace hl := hl.later hbb
  replace hbox := heap_later hbb hbox
  replace hrb := heap_later hbb hrb
  replace hI1 := hI1.later hbb
  replace hNa := hNa.later hbb
  replace hxa := heap_later hbb hxa
  replace hB := hB.trans (hbb.mono hsz.out)
  have hsz2 : Hid (bk ≤ vb.heap.size) := Nat.le_trans hsz.out hbb.size
  clear hsz hbb
  have hsz := hsz2
  clear hsz2
  obtain ⟨Xb, Cb, Yb, Db, hVb⟩ := hNb.agg
  subst hVb
  go_upto_region 4 with fail
  obtain ⟨wb, hwb⟩ : ∃ wb, wb = vb.alloc (netB (.slice Xb usb.length Cb) (.slice Yb msb.length Db)) := ⟨_, rfl⟩
  rw [← hwb]
  have hbb : Below vb.heap.size vb wb := by rw [hwb]; exact bl1 vb _
  have hxb : wb.heap[vb.heap.size]? = some (netB (.slice Xb usb.length Cb) (.slice Yb msb.length Db)) := by rw [hwb]; exact heap_new _ rfl
  clear hwb
  replace hp := hp.later hbb
  replace hl := hl.later hbb
  replace hbox := heap_later hbb hbox
  replace hrb := heap_later hbb hrb
  replace hI1 := hI1.later hbb
  replace hNa := hNa.later hbb
  replace hxa := heap_later hbb hxa
  replace hNb := hNb.later hbb
  replace hB := hB.trans (hbb.mono hsz.out)
  have hsz2 : Hid (bk ≤ wb.heap.size) := Nat.le_trans hsz.out hbb.size
  clear hsz hbb
  have hsz := hsz2
  clear hsz2
  generalize vb.heap.size = bb at *
  have q0 : wb.cell? ⟨bk, 0, none⟩ = some (.slice x n c) := (box_cells hbox).1 0
  have q1 : wb.cell? ⟨bk, 1, none⟩ = some (.slice lx ln lc) := (box_cells hbox).1 1
  have hck := checkNet_any x n c vs lx ln lc ls wb hp hn hl hln
  by_cases hz : chkN n vs ln ls = 0
  · obtain ⟨hn6, hl12, hvb, hlb, -⟩ := chkN_zero hz
    have hrv : riseVB vs = true := by
      unfold vpcsB at hvb
      rw [Bool.and_eq_true] at hvb
      exact hvb.1
    obtain ⟨t, ht⟩ : ∃ t, vplace n vs id = t := ⟨_, rfl⟩
    have hct : Hid (chkN n vs ln ls = 0) := hz
    rw [hz] at hck
    clear hz hvb
    go_wp2_with fail
    refine hck.mono ?_
    rintro e w4 ⟨rfl, hb4⟩
    clear hck
    clear q0 q1
    replace hp := hp.later hb4
    replace hl := hl.later hb4
    replace hbox := heap_later hb4 hbox
    replace hrb := heap_later hb4 hrb
    replace hI1 := hI1.later hb4
    replace hNa := hNa.later hb4
    replace hxa := heap_later hb4 hxa
    replace hNb := hNb.later hb4
    replace hxb := heap_later hb4 hxb
    replace hB := hB.trans (hb4.mono hsz.out)
    have hsz2 : Hid (bk ≤ w4.heap.size) := Nat.le_trans hsz.out hb4.size
    clear hsz hb4
    have hsz := hsz2
    clear hsz2
    have q0 : w4.cell? ⟨bk, 0, none⟩ = some (.slice x n c) := (box_cells hbox).1 0
    have q1 : w4.cell? ⟨bk, 1, none⟩ = some (.slice lx ln lc) := (box_cells hbox).1 1
    have hva := vpcAt_is x n c vs lx ln lc id t ht w4 hp (by omega)
    rcases vplace_cases n vs id with ⟨i, hi, hid, hpi⟩ | hpi
    · have hg0 : grpE n vs ln ls id = 0 := by unfold grpE; rw [if_pos hct.out, hpi, if_neg (by omega)]
      have hge : Hid (gl = grpL ls vs id) := by show _ = _; rw [hgl'.out, if_pos hg0]
      rw [hg0]
      obtain rfl : t = i := ht.symm.trans hpi
      have hi0 : ¬ ((i : Int) < 0) := by omega
      have hgo := fun W h1 h2 => groupOf_any x n c vs lx ln lc ls id i W h1 (by omega) h2 (by omega) hrv hlb hi hid
      clear ht hg0 hgl' hpi
      go_wp2_with fail
      refine hva.mono ?_
      rintro e w5 ⟨rfl, hb5⟩
      clear hva
      clear q0 q1
      replace hp := hp.later hb5
      replace hl := hl.later hb5
      replace hbox := heap_later hb5 hbox
      replace hrb := heap_later hb5 hrb
      replace hI1 := hI1.later hb5
      replace hNa := hNa.later hb5
      replace hxa := heap_later hb5 hxa
      replace hNb := hNb.later hb5
      replace hxb := heap_later hb5 hxb
      replace hB := hB.trans (hb5.mono hsz.out)
      have hsz2 : Hid (bk ≤ w5.heap.size) := Nat.le_trans hsz.out hb5.size
      clear hsz hb5
      have hsz := hsz2
      clear hsz2
      have q0 : w5.cell? ⟨bk, 0, none⟩ = some (.slice x n c) := (box_cells hbox).1 0
      have q1 : w5.cell? ⟨bk, 1, none⟩ = some (.slice lx ln lc) := (box_cells hbox).1 1
      have hgo5 := hgo w5 hp hl
      clear hgo
      go_wp2_with fail
      refine hgo5.mono ?_
      rintro e w6 ⟨kv, rfl, hO6, hb6⟩
      clear hgo5
      clear q0 q1
      replace hp := hp.later hb6
      replace hl := hl.later hb6
      replace hbox := heap_later hb6 hbox
      replace hrb := heap_later hb6 hrb
      replace hI1 := hI1.later hb6
      replace hNa := hNa.later hb6
      replace hxa := heap_later hb6 hxa
      replace hNb := hNb.later hb6
      replace hxb := heap_later hb6 hxb
      replace hB := hB.trans (hb6.mono hsz.out)
      have hsz2 : Hid (bk ≤ w6.heap.size) := Nat.le_trans hsz.out hb6.size
      clear hsz hb6
      have hsz := hsz2
      clear hsz2
      rw [← hge.out] at hO6
      clear hge
      obtain ⟨kx, kc, hkv, -, -, -, hI2⟩ := hO6.mem
      subst hkv
      clear hO6
      have q0 : w6.cell? ⟨bk, 0, none⟩ = some (.slice x n c) := (box_cells hbox).1 0
      have q1 : w6.cell? ⟨bk, 1, none⟩ = some (.slice lx ln lc) := (box_cells hbox).1 1
      have hop := makeNet_any x n c vs lx ln lc ls id w6 hp hn hl hln
      go_wp2_with fail
      refine hop.mono ?_
      rintro e vx hpo
      obtain ⟨Vx, usx, msx, rfl, hbx, hNx, hzx, hnx⟩ := hpo.both
      clear hop hpo
      clear q0 q1
      replace hp := hp.later hbx
      replace hl := hl.later hbx
      replace hbox := heap_later hbx hbox
      replace hrb := heap_later hbx hrb
      replace hI1 := hI1.later hbx
      replace hNa := hNa.later hbx
      replace hxa := heap_later hbx hxa
      replace hNb := hNb.later hbx
      replace hxb := heap_later hbx hxb
      replace hI2 := hI2.later hbx
      replace hB := hB.trans (hbx.mono hsz.out)
      have hsz2 : Hid (bk ≤ vx.heap.size) := Nat.le_trans hsz.out hbx.size
      clear hsz hbx
      have hsz := hsz2
      clear hsz2
      obtain ⟨Xx, Cx, Yx, Dx, hVx⟩ := hNx.agg
      subst hVx
      go_upto_region 12 with fail
      obtain ⟨wx, hwx⟩ : ∃ wx, wx = vx.alloc (netB (.slice Xx usx.length Cx) (.slice Yx msx.length Dx)) := ⟨_, rfl⟩
      rw [← hwx]
      have hbx : Below vx.heap.size vx wx := by rw [hwx]; exact bl1 vx _
      have hxx : wx.heap[vx.heap.size]? = some (netB (.slice Xx usx.length Cx) (.slice Yx msx.length Dx)) := by rw [hwx]; exact heap_new _ rfl
      clear hwx
      replace hp := hp.later hbx
      replace hl := hl.later hbx
      replace hbox := heap_later hbx hbox
      replace hrb := heap_later hbx hrb
      replace hI1 := hI1.later hbx
      replace hNa := hNa.later hbx
      replace hxa := heap_later hbx hxa
      replace hNb := hNb.later hbx
      replace hxb := heap_later hbx hxb
      replace hI2 := hI2.later hbx
      replace hNx := hNx.later hbx
      replace hB := hB.trans (hbx.mono hsz.out)
      have hsz2 : Hid (bk ≤ wx.heap.size) := Nat.le_trans hsz.out hbx.size
      clear hsz hbx
      have hsz := hsz2
      clear hsz2
      generalize vx.heap.size = bx at *
      have q0 : wx.cell? ⟨bk, 0, none⟩ = some (.slice x n c) := (box_cells hbox).1 0
      have q1 : wx.cell? ⟨bk, 1, none⟩ = some (.slice lx ln lc) := (box_cells hbox).1 1
      have r0 : wx.cell? ⟨br, 0, none⟩ = some (.int .i64 r.a) := (box_cells hrb).1 0
      have r1 : wx.cell? ⟨br, 1, none⟩ = some (.int .i64 r.l) := (box_cells hrb).1 1
      have r2 : wx.cell? ⟨br, 2, none⟩ = some (.int .i64 r.p) := (box_cells hrb).1 2
      have hop := growNet_any x n c vs lx ln lc ls id r wx hp hn hl hln
      go_wp2_with fail
      refine hop.mono ?_
      rintro e vz hpo
      obtain ⟨Vz, usz, msz, rfl, hbz, hNz, hzz, hnz⟩ := hpo.both
      clear hop hpo
      clear q0 q1 r0 r1 r2
      replace hp := hp.later hbz
      replace hl := hl.later hbz
      replace hbox := heap_later hbz hbox
      replace hrb := heap_later hbz hrb
      replace hI1 := hI1.later hbz
      replace hNa := hNa.later hbz
      replace hxa := heap_later hbz hxa
      replace hNb := hNb.later hbz
      replace hxb := heap_later hbz hxb
      replace hI2 := hI2.later hbz
      replace hNx := hNx.later hbz
      replace hxx := heap_later hbz hxx
      replace hB := hB.trans (hbz.mono hsz.out)
      have hsz2 : Hid (bk ≤ vz.heap.size) := Nat.le_trans hsz.out hbz.size
      clear hsz hbz
      have hsz := hsz2
      clear hsz2
      obtain ⟨Xz, Cz, Yz, Dz, hVz⟩ := hNz.agg
      subst hVz
      go_upto_region 13 with fail
      obtain ⟨wz, hwz⟩ : ∃ wz, wz = vz.alloc (netB (.slice Xz usz.length Cz) (.slice Yz msz.length Dz)) := ⟨_, rfl⟩
      rw [← hwz]
      have hbz : Below vz.heap.size vz wz := by rw [hwz]; exact bl1 vz _
      have hxz : wz.heap[vz.heap.size]? = some (netB (.slice Xz usz.length Cz) (.slice Yz msz.length Dz)) := by rw [hwz]; exact heap_new _ rfl
      clear hwz
      replace hp := hp.later hbz
      replace hl := hl.later hbz
      replace hbox := heap_later hbz hbox
      replace hrb := heap_later hbz hrb
      replace hI1 := hI1.later hbz
      replace hNa := hNa.later hbz
      replace hxa := heap_later hbz hxa
      replace hNb := hNb.later hbz
      replace hxb := heap_later hbz hxb
      replace hI2 := hI2.later hbz
      replace hNx := hNx.later hbz
      replace hxx := heap_later hbz hxx
      replace hNz := hNz.later hbz
      replace hB := hB.trans (hbz.mono hsz.out)
      have hsz2 : Hid (bk ≤ wz.heap.size) := Nat.le_trans hsz.out hbz.size
      clear hsz hbz
      have hsz := hsz2
      clear hsz2
      generalize vz.heap.size = bz at *
      have hkM : Hid (usa.map canV = usx.map canV ∧ msx = msa) := by
        by_cases h0 : makeE n vs ln ls id = 0
        · obtain ⟨p1, p2⟩ := hza h0
          obtain ⟨p3, p4⟩ := hzx h0
          exact ⟨p1.can.trans p3.can.symm, p4.trans p2.symm⟩
        · obtain ⟨p1, p2⟩ := hna h0
          obtain ⟨p3, p4⟩ := hnx h0
          exact ⟨by rw [p1, p3], by rw [p2, p4]⟩
      have hkG : Hid (usb.map canV = usz.map canV ∧ msz = msb) := by
        by_cases h0 : ngrowE n vs ln ls id r = 0
        · obtain ⟨p1, p2⟩ := hzb h0
          obtain ⟨p3, p4⟩ := hzz h0
          exact ⟨p1.can.symm.trans p3.can, p4.trans p2.symm⟩
        · obtain ⟨p1, p2⟩ := hnb h0
          obtain ⟨p3, p4⟩ := hnz h0
          exact ⟨by rw [p1, p3], by rw [p2, p4]⟩
      clear hza hna hzb hnb hzx hnx hzz hnz
      have hsA : ∀ W, Below wz.heap.size wz W → Calls Tryz.prog 17 #[.agg #[.slice Xa usa.length Ca, .slice Ya msa.length Da], .agg #[.slice Xx usx.length Cx, .slice Yx msx.length Dx]] W fun e w' => e = .returned (.bool true) ∧ Below W.heap.size W w' := fun W hW => sameNets_nn (hNa.later hW) (by have h := hNx.later hW; rw [hkM.out.2] at h ⊢; exact h) hkM.out.1
      have hsB : ∀ W, Below wz.heap.size wz W → Calls Tryz.prog 17 #[.agg #[.slice Xb usb.length Cb, .slice Yb msb.length Db], .agg #[.slice Xz usz.length Cz, .slice Yz msz.length Dz]] W fun e w' => e = .returned (.bool true) ∧ Below W.heap.size W w' := fun W hW => sameNets_nn (hNb.later hW) (by have h := hNz.later hW; rw [hkG.out.2] at h ⊢; exact h) hkG.out.1
      have hsI := fun W (hW : Below wz.heap.size wz W) => sameInts_yes gx kx gl.length gc kc gl W (hI1.later hW) (hI2.later hW) (by have := hgl.out; omega)
      have hck9 := fun W (hW : Below wz.heap.size wz W) => checkN_is x n c vs lx ln lc ls 0 hct.out W (hp.later hW) hn hnc (hl.later hW) hln
      have a0 : ∀ u : Ws wz.heap.size wz, u.val.cell? ⟨ba, 0, none⟩ = some (.slice Xa usa.length Ca) := Ws.here ((box_cells hxa).1 0)
      have a1 : ∀ u : Ws wz.heap.size wz, u.val.cell? ⟨ba, 1, none⟩ = some (.slice Ya msa.length Da) := Ws.here ((box_cells hxa).1 1)
      have a2 : ∀ u : Ws wz.heap.size wz, u.val.cell? ⟨bx, 0, none⟩ = some (.slice Xx usx.length Cx) := Ws.here ((box_cells hxx).1 0)
      have a3 : ∀ u : Ws wz.heap.size wz, u.val.cell? ⟨bx, 1, none⟩ = some (.slice Yx msx.length Dx) := Ws.here ((box_cells hxx).1 1)
      have a4 : ∀ u : Ws wz.heap.size wz, u.val.cell? ⟨bb, 0, none⟩ = some (.slice Xb usb.length Cb) := Ws.here ((box_cells hxb).1 0)
      have a5 : ∀ u : Ws wz.heap.size wz, u.val.cell? ⟨bb, 1, none⟩ = some (.slice Yb msb.length Db) := Ws.here ((box_cells hxb).1 1)
      have a6 : ∀ u : Ws wz.heap.size wz, u.val.cell? ⟨bz, 0, none⟩ = some (.slice Xz usz.length Cz) := Ws.here ((box_cells hxz).1 0)
      have a7 : ∀ u : Ws wz.heap.size wz, u.val.cell? ⟨bz, 1, none⟩ = some (.slice Yz msz.length Dz) := Ws.here ((box_cells hxz).1 1)
      have a8 : ∀ u : Ws wz.heap.size wz, u.val.cell? ⟨bk, 0, none⟩ = some (.slice x n c) := Ws.here ((box_cells hbox).1 0)
      have a9 : ∀ u : Ws wz.heap.size wz, u.val.cell? ⟨bk, 1, none⟩ = some (.slice lx ln lc) := Ws.here ((box_cells hbox).1 1)
      clear hxa hxb hxx hxz hbox hrb hNa hNb hNx hNz hp hl hI1 hI2 hkM hkG
      generalize makeE n vs ln ls id = Em at *
      generalize ngrowE n vs ln ls id r = Eg at *
      refine wp_region_wf wz.heap.size ?_
      repeat (go_big_quiet_step (first | (go_at_call 14; exact Calls.in_ws (Nat.le_refl _) (netBegun_any _)) | (go_at_call 16; exact Calls.in_ws (Nat.le_refl _) (hsI _ (Ws.property _))) | (go_at_call 15; exact Calls.in_ws (Nat.le_refl _) (hck9 _ (Ws.property _))) | (go_at_call_of 17 Xa; exact Calls.in_ws (Nat.le_refl _) (hsA _ (Ws.property _))) | (go_at_call_of 17 Xb; exact Calls.in_ws (Nat.le_refl _) (hsB _ (Ws.property _)))))
      refine wpQuiet_nil ?_
      rintro _ ⟨u, rfl⟩
      have hu := hB.trans (u.property.mono hsz.out)
      generalize u.val = wu at hu ⊢
      clear u a0 a1 a2 a3 a4 a5 a6 a7 a8 a9
      go_wp2
      go_ret
      exact ⟨rfl, by first | exact hu | (rw [hbk]; exact hu)⟩
    · have hg5 : grpE n vs ln ls id = 5 := by unfold grpE; rw [if_pos hct.out, hpi, if_pos (by decide)]
      have hge : Hid (gl = []) := by show _ = _; rw [hgl'.out, if_neg (by rw [hg5]; decide)]
      rw [hg5]
      obtain rfl : t = -1 := ht.symm.trans hpi
      clear ht hg5 hgl' hpi hgl
      have hge' := hge.out
      subst hge'
      clear hge
      simp only [List.length_nil] at hI1 ⊢
      have hgl : Hid (0 ≤ n) := Nat.zero_le _
      go_wp2_with fail
      refine hva.mono ?_
      rintro e w5 ⟨rfl, hb5⟩
      clear hva
      clear q0 q1
      replace hp := hp.later hb5
      replace hl := hl.later hb5
      replace hbox := heap_later hb5 hbox
      replace hrb := heap_later hb5 hrb
      replace hI1 := hI1.later hb5
      replace hNa := hNa.later hb5
      replace hxa := heap_later hb5 hxa
      replace hNb := hNb.later hb5
      replace hxb := heap_later hb5 hxb
      replace hB := hB.trans (hb5.mono hsz.out)
      have hsz2 : Hid (bk ≤ w5.heap.size) := Nat.le_trans hsz.out hb5.size
      clear hsz hb5
      have hsz := hsz2
      clear hsz2
      have hI2 : IS w5 none 0 [] := ⟨rfl, fun i hi => absurd hi (Nat.not_lt_zero _)⟩
      have q0 : w5.cell? ⟨bk, 0, none⟩ = some (.slice x n c) := (box_cells hbox).1 0
      have q1 : w5.cell? ⟨bk, 1, none⟩ = some (.slice lx ln lc) := (box_cells hbox).1 1
      have hop := makeNet_any x n c vs lx ln lc ls id w5 hp hn hl hln
      go_wp2_with fail
      refine hop.mono ?_
      rintro e vx hpo
      obtain ⟨Vx, usx, msx, rfl, hbx, hNx, hzx, hnx⟩ := hpo.both
      clear hop hpo
      clear q0 q1
      replace hp := hp.later hbx
      replace hl := hl.later hbx
      replace hbox := heap_later hbx hbox
      replace hrb := heap_later hbx hrb
      replace hI1 := hI1.later hbx
      replace hNa := hNa.later hbx
      replace hxa := heap_later hbx hxa
      replace hNb := hNb.later hbx
      replace hxb := heap_later hbx hxb
      replace hI2 := hI2.later hbx
      replace hB := hB.trans (hbx.mono hsz.out)
      have hsz2 : Hid (bk ≤ vx.heap.size) := Nat.le_trans hsz.out hbx.size
      clear hsz hbx
      have hsz := hsz2
      clear hsz2
      obtain ⟨Xx, Cx, Yx, Dx, hVx⟩ := hNx.agg
      subst hVx
      go_upto_region 12 with fail
      obtain ⟨wx, hwx⟩ : ∃ wx, wx = vx.alloc (netB (.slice Xx usx.length Cx) (.slice Yx msx.length Dx)) := ⟨_, rfl⟩
      rw [← hwx]
      have hbx : Below vx.heap.size vx wx := by rw [hwx]; exact bl1 vx _
      have hxx : wx.heap[vx.heap.size]? = some (netB (.slice Xx usx.length Cx) (.slice Yx msx.length Dx)) := by rw [hwx]; exact heap_new _ rfl
      clear hwx
      replace hp := hp.later hbx
      replace hl := hl.later hbx
      replace hbox := heap_later hbx hbox
      replace hrb := heap_later hbx hrb
      replace hI1 := hI1.later hbx
      replace hNa := hNa.later hbx
      replace hxa := heap_later hbx hxa
      replace hNb := hNb.later hbx
      replace hxb := heap_later hbx hxb
      replace hI2 := hI2.later hbx
      replace hNx := hNx.later hbx
      replace hB := hB.trans (hbx.mono hsz.out)
      have hsz2 : Hid (bk ≤ wx.heap.size) := Nat.le_trans hsz.out hbx.size
      clear hsz hbx
      have hsz := hsz2
      clear hsz2
      generalize vx.heap.size = bx at *
      have q0 : wx.cell? ⟨bk, 0, none⟩ = some (.slice x n c) := (box_cells hbox).1 0
      have q1 : wx.cell? ⟨bk, 1, none⟩ = some (.slice lx ln lc) := (box_cells hbox).1 1
      have r0 : wx.cell? ⟨br, 0, none⟩ = some (.int .i64 r.a) := (box_cells hrb).1 0
      have r1 : wx.cell? ⟨br, 1, none⟩ = some (.int .i64 r.l) := (box_cells hrb).1 1
      have r2 : wx.cell? ⟨br, 2, none⟩ = some (.int .i64 r.p) := (box_cells hrb).1 2
      have hop := growNet_any x n c vs lx ln lc ls id r wx hp hn hl hln
      go_wp2_with fail
      refine hop.mono ?_
      rintro e vz hpo
      obtain ⟨Vz, usz, msz, rfl, hbz, hNz, hzz, hnz⟩ := hpo.both
      clear hop hpo
      clear q0 q1 r0 r1 r2
      replace hp := hp.later hbz
      replace hl := hl.later hbz
      replace hbox := heap_later hbz hbox
      replace hrb := heap_later hbz hrb
      replace hI1 := hI1.later hbz
      replace hNa := hNa.later hbz
      replace hxa := heap_later hbz hxa
      replace hNb := hNb.later hbz
      replace hxb := heap_later hbz hxb
      replace hI2 := hI2.later hbz
      replace hNx := hNx.later hbz
      replace hxx := heap_later hbz hxx
      replace hB := hB.trans (hbz.mono hsz.out)
      have hsz2 : Hid (bk ≤ vz.heap.size) := Nat.le_trans hsz.out hbz.size
      clear hsz hbz
      have hsz := hsz2
      clear hsz2
      obtain ⟨Xz, Cz, Yz, Dz, hVz⟩ := hNz.agg
      subst hVz
      go_upto_region 13 with fail
      obtain ⟨wz, hwz⟩ : ∃ wz, wz = vz.alloc (netB (.slice Xz usz.length Cz) (.slice Yz msz.length Dz)) := ⟨_, rfl⟩
      rw [← hwz]
      have hbz : Below vz.heap.size vz wz := by rw [hwz]; exact bl1 vz _
      have hxz : wz.heap[vz.heap.size]? = some (netB (.slice Xz usz.length Cz) (.slice Yz msz.length Dz)) := by rw [hwz]; exact heap_new _ rfl
      clear hwz
      replace hp := hp.later hbz
      replace hl := hl.later hbz
      replace hbox := heap_later hbz hbox
      replace hrb := heap_later hbz hrb
      replace hI1 := hI1.later hbz
      replace hNa := hNa.later hbz
      replace hxa := heap_later hbz hxa
      replace hNb := hNb.later hbz
      replace hxb := heap_later hbz hxb
      replace hI2 := hI2.later hbz
      replace hNx := hNx.later hbz
      replace hxx := heap_later hbz hxx
      replace hNz := hNz.later hbz
      replace hB := hB.trans (hbz.mono hsz.out)
      have hsz2 : Hid (bk ≤ wz.heap.size) := Nat.le_trans hsz.out hbz.size
      clear hsz hbz
      have hsz := hsz2
      clear hsz2
      generalize vz.heap.size = bz at *
      have hkM : Hid (usa.map canV = usx.map canV ∧ msx = msa) := by
        by_cases h0 : makeE n vs ln ls id = 0
        · obtain ⟨p1, p2⟩ := hza h0
          obtain ⟨p3, p4⟩ := hzx h0
          exact ⟨p1.can.trans p3.can.symm, p4.trans p2.symm⟩
        · obtain ⟨p1, p2⟩ := hna h0
          obtain ⟨p3, p4⟩ := hnx h0
          exact ⟨by rw [p1, p3], by rw [p2, p4]⟩
      have hkG : Hid (usb.map canV = usz.map canV ∧ msz = msb) := by
        by_cases h0 : ngrowE n vs ln ls id r = 0
        · obtain ⟨p1, p2⟩ := hzb h0
          obtain ⟨p3, p4⟩ := hzz h0
          exact ⟨p1.can.symm.trans p3.can, p4.trans p2.symm⟩
        · obtain ⟨p1, p2⟩ := hnb h0
          obtain ⟨p3, p4⟩ := hnz h0
          exact ⟨by rw [p1, p3], by rw [p2, p4]⟩
      clear hza hna hzb hnb hzx hnx hzz hnz
      have hsA : ∀ W, Below wz.heap.size wz W → Calls Tryz.prog 17 #[.agg #[.slice Xa usa.length Ca, .slice Ya msa.length Da], .agg #[.slice Xx usx.length Cx, .slice Yx msx.length Dx]] W fun e w' => e = .returned (.bool true) ∧ Below W.heap.size W w' := fun W hW => sameNets_nn (hNa.later hW) (by have h := hNx.later hW; rw [hkM.out.2] at h ⊢; exact h) hkM.out.1
      have hsB : ∀ W, Below wz.heap.size wz W → Calls Tryz.prog 17 #[.agg #[.slice Xb usb.length Cb, .slice Yb msb.length Db], .agg #[.slice Xz usz.length Cz, .slice Yz msz.length Dz]] W fun e w' => e = .returned (.bool true) ∧ Below W.heap.size W w' := fun W hW => sameNets_nn (hNb.later hW) (by have h := hNz.later hW; rw [hkG.out.2] at h ⊢; exact h) hkG.out.1
      have hsI := fun W (hW : Below wz.heap.size wz W) => sameInts_yes gx none 0 gc 0 [] W (hI1.later hW) (hI2.later hW) (by have := hgl.out; omega)
      have hck9 := fun W (hW : Below wz.heap.size wz W) => checkN_is x n c vs lx ln lc ls 0 hct.out W (hp.later hW) hn hnc (hl.later hW) hln
      have a0 : ∀ u : Ws wz.heap.size wz, u.val.cell? ⟨ba, 0, none⟩ = some (.slice Xa usa.length Ca) := Ws.here ((box_cells hxa).1 0)
      have a1 : ∀ u : Ws wz.heap.size wz, u.val.cell? ⟨ba, 1, none⟩ = some (.slice Ya msa.length Da) := Ws.here ((box_cells hxa).1 1)
      have a2 : ∀ u : Ws wz.heap.size wz, u.val.cell? ⟨bx, 0, none⟩ = some (.slice Xx usx.length Cx) := Ws.here ((box_cells hxx).1 0)
      have a3 : ∀ u : Ws wz.heap.size wz, u.val.cell? ⟨bx, 1, none⟩ = some (.slice Yx msx.length Dx) := Ws.here ((box_cells hxx).1 1)
      have a4 : ∀ u : Ws wz.heap.size wz, u.val.cell? ⟨bb, 0, none⟩ = some (.slice Xb usb.length Cb) := Ws.here ((box_cells hxb).1 0)
      have a5 : ∀ u : Ws wz.heap.size wz, u.val.cell? ⟨bb, 1, none⟩ = some (.slice Yb msb.length Db) := Ws.here ((box_cells hxb).1 1)
      have a6 : ∀ u : Ws wz.heap.size wz, u.val.cell? ⟨bz, 0, none⟩ = some (.slice Xz usz.length Cz) := Ws.here ((box_cells hxz).1 0)
      have a7 : ∀ u : Ws wz.heap.size wz, u.val.cell? ⟨bz, 1, none⟩ = some (.slice Yz msz.length Dz) := Ws.here ((box_cells hxz).1 1)
      have a8 : ∀ u : Ws wz.heap.size wz, u.val.cell? ⟨bk, 0, none⟩ = some (.slice x n c) := Ws.here ((box_cells hbox).1 0)
      have a9 : ∀ u : Ws wz.heap.size wz, u.val.cell? ⟨bk, 1, none⟩ = some (.slice lx ln lc) := Ws.here ((box_cells hbox).1 1)
      clear hxa hxb hxx hxz hbox hrb hNa hNb hNx hNz hp hl hI1 hI2 hkM hkG
      generalize makeE n vs ln ls id = Em at *
      generalize ngrowE n vs ln ls id r = Eg at *
      refine wp_region_wf wz.heap.size ?_
      repeat (go_big_quiet_step (first | (go_at_call 14; exact Calls.in_ws (Nat.le_refl _) (netBegun_any _)) | (go_at_call 16; exact Calls.in_ws (Nat.le_refl _) (hsI _ (Ws.property _))) | (go_at_call 15; exact Calls.in_ws (Nat.le_refl _) (hck9 _ (Ws.property _))) | (go_at_call_of 17 Xa; exact Calls.in_ws (Nat.le_refl _) (hsA _ (Ws.property _))) | (go_at_call_of 17 Xb; exact Calls.in_ws (Nat.le_refl _) (hsB _ (Ws.property _)))))
      refine wpQuiet_nil ?_
      rintro _ ⟨u, rfl⟩
      have hu := hB.trans (u.property.mono hsz.out)
      generalize u.val = wu at hu ⊢
      clear u a0 a1 a2 a3 a4 a5 a6 a7 a8 a9
      go_wp2
      go_ret
      exact ⟨rfl, by first | exact hu | (rw [hbk]; exact hu)⟩
  · obtain ⟨t, ht⟩ : ∃ t, chkN n vs ln ls = t := ⟨_, rfl⟩
    have hct : Hid (chkN n vs ln ls = t) := ht
    have hgt : grpE n vs ln ls id = t := by unfold grpE; rw [if_neg hz, ht]
    have hge : Hid (gl = []) := by show _ = _; rw [hgl'.out, if_neg (by rw [hgt, ← ht]; exact hz)]
    rw [hgt]
    rw [ht] at hck hz
    have ht1 : (t == 0) = false := by simpa using hz
    clear ht hgt hgl' hgl hz
    have hge' := hge.out
    subst hge'
    clear hge
    simp only [List.length_nil] at hI1 ⊢
    have hgl : Hid (0 ≤ n) := Nat.zero_le _
    go_wp2_with fail
    refine hck.mono ?_
    rintro e w4 ⟨rfl, hb4⟩
    clear hck
    clear q0 q1
    replace hp := hp.later hb4
    replace hl := hl.later hb4
    replace hbox := heap_later hb4 hbox
    replace hrb := heap_later hb4 hrb
    replace hI1 := hI1.later hb4
    replace hNa := hNa.later hb4
    replace hxa := heap_later hb4 hxa
    replace hNb := hNb.later hb4
    replace hxb := heap_later hb4 hxb
    replace hB := hB.trans (hb4.mono hsz.out)
    have hsz2 : Hid (bk ≤ w4.heap.size) := Nat.le_trans hsz.out hb4.size
    clear hsz hb4
    have hsz := hsz2
    clear hsz2
    have hI2 : IS w4 none 0 [] := ⟨rfl, fun i hi => absurd hi (Nat.not_lt_zero _)⟩
    have q0 : w4.cell? ⟨bk, 0, none⟩ = some (.slice x n c) := (box_cells hbox).1 0
    have q1 : w4.cell? ⟨bk, 1, none⟩ = some (.slice lx ln lc) := (box_cells hbox).1 1
    have hop := makeNet_any x n c vs lx ln lc ls id w4 hp hn hl hln
    go_wp2_with fail
    refine hop.mono ?_
    rintro e vx hpo
    obtain ⟨Vx, usx, msx, rfl, hbx, hNx, hzx, hnx⟩ := hpo.both
    clear hop hpo
    clear q0 q1
    replace hp := hp.later hbx
    replace hl := hl.later hbx
    replace hbox := heap_later hbx hbox
    replace hrb := heap_later hbx hrb
    replace hI1 := hI1.later hbx
    replace hNa := hNa.later hbx
    replace hxa := heap_later hbx hxa
    replace hNb := hNb.later hbx
    replace hxb := heap_later hbx hxb
    replace hI2 := hI2.later hbx
    replace hB := hB.trans (hbx.mono hsz.out)
    have hsz2 : Hid (bk ≤ vx.heap.size) := Nat.le_trans hsz.out hbx.size
    clear hsz hbx
    have hsz := hsz2
    clear hsz2
    obtain ⟨Xx, Cx, Yx, Dx, hVx⟩ := hNx.agg
    subst hVx
    go_upto_region 12 with fail
    obtain ⟨wx, hwx⟩ : ∃ wx, wx = vx.alloc (netB (.slice Xx usx.length Cx) (.slice Yx msx.length Dx)) := ⟨_, rfl⟩
    rw [← hwx]
    have hbx : Below vx.heap.size vx wx := by rw [hwx]; exact bl1 vx _
    have hxx : wx.heap[vx.heap.size]? = some (netB (.slice Xx usx.length Cx) (.slice Yx msx.length Dx)) := by rw [hwx]; exact heap_new _ rfl
    clear hwx
    replace hp := hp.later hbx
    replace hl := hl.later hbx
    replace hbox := heap_later hbx hbox
    replace hrb := heap_later hbx hrb
    replace hI1 := hI1.later hbx
    replace hNa := hNa.later hbx
    replace hxa := heap_later hbx hxa
    replace hNb := hNb.later hbx
    replace hxb := heap_later hbx hxb
    replace hI2 := hI2.later hbx
    replace hNx := hNx.later hbx
    replace hB := hB.trans (hbx.mono hsz.out)
    have hsz2 : Hid (bk ≤ wx.heap.size) := Nat.le_trans hsz.out hbx.size
    clear hsz hbx
    have hsz := hsz2
    clear hsz2
    generalize vx.heap.size = bx at *
    have q0 : wx.cell? ⟨bk, 0, none⟩ = some (.slice x n c) := (box_cells hbox).1 0
    have q1 : wx.cell? ⟨bk, 1, none⟩ = some (.slice lx ln lc) := (box_cells hbox).1 1
    have r0 : wx.cell? ⟨br, 0, none⟩ = some (.int .i64 r.a) := (box_cells hrb).1 0
    have r1 : wx.cell? ⟨br, 1, none⟩ = some (.int .i64 r.l) := (box_cells hrb).1 1
    have r2 : wx.cell? ⟨br, 2, none⟩ = some (.int .i64 r.p) := (box_cells hrb).1 2
    have hop := growNet_any x n c vs lx ln lc ls id r wx hp hn hl hln
    go_wp2_with fail
    refine hop.mono ?_
    rintro e vz hpo
    obtain ⟨Vz, usz, msz, rfl, hbz, hNz, hzz, hnz⟩ := hpo.both
    clear hop hpo
    clear q0 q1 r0 r1 r2
    replace hp := hp.later hbz
    replace hl := hl.later hbz
    replace hbox := heap_later hbz hbox
    replace hrb := heap_later hbz hrb
    replace hI1 := hI1.later hbz
    replace hNa := hNa.later hbz
    replace hxa := heap_later hbz hxa
    replace hNb := hNb.later hbz
    replace hxb := heap_later hbz hxb
    replace hI2 := hI2.later hbz
    replace hNx := hNx.later hbz
    replace hxx := heap_later hbz hxx
    replace hB := hB.trans (hbz.mono hsz.out)
    have hsz2 : Hid (bk ≤ vz.heap.size) := Nat.le_trans hsz.out hbz.size
    clear hsz hbz
    have hsz := hsz2
    clear hsz2
    obtain ⟨Xz, Cz, Yz, Dz, hVz⟩ := hNz.agg
    subst hVz
    go_upto_region 13 with fail
    obtain ⟨wz, hwz⟩ : ∃ wz, wz = vz.alloc (netB (.slice Xz usz.length Cz) (.slice Yz msz.length Dz)) := ⟨_, rfl⟩
    rw [← hwz]
    have hbz : Below vz.heap.size vz wz := by rw [hwz]; exact bl1 vz _
    have hxz : wz.heap[vz.heap.size]? = some (netB (.slice Xz usz.length Cz) (.slice Yz msz.length Dz)) := by rw [hwz]; exact heap_new _ rfl
    clear hwz
    replace hp := hp.later hbz
    replace hl := hl.later hbz
    replace hbox := heap_later hbz hbox
    replace hrb := heap_later hbz hrb
    replace hI1 := hI1.later hbz
    replace hNa := hNa.later hbz
    replace hxa := heap_later hbz hxa
    replace hNb := hNb.later hbz
    replace hxb := heap_later hbz hxb
    replace hI2 := hI2.later hbz
    replace hNx := hNx.later hbz
    replace hxx := heap_later hbz hxx
    replace hNz := hNz.later hbz
    replace hB := hB.trans (hbz.mono hsz.out)
    have hsz2 : Hid (bk ≤ wz.heap.size) := Nat.le_trans hsz.out hbz.size
    clear hsz hbz
    have hsz := hsz2
    clear hsz2
    generalize vz.heap.size = bz at *
    have hkM : Hid (usa.map canV = usx.map canV ∧ msx = msa) := by
      by_cases h0 : makeE n vs ln ls id = 0
      · obtain ⟨p1, p2⟩ := hza h0
        obtain ⟨p3, p4⟩ := hzx h0
        exact ⟨p1.can.trans p3.can.symm, p4.trans p2.symm⟩
      · obtain ⟨p1, p2⟩ := hna h0
        obtain ⟨p3, p4⟩ := hnx h0
        exact ⟨by rw [p1, p3], by rw [p2, p4]⟩
    have hkG : Hid (usb.map canV = usz.map canV ∧ msz = msb) := by
      by_cases h0 : ngrowE n vs ln ls id r = 0
      · obtain ⟨p1, p2⟩ := hzb h0
        obtain ⟨p3, p4⟩ := hzz h0
        exact ⟨p1.can.symm.trans p3.can, p4.trans p2.symm⟩
      · obtain ⟨p1, p2⟩ := hnb h0
        obtain ⟨p3, p4⟩ := hnz h0
        exact ⟨by rw [p1, p3], by rw [p2, p4]⟩
    clear hza hna hzb hnb hzx hnx hzz hnz
    have hsA : ∀ W, Below wz.heap.size wz W → Calls Tryz.prog 17 #[.agg #[.slice Xa usa.length Ca, .slice Ya msa.length Da], .agg #[.slice Xx usx.length Cx, .slice Yx msx.length Dx]] W fun e w' => e = .returned (.bool true) ∧ Below W.heap.size W w' := fun W hW => sameNets_nn (hNa.later hW) (by have h := hNx.later hW; rw [hkM.out.2] at h ⊢; exact h) hkM.out.1
    have hsB : ∀ W, Below wz.heap.size wz W → Calls Tryz.prog 17 #[.agg #[.slice Xb usb.length Cb, .slice Yb msb.length Db], .agg #[.slice Xz usz.length Cz, .slice Yz msz.length Dz]] W fun e w' => e = .returned (.bool true) ∧ Below W.heap.size W w' := fun W hW => sameNets_nn (hNb.later hW) (by have h := hNz.later hW; rw [hkG.out.2] at h ⊢; exact h) hkG.out.1
    have hsI := fun W (hW : Below wz.heap.size wz W) => sameInts_yes gx none 0 gc 0 [] W (hI1.later hW) (hI2.later hW) (by have := hgl.out; omega)
    have hck9 := fun W (hW : Below wz.heap.size wz W) => checkN_is x n c vs lx ln lc ls t hct.out W (hp.later hW) hn hnc (hl.later hW) hln
    have a0 : ∀ u : Ws wz.heap.size wz, u.val.cell? ⟨ba, 0, none⟩ = some (.slice Xa usa.length Ca) := Ws.here ((box_cells hxa).1 0)
    have a1 : ∀ u : Ws wz.heap.size wz, u.val.cell? ⟨ba, 1, none⟩ = some (.slice Ya msa.length Da) := Ws.here ((box_cells hxa).1 1)
    have a2 : ∀ u : Ws wz.heap.size wz, u.val.cell? ⟨bx, 0, none⟩ = some (.slice Xx usx.length Cx) := Ws.here ((box_cells hxx).1 0)
    have a3 : ∀ u : Ws wz.heap.size wz, u.val.cell? ⟨bx, 1, none⟩ = some (.slice Yx msx.length Dx) := Ws.here ((box_cells hxx).1 1)
    have a4 : ∀ u : Ws wz.heap.size wz, u.val.cell? ⟨bb, 0, none⟩ = some (.slice Xb usb.length Cb) := Ws.here ((box_cells hxb).1 0)
    have a5 : ∀ u : Ws wz.heap.size wz, u.val.cell? ⟨bb, 1, none⟩ = some (.slice Yb msb.length Db) := Ws.here ((box_cells hxb).1 1)
    have a6 : ∀ u : Ws wz.heap.size wz, u.val.cell? ⟨bz, 0, none⟩ = some (.slice Xz usz.length Cz) := Ws.here ((box_cells hxz).1 0)
    have a7 : ∀ u : Ws wz.heap.size wz, u.val.cell? ⟨bz, 1, none⟩ = some (.slice Yz msz.length Dz) := Ws.here ((box_cells hxz).1 1)
    have a8 : ∀ u : Ws wz.heap.size wz, u.val.cell? ⟨bk, 0, none⟩ = some (.slice x n c) := Ws.here ((box_cells hbox).1 0)
    have a9 : ∀ u : Ws wz.heap.size wz, u.val.cell? ⟨bk, 1, none⟩ = some (.slice lx ln lc) := Ws.here ((box_cells hbox).1 1)
    clear hxa hxb hxx hxz hbox hrb hNa hNb hNx hNz hp hl hI1 hI2 hkM hkG
    generalize makeE n vs ln ls id = Em at *
    generalize ngrowE n vs ln ls id r = Eg at *
    refine wp_region_wf wz.heap.size ?_
    repeat (go_big_quiet_step (first | (go_at_call 14; exact Calls.in_ws (Nat.le_refl _) (netBegun_any _)) | (go_at_call 16; exact Calls.in_ws (Nat.le_refl _) (hsI _ (Ws.property _))) | (go_at_call 15; exact Calls.in_ws (Nat.le_refl _) (hck9 _ (Ws.property _))) | (go_at_call_of 17 Xa; exact Calls.in_ws (Nat.le_refl _) (hsA _ (Ws.property _))) | (go_at_call_of 17 Xb; exact Calls.in_ws (Nat.le_refl _) (hsB _ (Ws.property _)))))
    refine wpQuiet_nil ?_
    rintro _ ⟨u, rfl⟩
    have hu := hB.trans (u.property.mono hsz.out)
    generalize u.val = wu at hu ⊢
    clear u a0 a1 a2 a3 a4 a5 a6 a7 a8 a9
    go_wp2
    go_ret
    exact ⟨rfl, by first | exact hu | (rw [hbk]; exact hu)⟩
end Go.Proofs.YtlalgkjollgcbaaGreat
