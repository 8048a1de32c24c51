/- GroupOf of the reference. -/
import Derived.Test.YtgealgjeboainaaGreatMR16
import Derived.Deep.OwnRows
import Derived.Test.YtgealgjeboainaaGreatMR17
import Derived.Test.YtgealgjeboainaaGreatMR13
namespace Go.Proofs.YtgealgjeboainaaGreat
open Go.RowKit Go.Shelf Go.Maps

theorem under_B : Tryz.prog.underlying 81 = some (.slice 4) := by kernel_rfl
theorem info_B : (Tryz.prog.info? 4).map (fun i => (i.zero, i.size, i.bytes)) = some (some (.bool false), 1, 1) := by kernel_rfl
/-- The net's box and the marks, as they stand. -/
structure GoW (w W : World) (x : Option Addr) (n c : Nat) (lx : Option Addr) (ln lc : Nat) (bs : List Bool) : Prop where
  below : Below w.heap.size w W
  box : W.heap[w.heap.size]? = some (netO x n c lx ln lc)
  row : W.rowIs (w.heap.size + 1) 4 n (fun k => .bool (bAt bs k))
theorem GoW.later {w W W' : World} {x : Option Addr} {n c : Nat} {lx : Option Addr} {ln lc : Nat} {bs : List Bool} (h : GoW w W x n c lx ln lc bs) (hb : Below W.heap.size W W') : GoW w W' x n c lx ln lc bs := by
  refine ⟨h.below.trans (hb.mono h.below.size), heap_later hb h.box, ?_⟩
  obtain ⟨cs, h0, h1, h2⟩ := h.row
  exact ⟨cs, heap_later hb h0, h1, h2⟩
theorem GoW.set {w W : World} {x : Option Addr} {n c : Nat} {lx : Option Addr} {ln lc : Nat} {bs : List Bool} (h : GoW w W x n c lx ln lc bs) {k : Nat} (hk : k < bs.length) (b : Bool) : GoW w (W.setCell ⟨w.heap.size + 1, k, none⟩ (.bool b)) x n c lx ln lc (bs.set k b) := by
  refine ⟨h.below.setCell (p := ⟨w.heap.size + 1, k, none⟩) (by show w.heap.size ≤ w.heap.size + 1; omega) _, (Go.Deep.blk_setCell_other _ _ _ _ (by show w.heap.size ≠ w.heap.size + 1; omega)).trans h.box, ?_⟩
  refine (h.row.set k (.bool b)).congr fun j _ => ?_
  rw [bAt_set hk]
  split <;> rfl
theorem GoW.cells {w W : World} {x : Option Addr} {n c : Nat} {lx : Option Addr} {ln lc : Nat} {bs : List Bool} (h : GoW w W x n c lx ln lc bs) : W.cell? ⟨w.heap.size, 0, none⟩ = some (.slice x n c) ∧ W.cell? ⟨w.heap.size, 1, none⟩ = some (.slice lx ln lc) := ⟨(box_cells h.box).1 0, (box_cells h.box).1 1⟩

theorem GoW.grown {w W W' : World} {x : Option Addr} {n c : Nat} {lx : Option Addr} {ln lc : Nat} {bs : List Bool} {v : Value} {es : List Int} (h : GoW w W x n c lx ln lc bs) (hI : OwnI W w.heap.size v es) (hg : W.grownBy W' v.ownBlock) : GoW w W' x n c lx ln lc bs := by
  have hk : ∀ {b : Nat} {o : Obj}, W.heap[b]? = some o → v.ownBlock ≠ some b → W'.heap[b]? = some o := fun {b o} h0 hne => (hg.block b (Array.getElem?_eq_some_iff.1 h0).1 (fun e => hne e.symm)).trans h0
  refine ⟨below_grownr h.below hg (fun q e => (hI.lt q e).1), hk h.box (hI.ne h.box (by decide)), ?_⟩
  obtain ⟨cs, h0, h1, h2⟩ := h.row
  exact ⟨cs, hk h0 (hI.ne h0 (by decide)), h1, h2⟩

set_option maxRecDepth 100000 in
set_option maxHeartbeats 6400000 in
theorem groupOf_any (x : Option Addr) (n c : Nat) (vs : List Vn) (lx : Option Addr) (ln lc : Nat) (ls : List (Int × Int)) (id : Int) (p : Nat) (w : World) (hp : VS w x n vs) (hn : n ≤ 1048576) (hl : PS w lx ln ls) (hln : ln ≤ 1048576)
    (hr : riseVB vs = true) (hlk : linksB n vs ln ls = true) (hpn : p < n) (hpi : (vnAt vs p).id = id) :
    Calls Tryz.prog 19 #[.agg #[.slice x n c, .slice lx ln lc], .int .i64 id] w fun e w' => ∃ v, e = .returned v ∧ OwnI w' w.heap.size v (grpL ls vs id) ∧ Below w.heap.size w w' := by
  have hvl : Hid (vs.length = n) := hp.len
  have hll : Hid (ls.length = ln) := hl.len
  have hpl : vplace n vs id = p := by rw [← hpi]; exact vplace_at hp.len hr hpn
  have hfin : Hid (∀ bs, Snd ls n (fun k => (vnAt vs k).id) id bs → Shut ls n (fun k => (vnAt vs k).id) bs → bAt bs p = true → ∀ k, k < n → bAt bs k = (hdOf ls (vnAt vs k).id == hdOf ls id)) := fun bs h1 h2 h3 => shut_is h1 h2 hpn hpi h3 (ids_one hp.len hr) (links_in hp.len hl.len hlk)
  have hpi' : Hid ((vnAt vs p).id = id) := hpi
  have hmk := run_make_row' (P := Tryz.prog) 81 4 (.bool false) 1 under_B info_B rfl .i64 .i64 n (by omega) (by omega)
  clear hr hlk hpi
  go_enter Tryz.func19, Tryz.ntmps19
  go_upto_region 1 with fail
  obtain ⟨w2, hw2⟩ : ∃ w2, w2 = w.alloc (netO x n c lx ln lc) := ⟨_, rfl⟩
  rw [← hw2]
  have h02 : Below w.heap.size w w2 := by rw [hw2]; exact bl1 w _
  have hz2 : w2.heap.size = w.heap.size + 1 := by rw [hw2]; simp
  have hbox : w2.heap[w.heap.size]? = some (netO x n c lx ln lc) := by rw [hw2]; exact heap_new _ rfl
  clear hw2
  have q0 : w2.cell? ⟨w.heap.size, 0, none⟩ = some (.slice x n c) := (box_cells hbox).1 0
  go_upto_region 2 with fail
  have hrow := World.rowIs_made w2 (.bool false) n 4
  have h23 : Below w2.heap.size w2 (w2.alloc (.cells (madeCells #[.bool false] n) 4)) := bl1 w2 _
  obtain ⟨w3, hw3⟩ : ∃ w3, w3 = w2.alloc (.cells (madeCells #[.bool false] n) 4) := ⟨_, rfl⟩
  rw [← hw3] at hrow h23 ⊢
  rw [hz2] at hrow
  have hG3 : GoW w w3 x n c lx ln lc (List.replicate n false) := by
    refine ⟨h02.trans (h23.mono h02.size), heap_later h23 hbox, hrow.congr fun j _ => ?_⟩
    unfold bAt
    rw [List.getD_eq_getElem?_getD, List.getElem?_replicate]
    split <;> rfl
  clear hw3 hrow h23 hbox q0 h02 hz2 hmk
  have q0 := hG3.cells.1
  have q1 := hG3.cells.2
  go_wp2_with fail
  refine (vpcAt_is x n c vs lx ln lc id p hpl w3 (hp.later hG3.below) hn).mono ?_
  rintro e w4 ⟨rfl, hb4⟩
  have hG4 := hG3.later hb4
  clear q0 q1 hG3 hb4 hpl
  have m0 := hG4.row.cell (i := p) hpn
  have m1 := hG4.row.frozen p
  have hp0 : (0 : Int) ≤ p := by omega
  have hp1 : (p : Int) < n := by omega
  have hG5 := hG4.set (k := p) (by rw [List.length_replicate]; exact hpn) true
  go_upto_region 3 with fail
  have hG5' : GoW w (w4.setCell ⟨w.heap.size + 1, p, none⟩ (.bool true)) x n c lx ln lc (oneMark n p) := hG5
  clear hG5 m0 m1 hG4
  generalize w4.setCell ⟨w.heap.size + 1, p, none⟩ (.bool true) = w5 at hG5' ⊢
  go_wp2
  go_loopw [6] (fun i wr => ∃ (t : Nat) (bs : List Bool), t ≤ n ∧ i = .int .i64 t ∧ GoW w wr x n c lx ln lc bs ∧ Hid (Snd ls n (fun k => (vnAt vs k).id) id bs) ∧ Hid (Far ls n (fun k => (vnAt vs k).id) t bs) ∧ Hid (bAt bs p = true)) (fun i _ => n - (intOf i).toNat)
  case atStart => exact ⟨0, _, by omega, rfl, hG5', oneMark_snd hpn hpi'.out, oneMark_far hpn, by show _ = _; rw [oneMark_at hpn]; simp⟩
  case round =>
    obtain ⟨t, bs0, ht, rfl, hG, hS, hF, hP⟩ := hrel
    by_cases hlt : t < n
    · have hlt' : Hid (t < n) := hlt
      go_wp2
      go_loopw [7] (fun i wr => ∃ (m : Nat) (bs : List Bool), m ≤ n ∧ i = .int .i64 m ∧ GoW w wr x n c lx ln lc bs ∧ Hid (Snd ls n (fun k => (vnAt vs k).id) id bs) ∧ Hid (Turn ls n (fun k => (vnAt vs k).id) bs0 bs m 0)) (fun i _ => n - (intOf i).toNat)
      case atStart => exact ⟨0, bs0, by omega, rfl, hG, hS, Turn.zero bs0⟩
      case round =>
        clear hG
        obtain ⟨m, bs, hm, rfl, hG, hS1, hT⟩ := hrel
        by_cases hltm : m < n
        · have hltm' : Hid (m < n) := hltm
          go_wp2
          go_loopw [8] (fun i wr => ∃ (q : Nat) (bs : List Bool), q ≤ n ∧ i = .int .i64 q ∧ GoW w wr x n c lx ln lc bs ∧ Hid (Snd ls n (fun k => (vnAt vs k).id) id bs) ∧ Hid (Turn ls n (fun k => (vnAt vs k).id) bs0 bs m q)) (fun i _ => n - (intOf i).toNat)
          case atStart => exact ⟨0, bs, by omega, rfl, hG, hS1, hT⟩
          case round =>
            clear hG hS1 hT bs
            obtain ⟨q, bs, hq, rfl, hG, hS1, hT⟩ := hrel
            by_cases hltq : q < n
            · have hltq' : Hid (q < n) := hltq
              have hbl : Hid (bs.length = n) := hS1.out.1
              have hS2 : Hid (Snd ls n (fun k => (vnAt vs k).id) id (bs.set q (bAt bs q || (bAt bs m && lkB ls (vnAt vs m).id (vnAt vs q).id)))) := hS1.out.step hltm hltq
              have hT2 : Hid (Turn ls n (fun k => (vnAt vs k).id) bs0 (bs.set q (bAt bs q || (bAt bs m && lkB ls (vnAt vs m).id (vnAt vs q).id))) m (q + 1)) := hT.out.step hbl.out hltm hltq
              clear hS1 hT
              have hpr := hp.later hG.below
              have hlr := hl.later hG.below
              obtain ⟨b, o, rfl, c0, -, -⟩ := hpr.cells m hltm
              obtain ⟨b', o', he, d0, -, -⟩ := hpr.cells q hltq
              obtain ⟨rfl, rfl⟩ : b = b' ∧ o = o' := by simpa using he
              clear he
              have e0 := hG.row.cell (i := q) hltq
              have e1 := hG.row.cell (i := m) hltm
              have hjl : ∀ W, Below wr.heap.size wr W → Calls Tryz.prog 21 #[.agg #[.slice (some ⟨b, o, none⟩) n c, .slice lx ln lc], .int .i64 (vnAt vs m).id, .int .i64 (vnAt vs q).id] W fun e w' => e = .returned (.bool (lkB ls (vnAt vs m).id (vnAt vs q).id)) ∧ Below W.heap.size W w' := fun W hW => linked_is _ n c lx ln lc ls _ _ _ (jn_lk hll.out _ _) W (hlr.later hW) hln
              have a0 := Ws.here hG.cells.1
              have a1 := Ws.here hG.cells.2
              have a2 := Ws.here c0
              have a3 := Ws.here d0
              have a4 := Ws.here e0
              have a5 := Ws.here e1
              clear c0 d0 e0 e1 hpr hlr
              have hq0 : (0 : Int) ≤ q := by omega
              have hq1 : (q : Int) < n := by omega
              have hm0 : (0 : Int) ≤ m := by omega
              have hm1 : (m : Int) < n := by omega
              clear hlt hltm hltq ht hm hq
              go_upto_region 12 with fail
              refine wp_region_tail wr.heap.size 29 (by kernel_rfl) (by kernel_rfl) ?_
              simp only [List.take_succ_cons, List.take_zero, List.drop_succ_cons, List.drop_zero]
              cases hbq : bAt bs q
              all_goals cases hbm : bAt bs m
              all_goals cases hlb : lkB ls (vnAt vs m).id (vnAt vs q).id
              all_goals simp only [hbq, hbm, hlb, Bool.or_false, Bool.or_true, Bool.and_false, Bool.and_true] at a4 a5 hjl hS2 hT2
              all_goals repeat (go_big_quiet_step ((go_at_call 21; exact Calls.in_ws (Nat.le_refl _) (hjl _ (Ws.property _)))))
              all_goals refine wpQuiet_nil ?_
              all_goals intro uu
              all_goals have hG6 := hG.later uu.property
              all_goals generalize uu.val = w6 at hG6 ⊢
              all_goals clear uu a0 a1 a2 a3 a4 a5 hG hjl
              all_goals have z0 := hG6.row.cell (i := q) hltq'.out
              all_goals have z1 := hG6.row.frozen q
              all_goals have hG7 := hG6.set (k := q) (by rw [hbl.out]; exact hltq'.out)
              all_goals go_wp2
              all_goals go_roundw
              all_goals first
                | (case rel => exact ⟨q + 1, _, hltq'.out, by go_num, hG7 _, hS2, hT2⟩)
                | (case measure => simp [intOf]; have := hltq'.out; omega)
                | skip
            · obtain rfl : q = n := by omega
              have hT2 : Hid (Turn ls q (fun k => (vnAt vs k).id) bs0 bs (m + 1) 0) := hT.out.next
              go_wp2
              go_roundw
              case rel => exact ⟨m + 1, bs, hltm'.out, by go_num, hG, hS1, hT2⟩
              case measure => simp [intOf]; have := hltm'.out; omega
        · obtain rfl : m = n := by omega
          have hF2 : Hid (Far ls m (fun k => (vnAt vs k).id) (t + 1) bs) := hT.out.far hS.out.1 hS1.out.1 hF.out
          have hP2 : Hid (bAt bs p = true) := hT.out.up p hP.out
          go_wp2
          go_roundw
          case rel => exact ⟨t + 1, bs, hlt'.out, by go_num, hG, hS1, hF2, hP2⟩
          case measure => simp [intOf]; have := hlt'.out; omega
    · obtain rfl : t = n := by omega
      have hall := hfin.out bs0 hS.out (hF.out.shut hS.out.1) hP.out
      clear hS hF hP hfin
      go_wp2
      go_loopw [9, 10] (fun v i wr => ∃ k : Nat, k ≤ t ∧ i = .int .i64 k ∧ GoW w wr x t c lx ln lc bs0 ∧ OwnI wr w.heap.size v ((idsOf (vs.take k)).filter fun y => hdOf ls y == hdOf ls id)) (fun _ i _ => t - (intOf i).toNat)
      case atStart => exact ⟨0, by omega, rfl, hG, World.ownsRow_nil _ _ _ _⟩
      case round =>
        clear hG
        obtain ⟨k, hk, rfl, hG, hI⟩ := hrel
        by_cases hltk : k < t
        · have hltk' : Hid (k < t) := hltk
          have hst : Hid (idsOf (vs.take (k + 1)) = idsOf (vs.take k) ++ [(vnAt vs k).id]) := ids_take (by rw [hvl.out]; exact hltk)
          have e0 := hG.row.cell (i := k) hltk
          have hak := hall k hltk
          obtain ⟨b, o, rfl, c0, -, -⟩ := (hp.later hG.below).cells k hltk
          have q0 := hG.cells.1
          cases hde : (hdOf ls (vnAt vs k).id == hdOf ls id)
          all_goals rw [hde] at hak
          all_goals simp only [hak] at e0
          · clear hak
            go_wp2
            go_roundw
            case rel => exact ⟨k + 1, hltk'.out, by go_num, hG, by rw [hst.out, List.filter_append]; simpa [hde] using hI⟩
            case measure => simp [intOf]; have := hltk'.out; omega
          · clear hak
            go_upto_region 18 with fail
            go_wp2_with (first | (at_builtin; refine Hid.out ?_))
            unfold Hid
            refine wpList_append_I rfl _ _ rfl w.heap.size _ _ rfl (hI.later (bl1 _ _)) ⟨wr.heap.size, 0, none⟩ 1 1 [(vnAt vs k).id] rfl rfl ?_ ?_ ?_ ?_
            · intro j u hj
              have hn := heap_new (W := wr) (.cells #[.int .i64 (vnAt vs k).id] 3) rfl
              rw [addr_add, Nat.zero_add]
              exact ((box_cells hn).1 j).trans (by rw [List.getElem?_toArray]; exact hj)
            · have h1 := List.length_filter_le (fun y => hdOf ls y == hdOf ls id) (idsOf (vs.take k))
              have h2 : (idsOf (vs.take k)).length ≤ k := by simp [idsOf, List.length_take]; omega
              omega
            · have := hG.below.size
              simp
              omega
            intro v8 w8 hI8 hg8
            have hIa := hI.later (bl1 wr (.cells #[.int .i64 (vnAt vs k).id] 3))
            have hGa := hG.later (bl1 wr (.cells #[.int .i64 (vnAt vs k).id] 3))
            have hG8 := hGa.grown hIa hg8
            have hI8' : Hid (OwnI w8 w.heap.size v8 ((idsOf (vs.take (k + 1))).filter fun y => hdOf ls y == hdOf ls id)) := by
              show OwnI _ _ _ _
              rw [hst.out, List.filter_append]
              simpa [hde] using hI8
            clear hIa hGa hg8 hI8 hI hG e0 c0 q0
            go_wp2
            go_roundw
            case rel => exact ⟨k + 1, hltk'.out, by go_num, hG8, hI8'.out⟩
            case measure => simp [intOf]; have := hltk'.out; omega
        · obtain rfl : k = t := by omega
          have e : vs.take k = vs := by rw [← hvl.out, List.take_length]
          rw [e] at hI
          go_wp2
          go_ret
          exact ⟨_, rfl, hI, hG.below⟩
end Go.Proofs.YtgealgjeboainaaGreat
/- CheckVpc of package parcelwayref. -/
namespace Go.Proofs.YtgealgjeboainaaGreat
open Go.RowKit Go.Shelf

theorem rightR_is (a l : Int) (t : Bool) (h : rt a l = t) (w : World) : Calls Tryz.prog 36 #[.agg #[.int .i64 a, .int .i64 l]] w fun e w' => e = .returned (.bool t) ∧ Below w.heap.size w w' := by
  subst h
  exact right_any a l w
theorem meetR_is (a l c m : Int) (t : Bool) (h : mts a l c m = t) (w : World) : Calls Tryz.prog 37 #[.agg #[.int .i64 a, .int .i64 l], .agg #[.int .i64 c, .int .i64 m]] w fun e w' => e = .returned (.bool t) ∧ Below w.heap.size w w' := by
  subst h
  exact meet_any a l c m w
theorem facesFine_is (id a l : Int) (x : Option Addr) (n c : Nat) (fs : List Fc) (t : Bool) (h : ffB a l n fs = t) (w : World) (hr : rt a l = true) (hp : FcS w x n fs) (hn : n ≤ 8) (hm : ∀ i, i < n → (fcAt fs i).n ≤ 4) :
    Calls Tryz.prog 39 #[.agg #[.int .i64 id, .int .i64 a, .int .i64 l, .slice x n c]] w fun e w' => e = .returned (.bool t) ∧ Below w.heap.size w w' := by
  subst h
  exact facesFine_any id a l x n c fs w hr hp hn hm
theorem any_rt {rn : Nat} {rs : List Rg} {a l : Int} (h : anyAt rn (riB rs a l) = true) : rt a l = true := by
  obtain ⟨i, -, hi⟩ := anyAt_ex h
  unfold riB ins at hi
  simp only [Bool.and_eq_true] at hi
  exact hi.1.1.1
def CkPost (t : Int) (w : World) (e : Ending) (w' : World) : Prop := e = .returned (.int .i64 t) ∧ Below w.heap.size w w'
/-- What the reference tells. -/
def rchkV (vid : Int) (rn : Nat) (rs : List Rg) (sn : Nat) (ss : List Sb) : Int := if vmanyB rn sn ss then 2 else if wth vid 1 65536 && rfB rn rs && sfB rn rs sn ss then 0 else 1

set_option maxRecDepth 100000 in
set_option maxHeartbeats 3200000 in
theorem checkVpc_any (vid : Int) (rx : Option Addr) (rn rc : Nat) (rs : List Rg) (sx : Option Addr) (sn sc : Nat) (ss : List Sb) (w : World) (hv : Vp w rx rn rc rs sx sn sc ss) (hrn : rn ≤ 9223372036854775807) (hsn : sn ≤ 9223372036854775807) :
    Calls Tryz.prog 18 #[.agg #[.int .i64 vid, .slice rx rn rc, .slice sx sn sc]] w (CkPost (rchkV vid rn rs sn ss) w) := by
  have hbd : Hid (rchkV vid rn rs sn ss = if vmanyB rn sn ss then 2 else if wth vid 1 65536 && rfB rn rs && sfB rn rs sn ss then 0 else 1) := rfl
  go_enter Tryz.func18, Tryz.ntmps18
  go_upto_region 1 with fail
  obtain ⟨w2, hw2⟩ : ∃ w2, w2 = w.alloc (vpO vid rx rn rc sx sn sc) := ⟨_, rfl⟩
  rw [← hw2]
  have h02 : Below w.heap.size w w2 := by rw [hw2]; exact bl1 w _
  have hbox : w2.heap[w.heap.size]? = some (vpO vid rx rn rc sx sn sc) := by rw [hw2]; exact heap_new _ rfl
  clear hw2
  obtain ⟨hcl, -⟩ := box_cells hbox
  have q0 : w2.cell? ⟨w.heap.size, 0, none⟩ = some (.int .i64 vid) := hcl 0
  have q1 : w2.cell? ⟨w.heap.size, 1, none⟩ = some (.slice rx rn rc) := hcl 1
  have q2 : w2.cell? ⟨w.heap.size, 2, none⟩ = some (.slice sx sn sc) := hcl 2
  clear hcl hbox
  have hv2 := hv.later h02
  have hsz : Hid (w.heap.size ≤ w2.heap.size) := h02.size
  generalize hbk : w.heap.size = bk at *
  cases hmy : vmanyB rn sn ss
  · obtain ⟨f1, f2, f3, f4⟩ := few hmy
    go_wp2_with fail
    refine (vpcMany_is _ _ _ _ _ _ _ _ _ hmy _ hrn hv2.subs hsn).mono ?_
    rintro e wm ⟨rfl, hbm⟩
    have h0m : Below bk w wm := h02.trans (hbm.mono hsz.out)
    have hszm : Hid (bk ≤ wm.heap.size) := Nat.le_trans hsz.out hbm.size
    have r0 := cell_later hbm q0
    have r1 := cell_later hbm q1
    have r2 := cell_later hbm q2
    have hvm := hv2.later hbm
    clear q0 q1 q2 hbm hv2 h02
    cases hw : wth vid 1 65536
    · go_wp2_with (go_at_call 35; refine (within_at _ _ _ _ hw _).mono ?_; rintro e w4 ⟨rfl, rfl⟩)
      go_ret
      exact ⟨ret_int (by rw [hbd.out, hmy, hw]; rfl), by rw [hbk]; exact h0m⟩
    · go_wp2_with fail
      refine (within_at _ _ _ _ hw _).mono ?_
      rintro e wm ⟨rfl, rfl⟩
      go_wp2
      go_loopw [3] (fun i wr => ∃ k : Nat, k ≤ rn ∧ i = .int .i64 k ∧ Below wm.heap.size wm wr ∧ (∀ j, j < k → rfAt rs j = true)) (fun i _ => rn - (intOf i).toNat)
      case atStart => exact ⟨0, by omega, rfl, Below.refl _ _, fun j hj => by omega⟩
      case round =>
        obtain ⟨k, hk, rfl, hB, hok⟩ := hrel
        have s1 := cell_later hB r1
        have hall : Below bk w wr := h0m.trans (hB.mono hszm.out)
        by_cases hlt : k < rn
        · have hlt' : Hid (k < rn) := hlt
          have hpr := hvm.ranges.later hB
          obtain ⟨b, o, rfl, c0, c1, c2⟩ := hpr.cells k hlt
          have hta : Hid (rfAt rs k = (wth (rgAt rs k).p 1 65536 && rt (rgAt rs k).a (rgAt rs k).l && (k == 0 || (decide ((rgAt rs (k - 1)).a < (rgAt rs k).a) && !mts (rgAt rs (k - 1)).a (rgAt rs (k - 1)).l (rgAt rs k).a (rgAt rs k).l)))) := rfl
          go_upto_region 9 with fail
          obtain ⟨w3, hw3⟩ : ∃ w3, w3 = wr.alloc (rgO (rgAt rs k)) := ⟨_, rfl⟩
          rw [← hw3]
          have h23 : Below wr.heap.size wr w3 := by rw [hw3]; exact bl1 wr _
          have hbf : w3.heap[wr.heap.size]? = some (rgO (rgAt rs k)) := by rw [hw3]; exact heap_new _ rfl
          clear hw3 c0 c1 c2
          have hp3 := hpr.later h23
          have hB3 := hB.trans (h23.mono hB.size)
          have hfb := (box_cells hbf).1
          have g0 := Ws.here (v := .int .i64 (rgAt rs k).a) (hfb 0)
          have g1 := Ws.here (v := .int .i64 (rgAt rs k).l) (hfb 1)
          have g2 := Ws.here (v := .int .i64 (rgAt rs k).p) (hfb 2)
          have g3 := Ws.here (cell_later h23 s1)
          clear hfb hbf s1
          generalize wr.heap.size = bf at *
          have hall3 : Below bk w w3 := h0m.trans (hB3.mono hszm.out)
          go_cut [65] (fun t wc => t = .bool (!rfAt rs k) ∧ Below w3.heap.size w3 wc)
          case first =>
            cases hwt : wth (rgAt rs k).p 1 65536
            · have hv : Hid (rfAt rs k = false) := by show _ = _; rw [hta.out, hwt]; rfl
              refine wp_region_ws w3.heap.size (by kernel_rfl) (by kernel_rfl) ?_
              repeat (go_big_quiet_step (first | (go_at_call 35; exact Calls.in_ws_same (within_at _ _ _ _ hwt _))))
              refine wpQuiet_nil ?_
              rintro _ ⟨u, rfl⟩
              have hu := u.property
              generalize u.val = wu at hu ⊢
              clear u g0 g1 g2 g3
              go_wp2
              go_meet
              case rel => exact ⟨by rw [hv.out]; rfl, hu⟩
            · cases hrt : rt (rgAt rs k).a (rgAt rs k).l
              · have hv : Hid (rfAt rs k = false) := by show _ = _; rw [hta.out, hrt]; simp
                refine wp_region_ws w3.heap.size (by kernel_rfl) (by kernel_rfl) ?_
                repeat (go_big_quiet_step (first | (go_at_call 35; exact Calls.in_ws_same (within_at _ _ _ _ hwt _)) | (go_at_call 36; exact Calls.in_ws (Nat.le_refl _) (rightR_is _ _ _ hrt _))))
                refine wpQuiet_nil ?_
                rintro _ ⟨u, rfl⟩
                have hu := u.property
                generalize u.val = wu at hu ⊢
                clear u g0 g1 g2 g3
                go_wp2
                go_meet
                case rel => exact ⟨by rw [hv.out]; rfl, hu⟩
              · by_cases hk0 : k = 0
                · have hdk : decide (0 < k) = false := by simp; omega
                  have hv : Hid (rfAt rs k = true) := by show _ = _; rw [hta.out, hwt, hrt, hk0]; rfl
                  clear hk0
                  refine wp_region_ws w3.heap.size (by kernel_rfl) (by kernel_rfl) ?_
                  repeat (go_big_quiet_step (first | (go_at_call 35; exact Calls.in_ws_same (within_at _ _ _ _ hwt _)) | (go_at_call 36; exact Calls.in_ws (Nat.le_refl _) (rightR_is _ _ _ hrt _))))
                  refine wpQuiet_nil ?_
                  rintro _ ⟨u, rfl⟩
                  have hu := u.property
                  generalize u.val = wu at hu ⊢
                  clear u g0 g1 g2 g3
                  go_wp2
                  go_meet
                  case rel => exact ⟨by rw [hv.out]; rfl, hu⟩
                · obtain ⟨i, rfl⟩ : ∃ i, k = i + 1 := ⟨k - 1, by omega⟩
                  obtain ⟨b4, o4, hx4, d0, d1, -⟩ := hp3.cells i (by omega)
                  simp only [Option.some.injEq, Addr.mk.injEq, and_true] at hx4
                  obtain ⟨rfl, rfl⟩ := hx4
                  have g4 := Ws.here d0
                  have g5 := Ws.here d1
                  rw [Nat.add_sub_cancel] at hta
                  by_cases hle : (rgAt rs i).a < (rgAt rs (i + 1)).a
                  · have hge : decide ((rgAt rs i).a ≥ (rgAt rs (i + 1)).a) = false := by simp; omega
                    cases hmt : mts (rgAt rs i).a (rgAt rs i).l (rgAt rs (i + 1)).a (rgAt rs (i + 1)).l
                    · have hv : Hid (rfAt rs (i + 1) = true) := by show _ = _; rw [hta.out, hwt, hrt, decide_eq_true hle, hmt]; simp
                      refine wp_region_ws w3.heap.size (by kernel_rfl) (by kernel_rfl) ?_
                      repeat (go_big_quiet_step (first | (go_at_call 35; exact Calls.in_ws_same (within_at _ _ _ _ hwt _)) | (go_at_call 36; exact Calls.in_ws (Nat.le_refl _) (rightR_is _ _ _ hrt _)) | (go_at_call 37; exact Calls.in_ws (Nat.le_refl _) (meetR_is _ _ _ _ _ hmt _))))
                      refine wpQuiet_nil ?_
                      rintro _ ⟨u, rfl⟩
                      have hu := u.property
                      generalize u.val = wu at hu ⊢
                      clear u g0 g1 g2 g3 g4 g5
                      go_wp2
                      go_meet
                      case rel => exact ⟨by rw [hv.out]; rfl, hu⟩
                    · have hv : Hid (rfAt rs (i + 1) = false) := by show _ = _; rw [hta.out, hmt]; simp
                      refine wp_region_ws w3.heap.size (by kernel_rfl) (by kernel_rfl) ?_
                      repeat (go_big_quiet_step (first | (go_at_call 35; exact Calls.in_ws_same (within_at _ _ _ _ hwt _)) | (go_at_call 36; exact Calls.in_ws (Nat.le_refl _) (rightR_is _ _ _ hrt _)) | (go_at_call 37; exact Calls.in_ws (Nat.le_refl _) (meetR_is _ _ _ _ _ hmt _))))
                      refine wpQuiet_nil ?_
                      rintro _ ⟨u, rfl⟩
                      have hu := u.property
                      generalize u.val = wu at hu ⊢
                      clear u g0 g1 g2 g3 g4 g5
                      go_wp2
                      go_meet
                      case rel => exact ⟨by rw [hv.out]; rfl, hu⟩
                  · have hge : decide ((rgAt rs i).a ≥ (rgAt rs (i + 1)).a) = true := by simp; omega
                    have hv : Hid (rfAt rs (i + 1) = false) := by show _ = _; rw [hta.out, decide_eq_false hle]; simp
                    refine wp_region_ws w3.heap.size (by kernel_rfl) (by kernel_rfl) ?_
                    repeat (go_big_quiet_step (first | (go_at_call 35; exact Calls.in_ws_same (within_at _ _ _ _ hwt _)) | (go_at_call 36; exact Calls.in_ws (Nat.le_refl _) (rightR_is _ _ _ hrt _))))
                    refine wpQuiet_nil ?_
                    rintro _ ⟨u, rfl⟩
                    have hu := u.property
                    generalize u.val = wu at hu ⊢
                    clear u g0 g1 g2 g3 g4 g5
                    go_wp2
                    go_meet
                    case rel => exact ⟨by rw [hv.out]; rfl, hu⟩
          case rest =>
            obtain ⟨rfl, hBc⟩ := hcut
            clear g0 g1 g2 g3
            have hfin := hB3.trans (hBc.mono hB3.size)
            cases hh : rfAt rs k
            · have hbad : Hid (rfB rn rs = false) := allR_no hlt hh
              go_wp2
              go_ret
              exact ⟨ret_int (by rw [hbd.out, hmy, hw, hbad.out]; rfl), by rw [hbk]; exact h0m.trans (hfin.mono hszm.out)⟩
            · go_wp2
              go_roundw
              case rel => exact ⟨k + 1, hlt'.out, by go_num, hfin, fun j hj => by
                by_cases hj2 : j < k
                · exact hok j hj2
                · obtain rfl : j = k := by omega
                  exact hh⟩
              case measure => simp [intOf]; have := hlt'.out; omega
        · obtain rfl : k = rn := by omega
          have hrf : Hid (rfB k rs = true) := allR_yes hok
          have s2 := cell_later hB r2
          clear hok
          have s0 := cell_later hB r0
          have hvo := hvm.later hB
          have hszo : Hid (bk ≤ wr.heap.size) := Nat.le_trans hszm.out hB.size
          clear r0 r1 r2 hvm hB h0m
          go_wp2
          obtain ⟨wo, rfl⟩ : ∃ wo, wo = wr := ⟨_, rfl⟩
          go_loopw [5] (fun i wr => ∃ q : Nat, q ≤ sn ∧ i = .int .i64 q ∧ Below wo.heap.size wo wr ∧ (∀ j, j < q → sfAt k rs ss j = true)) (fun i _ => sn - (intOf i).toNat)
          case atStart => exact ⟨0, by omega, rfl, Below.refl _ _, fun j hj => by omega⟩
          case round =>
            obtain ⟨q, hq, rfl, hB, hokq⟩ := hrel
            have e0 := cell_later hB s0
            have e1 := cell_later hB s1
            have e2 := cell_later hB s2
            have hallq : Below bk w wr := hall.trans (hB.mono hszo.out)
            by_cases hlt : q < sn
            · have hlt' : Hid (q < sn) := hlt
              have hpr := hvo.subs.later hB
              have hRr := hvo.ranges.later hB
              obtain ⟨b, o, rfl, c0, c1, c2, c3⟩ := hpr.cells q hlt
              have hF := (hpr.faces q hlt).2.2
              have hm1 := f3 q hlt
              have hm3 := f4 q hlt
              have hta : Hid (sfHd k rs ss q = (wth (sbAt ss q).id 1 65536 && anyAt k (riB rs (sbAt ss q).a (sbAt ss q).l) && (q == 0 || decide ((sbAt ss (q - 1)).id < (sbAt ss q).id)) && ffB (sbAt ss q).a (sbAt ss q).l (sbAt ss q).n (sbAt ss q).fs)) := rfl
              have htb : Hid (sfAt k rs ss q = (sfHd k rs ss q && !anyAt q (smB ss (sbAt ss q).a (sbAt ss q).l))) := rfl
              go_upto_region 15 with fail
              obtain ⟨w3, hw3⟩ : ∃ w3, w3 = wr.alloc (sbO (sbAt ss q)) := ⟨_, rfl⟩
              rw [← hw3]
              have h23 : Below wr.heap.size wr w3 := by rw [hw3]; exact bl1 wr _
              have hbf : w3.heap[wr.heap.size]? = some (sbO (sbAt ss q)) := by rw [hw3]; exact heap_new _ rfl
              clear hw3 c0 c1 c2 c3
              have hp3 := hpr.later h23
              have hR3 := hRr.later h23
              have hF3 := hF.later h23
              have hB3 := hB.trans (h23.mono hB.size)
              have hfb := (box_cells hbf).1
              have t1 : w3.cell? ⟨wr.heap.size, 1, none⟩ = some (.int .i64 (sbAt ss q).a) := hfb 1
              have t2 : w3.cell? ⟨wr.heap.size, 2, none⟩ = some (.int .i64 (sbAt ss q).l) := hfb 2
              have m2 := cell_later h23 e2
              have g0 := Ws.here (v := .int .i64 (sbAt ss q).id) (hfb 0)
              have g1 := Ws.here t1
              have g2 := Ws.here t2
              have g3 := Ws.here (v := .slice (sbAt ss q).x (sbAt ss q).n (sbAt ss q).c) (hfb 3)
              have g4 := Ws.here (cell_later h23 e0)
              have g5 := Ws.here (cell_later h23 e1)
              have g6 := Ws.here m2
              clear hfb hbf e0 e1 e2
              generalize wr.heap.size = bf at *
              have hall3 : Below bk w w3 := hall.trans (hB3.mono hszo.out)
              have hsz3 : Hid (bk ≤ w3.heap.size) := Nat.le_trans hszo.out hB3.size
              go_cut [109] (fun t wc => t = .bool (!sfHd k rs ss q) ∧ Below w3.heap.size w3 wc)
              case first =>
                cases hwt : wth (sbAt ss q).id 1 65536
                · have hv : Hid (sfHd k rs ss q = false) := by show _ = _; rw [hta.out, hwt]; rfl
                  refine wp_region_ws w3.heap.size (by kernel_rfl) (by kernel_rfl) ?_
                  repeat (go_big_quiet_step (first | (go_at_call 35; exact Calls.in_ws_same (within_at _ _ _ _ hwt _))))
                  refine wpQuiet_nil ?_
                  rintro _ ⟨u, rfl⟩
                  have hu := u.property
                  generalize u.val = wu at hu ⊢
                  clear u g0 g1 g2 g3 g4 g5 g6
                  go_wp2
                  go_meet
                  case rel => exact ⟨by rw [hv.out]; rfl, hu⟩
                · cases hir : anyAt k (riB rs (sbAt ss q).a (sbAt ss q).l)
                  · have hv : Hid (sfHd k rs ss q = false) := by show _ = _; rw [hta.out, hir]; simp
                    refine wp_region_ws w3.heap.size (by kernel_rfl) (by kernel_rfl) ?_
                    repeat (go_big_quiet_step (first | (go_at_call 35; exact Calls.in_ws_same (within_at _ _ _ _ hwt _)) | (go_at_call 38; exact Calls.in_ws (Nat.le_refl _) (inRange_is _ _ _ _ _ _ _ _ _ _ _ hir _ (hR3.later (Ws.property _)) (by omega)))))
                    refine wpQuiet_nil ?_
                    rintro _ ⟨u, rfl⟩
                    have hu := u.property
                    generalize u.val = wu at hu ⊢
                    clear u g0 g1 g2 g3 g4 g5 g6
                    go_wp2
                    go_meet
                    case rel => exact ⟨by rw [hv.out]; rfl, hu⟩
                  · have hrt := any_rt hir
                    by_cases hk0 : q = 0
                    · have hdk : decide (0 < q) = false := by simp; omega
                      have hv0 : Hid (sfHd k rs ss q = ffB (sbAt ss q).a (sbAt ss q).l (sbAt ss q).n (sbAt ss q).fs) := by show _ = _; rw [hta.out, hwt, hir, hk0]; rfl
                      clear hk0
                      cases hff : ffB (sbAt ss q).a (sbAt ss q).l (sbAt ss q).n (sbAt ss q).fs
                      · have hv : Hid (sfHd k rs ss q = false) := by show _ = _; rw [hv0.out, hff]
                        refine wp_region_ws w3.heap.size (by kernel_rfl) (by kernel_rfl) ?_
                        repeat (go_big_quiet_step (first | (go_at_call 35; exact Calls.in_ws_same (within_at _ _ _ _ hwt _)) | (go_at_call 38; exact Calls.in_ws (Nat.le_refl _) (inRange_is _ _ _ _ _ _ _ _ _ _ _ hir _ (hR3.later (Ws.property _)) (by omega))) | (go_at_call 39; exact Calls.in_ws (Nat.le_refl _) (facesFine_is _ _ _ _ _ _ _ _ hff _ hrt (hF3.later (Ws.property _)) hm1 hm3))))
                        refine wpQuiet_nil ?_
                        rintro _ ⟨u, rfl⟩
                        have hu := u.property
                        generalize u.val = wu at hu ⊢
                        clear u g0 g1 g2 g3 g4 g5 g6
                        go_wp2
                        go_meet
                        case rel => exact ⟨by rw [hv.out]; rfl, hu⟩
                      · have hv : Hid (sfHd k rs ss q = true) := by show _ = _; rw [hv0.out, hff]
                        refine wp_region_ws w3.heap.size (by kernel_rfl) (by kernel_rfl) ?_
                        repeat (go_big_quiet_step (first | (go_at_call 35; exact Calls.in_ws_same (within_at _ _ _ _ hwt _)) | (go_at_call 38; exact Calls.in_ws (Nat.le_refl _) (inRange_is _ _ _ _ _ _ _ _ _ _ _ hir _ (hR3.later (Ws.property _)) (by omega))) | (go_at_call 39; exact Calls.in_ws (Nat.le_refl _) (facesFine_is _ _ _ _ _ _ _ _ hff _ hrt (hF3.later (Ws.property _)) hm1 hm3))))
                        refine wpQuiet_nil ?_
                        rintro _ ⟨u, rfl⟩
                        have hu := u.property
                        generalize u.val = wu at hu ⊢
                        clear u g0 g1 g2 g3 g4 g5 g6
                        go_wp2
                        go_meet
                        case rel => exact ⟨by rw [hv.out]; rfl, hu⟩
                    · obtain ⟨i, rfl⟩ : ∃ i, q = i + 1 := ⟨q - 1, by omega⟩
                      obtain ⟨b4, o4, hx4, d0, -⟩ := hp3.cells i (by omega)
                      simp only [Option.some.injEq, Addr.mk.injEq, and_true] at hx4
                      obtain ⟨rfl, rfl⟩ := hx4
                      have g7 := Ws.here d0
                      rw [Nat.add_sub_cancel] at hta
                      by_cases hle : (sbAt ss i).id < (sbAt ss (i + 1)).id
                      · have hge : decide ((sbAt ss i).id ≥ (sbAt ss (i + 1)).id) = false := by simp; omega
                        cases hff : ffB (sbAt ss (i + 1)).a (sbAt ss (i + 1)).l (sbAt ss (i + 1)).n (sbAt ss (i + 1)).fs
                        · have hv : Hid (sfHd k rs ss (i + 1) = false) := by show _ = _; rw [hta.out, hff]; simp
                          refine wp_region_ws w3.heap.size (by kernel_rfl) (by kernel_rfl) ?_
                          repeat (go_big_quiet_step (first | (go_at_call 35; exact Calls.in_ws_same (within_at _ _ _ _ hwt _)) | (go_at_call 38; exact Calls.in_ws (Nat.le_refl _) (inRange_is _ _ _ _ _ _ _ _ _ _ _ hir _ (hR3.later (Ws.property _)) (by omega))) | (go_at_call 39; exact Calls.in_ws (Nat.le_refl _) (facesFine_is _ _ _ _ _ _ _ _ hff _ hrt (hF3.later (Ws.property _)) hm1 hm3))))
                          refine wpQuiet_nil ?_
                          rintro _ ⟨u, rfl⟩
                          have hu := u.property
                          generalize u.val = wu at hu ⊢
                          clear u g0 g1 g2 g3 g4 g5 g6 g7
                          go_wp2
                          go_meet
                          case rel => exact ⟨by rw [hv.out]; rfl, hu⟩
                        · have hv : Hid (sfHd k rs ss (i + 1) = true) := by show _ = _; rw [hta.out, hwt, hir, decide_eq_true hle, hff]; simp
                          refine wp_region_ws w3.heap.size (by kernel_rfl) (by kernel_rfl) ?_
                          repeat (go_big_quiet_step (first | (go_at_call 35; exact Calls.in_ws_same (within_at _ _ _ _ hwt _)) | (go_at_call 38; exact Calls.in_ws (Nat.le_refl _) (inRange_is _ _ _ _ _ _ _ _ _ _ _ hir _ (hR3.later (Ws.property _)) (by omega))) | (go_at_call 39; exact Calls.in_ws (Nat.le_refl _) (facesFine_is _ _ _ _ _ _ _ _ hff _ hrt (hF3.later (Ws.property _)) hm1 hm3))))
                          refine wpQuiet_nil ?_
                          rintro _ ⟨u, rfl⟩
                          have hu := u.property
                          generalize u.val = wu at hu ⊢
                          clear u g0 g1 g2 g3 g4 g5 g6 g7
                          go_wp2
                          go_meet
                          case rel => exact ⟨by rw [hv.out]; rfl, hu⟩
                      · have hge : decide ((sbAt ss i).id ≥ (sbAt ss (i + 1)).id) = true := by simp; omega
                        have hv : Hid (sfHd k rs ss (i + 1) = false) := by show _ = _; rw [hta.out, decide_eq_false hle]; simp
                        refine wp_region_ws w3.heap.size (by kernel_rfl) (by kernel_rfl) ?_
                        repeat (go_big_quiet_step (first | (go_at_call 35; exact Calls.in_ws_same (within_at _ _ _ _ hwt _)) | (go_at_call 38; exact Calls.in_ws (Nat.le_refl _) (inRange_is _ _ _ _ _ _ _ _ _ _ _ hir _ (hR3.later (Ws.property _)) (by omega)))))
                        refine wpQuiet_nil ?_
                        rintro _ ⟨u, rfl⟩
                        have hu := u.property
                        generalize u.val = wu at hu ⊢
                        clear u g0 g1 g2 g3 g4 g5 g6 g7
                        go_wp2
                        go_meet
                        case rel => exact ⟨by rw [hv.out]; rfl, hu⟩
              case rest =>
                obtain ⟨rfl, hBc⟩ := hcut
                clear g0 g1 g2 g3 g4 g5 g6
                have hfin := hB3.trans (hBc.mono hB3.size)
                have hallc : Below bk w wc := hall3.trans (hBc.mono hsz3.out)
                have hszc : Hid (bk ≤ wc.heap.size) := Nat.le_trans hsz3.out hBc.size
                cases hh : sfHd k rs ss q
                · have hbad : Hid (sfB k rs sn ss = false) := allR_no hlt (by rw [htb.out, hh]; rfl)
                  go_wp2
                  go_ret
                  exact ⟨ret_int (by rw [hbd.out, hmy, hw, hbad.out]; simp), by rw [hbk]; exact hallc⟩
                · have n1 := cell_later hBc t1
                  have n2 := cell_later hBc t2
                  have n3 := cell_later hBc m2
                  have hpc := hp3.later hBc
                  go_wp2
                  obtain ⟨wu, rfl⟩ : ∃ wu, wu = wr := ⟨_, rfl⟩
                  go_loopw [7] (fun i wr => ∃ z : Nat, z ≤ q ∧ i = .int .i64 z ∧ Below wc.heap.size wc wr ∧ (∀ j, j < z → smB ss (sbAt ss q).a (sbAt ss q).l j = false)) (fun i _ => q - (intOf i).toNat)
                  case atStart => exact ⟨0, by omega, rfl, Below.refl _ _, fun j hj => by omega⟩
                  case round =>
                    obtain ⟨z, hz, rfl, hBz, hnoz⟩ := hrel
                    by_cases hz2 : z < q
                    · have hz' : Hid (z < q) := hz2
                      obtain ⟨b9, o9, hx9, -, d1, d2, -⟩ := (hpc.later hBz).cells z (by omega)
                      simp only [Option.some.injEq, Addr.mk.injEq, and_true] at hx9
                      obtain ⟨rfl, rfl⟩ := hx9
                      have g1 := Ws.here (cell_later hBz n1)
                      have g2 := Ws.here (cell_later hBz n2)
                      have g3 := Ws.here (cell_later hBz n3)
                      have g4 := Ws.here d1
                      have g5 := Ws.here d2
                      clear d1 d2
                      cases hmt0 : smB ss (sbAt ss q).a (sbAt ss q).l z
                      all_goals have hmt : mts (sbAt ss z).a (sbAt ss z).l (sbAt ss q).a (sbAt ss q).l = _ := hmt0
                      all_goals go_upto_region 20 with fail
                      all_goals refine wp_region_ws wr.heap.size (by kernel_rfl) (by kernel_rfl) ?_
                      all_goals repeat (go_big_quiet_step ((go_at_call 37; exact Calls.in_ws (Nat.le_refl _) (meetR_is _ _ _ _ _ hmt _))))
                      all_goals refine wpQuiet_nil ?_
                      all_goals rintro _ ⟨u, rfl⟩
                      all_goals have hu := hBz.trans (u.property.mono hBz.size)
                      all_goals generalize u.val = wv at hu ⊢
                      all_goals clear u g1 g2 g3 g4 g5
                      · go_wp2
                        go_roundw
                        case rel => exact ⟨z + 1, hz'.out, by go_num, hu, fun j hj => by
                          by_cases hj2 : j < z
                          · exact hnoz j hj2
                          · obtain rfl : j = z := by omega
                            exact hmt0⟩
                        case measure => simp [intOf]; have := hz'.out; omega
                      · have hbad : Hid (sfB k rs sn ss = false) := allR_no hlt (by rw [htb.out, any_yes hz'.out hmt0]; simp)
                        go_wp2
                        go_ret
                        exact ⟨ret_int (by rw [hbd.out, hmy, hw, hbad.out]; simp), by rw [hbk]; exact hallc.trans (hu.mono hszc.out)⟩
                    · obtain rfl : z = q := by omega
                      have hyes : Hid (sfAt k rs ss z = true) := by show _ = _; rw [htb.out, hh, any_no hnoz]; rfl
                      have hfin2 := hfin.trans (hBz.mono hfin.size)
                      go_wp2
                      go_roundw
                      case rel => exact ⟨z + 1, hlt'.out, by go_num, hfin2, fun j hj => by
                        by_cases hj2 : j < z
                        · exact hokq j hj2
                        · obtain rfl : j = z := by omega
                          exact hyes.out⟩
                      case measure => simp [intOf]; have := hlt'.out; omega
            · obtain rfl : q = sn := by omega
              have hsf : Hid (sfB k rs q ss = true) := allR_yes hokq
              go_wp2
              go_ret
              exact ⟨ret_int (by rw [hbd.out, hmy, hw, hrf.out, hsf.out]; rfl), by rw [hbk]; exact hallq⟩
  · go_wp2_with (go_at_call 34; refine (vpcMany_is _ _ _ _ _ _ _ _ _ hmy _ hrn hv2.subs hsn).mono ?_; rintro e w3 ⟨rfl, hb3⟩)
    go_ret
    exact ⟨ret_int (by rw [hbd.out, hmy]; rfl), by rw [hbk]; exact h02.trans (hb3.mono hsz.out)⟩
end Go.Proofs.YtgealgjeboainaaGreat
/- CheckNet of the reference answers as Check of package net. -/
namespace Go.Proofs.YtgealgjeboainaaGreat
open Go.RowKit Go.Shelf Go.Maps

theorem rchkN_eq {w : World} {vid : Int} {rx : Option Addr} {rn rc : Nat} {rs : List Rg} {sx : Option Addr} {sn sc : Nat} {ss : List Sb} (hv : Vp w rx rn rc rs sx sn sc ss) : rchkV vid rn rs sn ss = chkV vid rn rs sn ss := by
  unfold rchkV chkV
  rw [rf_eq hv.ranges.len, sf_eq hv.subs.len (fun i hi => ⟨(hv.subs.faces i hi).2.2.len, fun k hk => ((hv.subs.faces i hi).2.2.addrs k hk).2.2.len⟩)]
theorem checkVpcN_is (v : Vn) (t : Int) (h : chkV v.id v.rn v.rs v.sn v.ss = t) (w : World) (hv : Vp w v.rx v.rn v.rc v.rs v.sx v.sn v.sc v.ss) (hrn : v.rn ≤ 9223372036854775807) (hsn : v.sn ≤ 9223372036854775807) :
    Calls Tryz.prog 18 #[.agg #[.int .i64 v.id, .slice v.rx v.rn v.rc, .slice v.sx v.sn v.sc]] w fun e w' => e = .returned (.int .i64 t) ∧ Below w.heap.size w w' := by
  rw [← h, ← rchkN_eq (vid := v.id) hv]
  exact checkVpc_any v.id v.rx v.rn v.rc v.rs v.sx v.sn v.sc v.ss w hv hrn hsn
/-- Is the i-th network wrong, or out of order? -/
def vwrong (vs : List Vn) (i : Nat) : Bool := vbad (vnAt vs i) || !riseVAt vs i
theorem vpcs_yes {n : Nat} {vs : List Vn} (hl : vs.length = n) (h : ∀ i, i < n → vwrong vs i = false) : vpcsB n vs = true := by
  have hh : ∀ i, i < n → vbad (vnAt vs i) = false ∧ riseVAt vs i = true := fun i hi => by
    have := h i hi
    unfold vwrong at this
    simpa using this
  unfold vpcsB
  rw [riseV_yes fun j hj => (hh j (by omega)).2, any_no fun j hj => (hh j hj).1]
  rfl
theorem vpcs_no {n : Nat} {vs : List Vn} (hl : vs.length = n) {i : Nat} (hi : i < n) (h : vwrong vs i = true) : vpcsB n vs = false := by
  unfold vwrong at h
  unfold vpcsB
  rcases Bool.or_eq_true_iff.1 h with h | h
  · rw [any_yes (f := fun i => vbad (vnAt vs i)) hi h]
    simp
  · rw [riseV_no (k := i) (by omega) (by simpa using h)]
    rfl
/-- Is the i-th link wrong, or out of order? -/
def lwrong (n : Nat) (vs : List Vn) (ls : List (Int × Int)) (i : Nat) : Bool := lbad n vs ls i || !riseLAt ls i
theorem links_yes {n : Nat} {vs : List Vn} {ln : Nat} {ls : List (Int × Int)} (hl : ls.length = ln) (h : ∀ i, i < ln → lwrong n vs ls i = false) : linksB n vs ln ls = true := by
  have hh : ∀ i, i < ln → lbad n vs ls i = false ∧ riseLAt ls i = true := fun i hi => by
    have := h i hi
    unfold lwrong at this
    simpa using this
  unfold linksB
  rw [riseL_yes fun j hj => (hh j (by omega)).2, any_no fun j hj => (hh j hj).1]
  rfl
theorem links_no {n : Nat} {vs : List Vn} {ln : Nat} {ls : List (Int × Int)} (hl : ls.length = ln) {i : Nat} (hi : i < ln) (h : lwrong n vs ls i = true) : linksB n vs ln ls = false := by
  unfold lwrong at h
  unfold linksB
  rcases Bool.or_eq_true_iff.1 h with h | h
  · rw [any_yes (f := lbad n vs ls) hi h]
    simp
  · rw [riseL_no (k := i) (by omega) (by simpa using h)]
    rfl
theorem chkN_many {n : Nat} {vs : List Vn} {ln : Nat} {ls : List (Int × Int)} (h : (decide (6 < n) || decide (12 < ln)) = true) : chkN n vs ln ls = 2 := by
  unfold chkN
  rw [if_pos h]
theorem chkN_form {n : Nat} {vs : List Vn} {ln : Nat} {ls : List (Int × Int)} (h : (decide (6 < n) || decide (12 < ln)) = false) (h2 : (vpcsB n vs && linksB n vs ln ls && apB ls n vs) = false) : chkN n vs ln ls = 1 := by
  unfold chkN
  rw [if_neg (by rw [h]; simp), if_neg (by rw [h2]; simp)]
theorem chkN_ok {n : Nat} {vs : List Vn} {ln : Nat} {ls : List (Int × Int)} (h : (decide (6 < n) || decide (12 < ln)) = false) (h1 : vpcsB n vs = true) (h2 : linksB n vs ln ls = true) (h3 : apB ls n vs = true) : chkN n vs ln ls = 0 := by
  unfold chkN
  rw [if_neg (by rw [h]; simp), h1, h2, h3]
  rfl
end Go.Proofs.YtgealgjeboainaaGreat
/- CheckNet of the reference: the walk. -/
namespace Go.Proofs.YtgealgjeboainaaGreat
open Go.RowKit Go.Shelf Go.Maps

set_option maxRecDepth 100000 in
set_option maxHeartbeats 12800000 in
theorem checkNet_any (x : Option Addr) (n c : Nat) (vs : List Vn) (lx : Option Addr) (ln lc : Nat) (ls : List (Int × Int)) (w : World) (hp : VS w x n vs) (hn : n ≤ 9223372036854775807) (hl : PS w lx ln ls) (hln : ln ≤ 9223372036854775807) :
    Calls Tryz.prog 6 #[.agg #[.slice x n c, .slice lx ln lc]] w fun e w' => e = .returned (.int .i64 (chkN n vs ln ls)) ∧ Below w.heap.size w w' := by
  have hvl : Hid (vs.length = n) := hp.len
  have hll : Hid (ls.length = ln) := hl.len
  go_enter Tryz.func6, Tryz.ntmps6
  go_upto_region 1 with fail
  obtain ⟨w2, hw2⟩ : ∃ w2, w2 = w.alloc (netO x n c lx ln lc) := ⟨_, rfl⟩
  rw [← hw2]
  have h02 : Below w.heap.size w w2 := by rw [hw2]; exact bl1 w _
  have hbox : w2.heap[w.heap.size]? = some (netO x n c lx ln lc) := by rw [hw2]; exact heap_new _ rfl
  clear hw2
  have q0 : w2.cell? ⟨w.heap.size, 0, none⟩ = some (.slice x n c) := (box_cells hbox).1 0
  have q1 : w2.cell? ⟨w.heap.size, 1, none⟩ = some (.slice lx ln lc) := (box_cells hbox).1 1
  have hp2 := hp.later h02
  have hl2 := hl.later h02
  have hsz : Hid (w.heap.size ≤ w2.heap.size) := h02.size
  clear hbox hp hl
  generalize hbk : w.heap.size = bk at *
  by_cases h6 : 6 < n
  · have hv : Hid (chkN n vs ln ls = 2) := chkN_many (by simp [h6])
    go_wp2
    go_ret
    exact ⟨ret_int hv.out.symm, by first | exact h02 | (rw [hbk]; exact h02)⟩
  by_cases h12 : 12 < ln
  · have hv : Hid (chkN n vs ln ls = 2) := chkN_many (by simp [h12])
    go_wp2
    go_ret
    exact ⟨ret_int hv.out.symm, by first | exact h02 | (rw [hbk]; exact h02)⟩
  have hfew : Hid ((decide (6 < n) || decide (12 < ln)) = false) := by show _ = _; simp [h6, h12]
  have hn6 : Hid (n ≤ 6) := by show _ ≤ _; omega
  have hl12 : Hid (ln ≤ 12) := by show _ ≤ _; omega
  go_wp2
  clear h6 h12
  go_loopw [3] (fun i wr => ∃ k : Nat, k ≤ n ∧ i = .int .i64 k ∧ Below w2.heap.size w2 wr ∧ Hid (∀ j, j < k → vwrong vs j = false)) (fun i _ => n - (intOf i).toNat)
  case atStart => exact ⟨0, by omega, rfl, Below.refl _ _, fun j hj => by omega⟩
  case round =>
    obtain ⟨k, hk, rfl, hB, hno⟩ := hrel
    have r0 := cell_later hB q0
    by_cases hlt : k < n
    · have hlt' : Hid (k < n) := hlt
      have hpr := hp2.later hB
      have hvp := hpr.vps k hlt
      obtain ⟨b, o, rfl, c0, c1, c2⟩ := hpr.cells k hlt
      have hcv : ∀ t, chkV (vnAt vs k).id (vnAt vs k).rn (vnAt vs k).rs (vnAt vs k).sn (vnAt vs k).ss = t → ∀ W, Below wr.heap.size wr W → Calls Tryz.prog 18 #[.agg #[.int .i64 (vnAt vs k).id, .slice (vnAt vs k).rx (vnAt vs k).rn (vnAt vs k).rc, .slice (vnAt vs k).sx (vnAt vs k).sn (vnAt vs k).sc]] W fun e w' => e = .returned (.int .i64 t) ∧ Below W.heap.size W w' := fun t ht W hW => checkVpcN_is _ t ht W (hvp.2.2.2.later hW) hvp.1 hvp.2.1
      have a0 := Ws.here r0
      have a2 := Ws.here c0
      have a3 := Ws.here c1
      have a4 := Ws.here c2
      go_upto_region 6 with fail
      clear r0 c0 c1 c2
      go_cut [52] (fun t wc => t = .bool (vwrong vs k) ∧ Below wr.heap.size wr wc)
      case first =>
        by_cases hz : chkV (vnAt vs k).id (vnAt vs k).rn (vnAt vs k).rs (vnAt vs k).sn (vnAt vs k).ss = 0
        · have hcv0 := hcv 0 hz
          have hvb : Hid (vbad (vnAt vs k) = false) := by show _ = _; unfold vbad; simp [hz]
          clear hz hcv
          by_cases hk0 : k = 0
          · have hdk : decide (0 < k) = false := by simp; omega
            have hv : Hid (vwrong vs k = false) := by show _ = _; unfold vwrong; rw [hvb.out, hk0]; rfl
            refine wp_region_ws wr.heap.size (by kernel_rfl) (by kernel_rfl) ?_
            clear hk0
            repeat (go_big_quiet_step (first | (go_at_call 18; exact Calls.in_ws (Nat.le_refl _) (hcv0 _ (Ws.property _)))))
            refine wpQuiet_nil ?_
            rintro _ ⟨u, rfl⟩
            have hu := u.property
            generalize u.val = wu at hu ⊢
            clear u a0 a2 a3 a4
            go_wp2
            go_meet
            case rel => exact ⟨by rw [hv.out], hu⟩
          · obtain ⟨i, rfl⟩ : ∃ i, k = i + 1 := ⟨k - 1, by omega⟩
            obtain ⟨b4, o4, hx4, d0, -, -⟩ := hpr.cells i (by omega)
            simp only [Option.some.injEq, Addr.mk.injEq, and_true] at hx4
            obtain ⟨rfl, rfl⟩ := hx4
            have a5 := Ws.here d0
            clear d0
            have hra : Hid (riseVAt vs (i + 1) = decide ((vnAt vs i).id < (vnAt vs (i + 1)).id)) := by show _ = _; unfold riseVAt; simp
            by_cases hle : (vnAt vs i).id < (vnAt vs (i + 1)).id
            · have hge : decide ((vnAt vs i).id ≥ (vnAt vs (i + 1)).id) = false := by simp; omega
              have hv : Hid (vwrong vs (i + 1) = false) := by show _ = _; unfold vwrong; rw [hvb.out, hra.out, decide_eq_true hle]; rfl
              refine wp_region_ws wr.heap.size (by kernel_rfl) (by kernel_rfl) ?_
              repeat (go_big_quiet_step (first | (go_at_call 18; exact Calls.in_ws (Nat.le_refl _) (hcv0 _ (Ws.property _)))))
              refine wpQuiet_nil ?_
              rintro _ ⟨u, rfl⟩
              have hu := u.property
              generalize u.val = wu at hu ⊢
              clear u a0 a2 a3 a4 a5
              go_wp2
              go_meet
              case rel => exact ⟨by rw [hv.out], hu⟩
            · have hge : decide ((vnAt vs i).id ≥ (vnAt vs (i + 1)).id) = true := by simp; omega
              have hv : Hid (vwrong vs (i + 1) = true) := by show _ = _; unfold vwrong; rw [hvb.out, hra.out, decide_eq_false hle]; rfl
              refine wp_region_ws wr.heap.size (by kernel_rfl) (by kernel_rfl) ?_
              repeat (go_big_quiet_step (first | (go_at_call 18; exact Calls.in_ws (Nat.le_refl _) (hcv0 _ (Ws.property _)))))
              refine wpQuiet_nil ?_
              rintro _ ⟨u, rfl⟩
              have hu := u.property
              generalize u.val = wu at hu ⊢
              clear u a0 a2 a3 a4 a5
              go_wp2
              go_meet
              case rel => exact ⟨by rw [hv.out], hu⟩
        · have hvb : Hid (vbad (vnAt vs k) = true) := by show _ = _; unfold vbad; simpa using hz
          have hcv0 := hcv _ rfl
          clear hcv
          generalize chkV (vnAt vs k).id (vnAt vs k).rn (vnAt vs k).rs (vnAt vs k).sn (vnAt vs k).ss = t0 at *
          have h1 : (t0 == 0) = false := by simpa using hz
          have h2 : (t0 != 0) = true := by simpa using hz
          have hv : Hid (vwrong vs k = true) := by show _ = _; unfold vwrong; rw [hvb.out]; rfl
          refine wp_region_ws wr.heap.size (by kernel_rfl) (by kernel_rfl) ?_
          repeat (go_big_quiet_step (first | (go_at_call 18; exact Calls.in_ws (Nat.le_refl _) (hcv0 _ (Ws.property _)))))
          refine wpQuiet_nil ?_
          rintro _ ⟨u, rfl⟩
          have hu := u.property
          generalize u.val = wu at hu ⊢
          clear u a0 a2 a3 a4
          go_wp2
          go_meet
          case rel => exact ⟨by rw [hv.out], hu⟩
      case rest =>
        obtain ⟨rfl, hBc⟩ := hcut
        clear a0 a2 a3 a4 hcv hvp hpr
        have hfin := hB.trans (hBc.mono hB.size)
        clear hB hBc
        cases hh : vwrong vs k
        · go_wp2
          go_roundw
          case rel => exact ⟨k + 1, hlt'.out, by go_num, hfin, fun j hj => by
            by_cases hj2 : j < k
            · exact hno.out j hj2
            · obtain rfl : j = k := by omega
              exact hh⟩
          case measure => simp [intOf]; have := hlt'.out; omega
        · have hv : Hid (chkN n vs ln ls = 1) := chkN_form hfew.out (by rw [vpcs_no hvl.out hlt hh]; rfl)
          go_wp2
          go_ret
          exact ⟨ret_int hv.out.symm, by first | exact h02.trans (hfin.mono hsz.out) | (rw [hbk]; exact h02.trans (hfin.mono hsz.out))⟩
    · obtain rfl : n = k := by omega
      have hvr : Hid (vpcsB n vs = true) := vpcs_yes hvl.out hno.out
      clear r0 hno hlt hk
      obtain ⟨w3, hw3⟩ : ∃ w3, w3 = wr := ⟨_, rfl⟩
      subst hw3
      have h03 : Below bk w w3 := h02.trans (hB.mono hsz.out)
      have hsz3 : Hid (bk ≤ w3.heap.size) := Nat.le_trans hsz.out hB.size
      have hp3 := hp2.later hB
      have hl3 := hl2.later hB
      have s0 := cell_later hB q0
      have s1 := cell_later hB q1
      clear hB hp2 hl2 q0 q1 h02 hsz
      go_wp2
      go_loopw [4] (fun i wr => ∃ q : Nat, q ≤ ln ∧ i = .int .i64 q ∧ Below w3.heap.size w3 wr ∧ Hid (∀ j, j < q → lwrong n vs ls j = false)) (fun i _ => ln - (intOf i).toNat)
      case atStart => exact ⟨0, by omega, rfl, Below.refl _ _, fun j hj => by omega⟩
      case round =>
        obtain ⟨q, hq, rfl, hC, hno⟩ := hrel
        have r0 := cell_later hC s0
        have r1 := cell_later hC s1
        by_cases hlt : q < ln
        · have hlt' : Hid (q < ln) := hlt
          have hlr := hl3.later hC
          obtain ⟨b, o, rfl, c0, c1⟩ := hlr.cells q hlt
          go_upto_region 12 with fail
          obtain ⟨w4, hw4⟩ : ∃ w4, w4 = wr.alloc (.cells #[.int .i64 (at0 ls q), .int .i64 (at1 ls q)] 57) := ⟨_, rfl⟩
          rw [← hw4]
          have h34 : Below wr.heap.size wr w4 := by rw [hw4]; exact bl1 wr _
          have hbf : w4.heap[wr.heap.size]? = some (.cells #[.int .i64 (at0 ls q), .int .i64 (at1 ls q)] 57) := by rw [hw4]; exact heap_new _ rfl
          clear hw4 c0 c1
          have hC4 := hC.trans (h34.mono hC.size)
          have hp4 := hp3.later hC4
          have hl4 := hlr.later h34
          have a0 := Ws.here (v := .int .i64 (at0 ls q)) ((box_cells hbf).1 0)
          have a1 := Ws.here (v := .int .i64 (at1 ls q)) ((box_cells hbf).1 1)
          have a2 := Ws.here (cell_later h34 r0)
          have a3 := Ws.here (cell_later h34 r1)
          clear hbf r0 r1 h34 hlr
          have hva : ∀ y t, vplace n vs y = t → ∀ W, Below w4.heap.size w4 W → Calls Tryz.prog 7 #[.agg #[.slice x n c, .slice (some ⟨b, o, none⟩) ln lc], .int .i64 y] W fun e w' => e = .returned (.int .i64 t) ∧ Below W.heap.size W w' := fun y t h W hW => vpcAt_is x n c vs _ ln lc y t h W (hp4.later hW) (by have := hn6.out; omega)
          generalize wr.heap.size = bf at *
          go_cut [123] (fun t wc => t = .bool (lwrong n vs ls q) ∧ Below w4.heap.size w4 wc)
          case first =>
            have hla : Hid (lwrong n vs ls q = (decide (at1 ls q ≤ at0 ls q) || decide (vplace n vs (at0 ls q) < 0) || decide (vplace n vs (at1 ls q) < 0) || !riseLAt ls q)) := rfl
            have hv0 := hva (at0 ls q) _ rfl
            have hv1 := hva (at1 ls q) _ rfl
            clear hva
            generalize vplace n vs (at0 ls q) = pa at *
            generalize vplace n vs (at1 ls q) = pb at *
            by_cases e1 : at1 ls q ≤ at0 ls q
            · have hge : decide (at0 ls q ≥ at1 ls q) = true := by simp; omega
              generalize at0 ls q = la at *
              generalize at1 ls q = lb at *
              have hv : Hid (lwrong n vs ls q = true) := by show _ = _; rw [hla.out, decide_eq_true e1]; rfl
              refine wp_region_ws w4.heap.size (by kernel_rfl) (by kernel_rfl) ?_
              repeat (go_big_quiet_step (first | fail))
              refine wpQuiet_nil ?_
              rintro _ ⟨u, rfl⟩
              have hu := u.property
              generalize u.val = wu at hu ⊢
              clear u a0 a1 a2 a3
              go_wp2
              go_meet
              case rel => exact ⟨by rw [hv.out], hu⟩
            have hge : decide (at0 ls q ≥ at1 ls q) = false := by simp; omega
            by_cases e2 : pa < 0
            · have hd2 : decide (pa < 0) = true := decide_eq_true e2
              generalize at0 ls q = la at *
              generalize at1 ls q = lb at *
              have hv : Hid (lwrong n vs ls q = true) := by show _ = _; rw [hla.out, hd2]; simp
              refine wp_region_ws w4.heap.size (by kernel_rfl) (by kernel_rfl) ?_
              repeat (go_big_quiet_step (first | (go_at_call_of 7 la; exact Calls.in_ws (Nat.le_refl _) (hv0 _ (Ws.property _)))))
              refine wpQuiet_nil ?_
              rintro _ ⟨u, rfl⟩
              have hu := u.property
              generalize u.val = wu at hu ⊢
              clear u a0 a1 a2 a3
              go_wp2
              go_meet
              case rel => exact ⟨by rw [hv.out], hu⟩
            have hd2 : decide (pa < 0) = false := decide_eq_false e2
            by_cases e3 : pb < 0
            · have hd3 : decide (pb < 0) = true := decide_eq_true e3
              have hne : Hid (at0 ls q ≠ at1 ls q) := by show _ ≠ _; omega
              generalize at0 ls q = la at *
              generalize at1 ls q = lb at *
              have hv : Hid (lwrong n vs ls q = true) := by show _ = _; rw [hla.out, hd3]; simp
              refine wp_region_ws w4.heap.size (by kernel_rfl) (by kernel_rfl) ?_
              repeat (go_big_quiet_step (first | (go_at_call_of 7 la; exact Calls.in_ws (Nat.le_refl _) (hv0 _ (Ws.property _))) | (go_at_call_of 7 lb; exact Calls.in_ws (Nat.le_refl _) (hv1 _ (Ws.property _)))))
              refine wpQuiet_nil ?_
              rintro _ ⟨u, rfl⟩
              have hu := u.property
              generalize u.val = wu at hu ⊢
              clear u a0 a1 a2 a3
              go_wp2
              go_meet
              case rel => exact ⟨by rw [hv.out], hu⟩
            have hd3 : decide (pb < 0) = false := decide_eq_false e3
            by_cases hq0 : q = 0
            · have hdk : decide (0 < q) = false := by simp; omega
              have hr0 : Hid (riseLAt ls q = true) := by show _ = _; rw [hq0]; rfl
              clear hq0
              generalize at0 ls q = la at *
              generalize at1 ls q = lb at *
              have hv : Hid (lwrong n vs ls q = false) := by show _ = _; rw [hla.out, decide_eq_false e1, hd2, hd3, hr0.out]; rfl
              refine wp_region_ws w4.heap.size (by kernel_rfl) (by kernel_rfl) ?_
              repeat (go_big_quiet_step (first | (go_at_call_of 7 la; exact Calls.in_ws (Nat.le_refl _) (hv0 _ (Ws.property _))) | (go_at_call_of 7 lb; exact Calls.in_ws (Nat.le_refl _) (hv1 _ (Ws.property _)))))
              refine wpQuiet_nil ?_
              rintro _ ⟨u, rfl⟩
              have hu := u.property
              generalize u.val = wu at hu ⊢
              clear u a0 a1 a2 a3
              go_wp2
              go_meet
              case rel => exact ⟨by rw [hv.out], hu⟩
            · obtain ⟨i, rfl⟩ : ∃ i, q = i + 1 := ⟨q - 1, by omega⟩
              obtain ⟨b4, o4, hx4, d0, d1⟩ := hl4.cells i (by omega)
              simp only [Option.some.injEq, Addr.mk.injEq, and_true] at hx4
              obtain ⟨rfl, rfl⟩ := hx4
              have a4 := Ws.here d0
              have a5 := Ws.here d1
              clear d0 d1
              have hra : Hid (riseLAt ls (i + 1) = decide (at0 ls i < at0 ls (i + 1) ∨ (at0 ls i = at0 ls (i + 1) ∧ at1 ls i < at1 ls (i + 1)))) := by show _ = _; unfold riseLAt; simp
              generalize at0 ls (i + 1) = la at *
              generalize at1 ls (i + 1) = lb at *
              generalize at0 ls i = ma at *
              generalize at1 ls i = mb at *
              by_cases e4 : ma > la
              · have hd4 : decide (ma > la) = true := decide_eq_true e4
                have hv : Hid (lwrong n vs ls (i + 1) = true) := by show _ = _; rw [hla.out, hra.out, decide_eq_false (by omega : ¬ (ma < la ∨ (ma = la ∧ mb < lb)))]; simp
                refine wp_region_ws w4.heap.size (by kernel_rfl) (by kernel_rfl) ?_
                repeat (go_big_quiet_step (first | (go_at_call_of 7 la; exact Calls.in_ws (Nat.le_refl _) (hv0 _ (Ws.property _))) | (go_at_call_of 7 lb; exact Calls.in_ws (Nat.le_refl _) (hv1 _ (Ws.property _)))))
                refine wpQuiet_nil ?_
                rintro _ ⟨u, rfl⟩
                have hu := u.property
                generalize u.val = wu at hu ⊢
                clear u a0 a1 a2 a3 a4 a5
                go_wp2
                go_meet
                case rel => exact ⟨by rw [hv.out], hu⟩
              have hd4 : decide (ma > la) = false := decide_eq_false e4
              by_cases e5 : ma = la
              · have hd5 : decide (ma = la) = true := decide_eq_true e5
                have hd5' : (ma == la) = true := by simpa using e5
                have e5' : Hid (ma = la) := e5
                clear e5
                by_cases e6 : mb < lb
                · have hd6 : decide (mb ≥ lb) = false := by simp; omega
                  have hv : Hid (lwrong n vs ls (i + 1) = false) := by show _ = _; rw [hla.out, hra.out, decide_eq_false e1, hd2, hd3, decide_eq_true (.inr ⟨e5'.out, e6⟩ : ma < la ∨ (ma = la ∧ mb < lb))]; rfl
                  refine wp_region_ws w4.heap.size (by kernel_rfl) (by kernel_rfl) ?_
                  repeat (go_big_quiet_step (first | (go_at_call_of 7 la; exact Calls.in_ws (Nat.le_refl _) (hv0 _ (Ws.property _))) | (go_at_call_of 7 lb; exact Calls.in_ws (Nat.le_refl _) (hv1 _ (Ws.property _)))))
                  refine wpQuiet_nil ?_
                  rintro _ ⟨u, rfl⟩
                  have hu := u.property
                  generalize u.val = wu at hu ⊢
                  clear u a0 a1 a2 a3 a4 a5
                  go_wp2
                  go_meet
                  case rel => exact ⟨by rw [hv.out], hu⟩
                · have hd6 : decide (mb ≥ lb) = true := by simp; omega
                  have hv : Hid (lwrong n vs ls (i + 1) = true) := by show _ = _; rw [hla.out, hra.out, decide_eq_false (by have := e5'.out; omega : ¬ (ma < la ∨ (ma = la ∧ mb < lb)))]; simp
                  refine wp_region_ws w4.heap.size (by kernel_rfl) (by kernel_rfl) ?_
                  repeat (go_big_quiet_step (first | (go_at_call_of 7 la; exact Calls.in_ws (Nat.le_refl _) (hv0 _ (Ws.property _))) | (go_at_call_of 7 lb; exact Calls.in_ws (Nat.le_refl _) (hv1 _ (Ws.property _)))))
                  refine wpQuiet_nil ?_
                  rintro _ ⟨u, rfl⟩
                  have hu := u.property
                  generalize u.val = wu at hu ⊢
                  clear u a0 a1 a2 a3 a4 a5
                  go_wp2
                  go_meet
                  case rel => exact ⟨by rw [hv.out], hu⟩
              · have hd5 : decide (ma = la) = false := decide_eq_false e5
                have hd5' : (ma == la) = false := by simpa using e5
                have hv : Hid (lwrong n vs ls (i + 1) = false) := by show _ = _; rw [hla.out, hra.out, decide_eq_false e1, hd2, hd3, decide_eq_true (.inl (by omega) : ma < la ∨ (ma = la ∧ mb < lb))]; rfl
                refine wp_region_ws w4.heap.size (by kernel_rfl) (by kernel_rfl) ?_
                repeat (go_big_quiet_step (first | (go_at_call_of 7 la; exact Calls.in_ws (Nat.le_refl _) (hv0 _ (Ws.property _))) | (go_at_call_of 7 lb; exact Calls.in_ws (Nat.le_refl _) (hv1 _ (Ws.property _)))))
                refine wpQuiet_nil ?_
                rintro _ ⟨u, rfl⟩
                have hu := u.property
                generalize u.val = wu at hu ⊢
                clear u a0 a1 a2 a3 a4 a5
                go_wp2
                go_meet
                case rel => exact ⟨by rw [hv.out], hu⟩
          case rest =>
            obtain ⟨rfl, hBc⟩ := hcut
            clear a0 a1 a2 a3 hva
            have hfin := hC4.trans (hBc.mono hC4.size)
            clear hC hC4 hBc hp4 hl4
            cases hh : lwrong n vs ls q
            · go_wp2
              go_roundw
              case rel => exact ⟨q + 1, hlt'.out, by go_num, hfin, fun j hj => by
                by_cases hj2 : j < q
                · exact hno.out j hj2
                · obtain rfl : j = q := by omega
                  exact hh⟩
              case measure => simp [intOf]; have := hlt'.out; omega
            · have hv : Hid (chkN n vs ln ls = 1) := chkN_form hfew.out (by rw [links_no hll.out hlt hh]; simp)
              go_wp2
              go_ret
              exact ⟨ret_int hv.out.symm, by first | exact h03.trans (hfin.mono hsz3.out) | (rw [hbk]; exact h03.trans (hfin.mono hsz3.out))⟩
        · obtain rfl : ln = q := by omega
          have hlr : Hid (linksB n vs ln ls = true) := links_yes hll.out hno.out
          obtain ⟨w5, hw5⟩ : ∃ w5, w5 = wr := ⟨_, rfl⟩
          subst hw5
          have h05 : Below bk w w5 := h03.trans (hC.mono hsz3.out)
          have hsz5 : Hid (bk ≤ w5.heap.size) := Nat.le_trans hsz3.out hC.size
          have hp5 := hp3.later hC
          have hl5 := hl3.later hC
          have hrise : Hid (riseVB vs = true) := by
            have := hvr.out
            unfold vpcsB at this
            exact (Bool.and_eq_true_iff.1 this).1
          clear hno hlt hq hC hp3 hl3 s0 s1 h03 hsz3
          go_wp2
          go_loopw [6] (fun i wr => ∃ k : Nat, k ≤ n ∧ i = .int .i64 k ∧ Below w5.heap.size w5 wr ∧ Hid (∀ j, j < n → j < k → ∀ m, m < (grpL ls vs (vnAt vs j).id).length → grpBad ls n vs j m = false)) (fun i _ => n - (intOf i).toNat)
          case atStart => exact ⟨0, by omega, rfl, Below.refl _ _, fun j _ hj => by omega⟩
          case round =>
            obtain ⟨k, hk, rfl, hD, hno⟩ := hrel
            have t0 := cell_later hD r0
            have t1 := cell_later hD r1
            by_cases hlt : k < n
            · have hlt' : Hid (k < n) := hlt
              have hpr := hp5.later hD
              have hlq := hl5.later hD
              obtain ⟨b, o, rfl, c0, c1, c2⟩ := hpr.cells k hlt
              have a0 := Ws.here t0
              have a1 := Ws.here t1
              have a2 := Ws.here c0
              go_upto_region 17 with fail
              clear c0 c1 c2
              refine wp_region_tail wr.heap.size 7 (by kernel_rfl) (by kernel_rfl) ?_
              simp only [List.take_succ_cons, List.take_zero, List.drop_succ_cons, List.drop_zero]
              repeat (go_big_quiet_step (fail))
              refine wpQuiet_nil ?_
              intro uu
              have hu := uu.property
              generalize uu.val = w6 at hu ⊢
              clear uu a0 a1 a2
              have hGo := groupOf_any _ n c vs lx ln lc ls (vnAt vs k).id k w6 (hpr.later hu) (by have := hn6.out; omega) (hlq.later hu) (by have := hl12.out; omega) hrise.out hlr.out hlt rfl
              go_wp2_with fail
              refine hGo.mono ?_
              rintro e w7 ⟨gv, rfl, hI, hb7⟩
              clear hGo
              have hw7 : Below wr.heap.size wr w7 := hu.trans (hb7.mono hu.size)
              have hD7 : Below w5.heap.size w5 w7 := hD.trans (hw7.mono hD.size)
              have hp7 := hpr.later hw7
              have hl7 := hlq.later hw7
              have u0 := cell_later hw7 t0
              have u1 := cell_later hw7 t1
              obtain ⟨gx, gc, rfl, -, -, -, hG⟩ := hI.mem
              have hgn : Hid ((grpL ls vs (vnAt vs k).id).length ≤ 6) := by
                show _ ≤ _
                have h1 : (grpL ls vs (vnAt vs k).id).length ≤ (idsOf vs).length := List.length_filter_le _ _
                have h2 : (idsOf vs).length = vs.length := by simp [idsOf]
                have h3 := hn6.out
                have h4 := hvl.out
                omega
              clear hw7 hI hu hb7 t0 t1 hpr hlq hD
              obtain ⟨gn, hgl⟩ : ∃ gn, Hid (gn = (grpL ls vs (vnAt vs k).id).length) := ⟨_, rfl⟩
              rw [← hgl.out] at hG hgn ⊢
              have hgn6 : gn ≤ 1048576 := by have := hgn.out; omega
              go_wp2
              go_loopw [8] (fun i wr => ∃ q : Nat, q ≤ gn ∧ i = .int .i64 q ∧ Below w7.heap.size w7 wr ∧ Hid (∀ m, m < q → grpBad ls n vs k m = false)) (fun i _ => gn - (intOf i).toNat)
              case atStart => exact ⟨0, by omega, rfl, Below.refl _ _, fun j hj => by omega⟩
              case round =>
                obtain ⟨q, hq, rfl, hE, hnq⟩ := hrel
                have v0 := cell_later hE u0
                have v1 := cell_later hE u1
                by_cases hltq : q < gn
                · have hltq' : Hid (q < gn) := hltq
                  obtain ⟨gb, go', rfl, d0⟩ := (hG.later hE).cells q hltq
                  obtain ⟨j, hj, e1, e2, -⟩ := grp_at (ls := ls) hvl.out hrise.out (id := (vnAt vs k).id) (k := q) (by rw [← hgl.out]; exact hltq)
                  have hpe := hp7.later hE
                  have hle := hl7.later hE
                  obtain ⟨b5, o5, hx5, f0, f1, f2⟩ := hpe.cells j hj
                  simp only [Option.some.injEq, Addr.mk.injEq, and_true] at hx5
                  obtain ⟨rfl, rfl⟩ := hx5
                  obtain ⟨b6, o6, hx6, c0, c1, c2⟩ := hpe.cells k hlt
                  simp only [Option.some.injEq, Addr.mk.injEq, and_true] at hx6
                  obtain ⟨rfl, rfl⟩ := hx6
                  have hfw := vpcs_few hvr.out
                  have hva : ∀ W, Below wr.heap.size wr W → Calls Tryz.prog 7 #[.agg #[.slice (some ⟨b, o, none⟩) n c, .slice lx ln lc], .int .i64 (inAt (grpL ls vs (vnAt vs k).id) q)] W fun e w' => e = .returned (.int .i64 j) ∧ Below W.heap.size W w' := fun W hW => vpcAt_is _ n c vs lx ln lc _ _ e2 W (hpe.later hW) (by have := hn6.out; omega)
                  have hcl : ∀ W, Below wr.heap.size wr W → Calls Tryz.prog 20 #[.agg #[.int .i64 (vnAt vs k).id, .slice (vnAt vs k).rx (vnAt vs k).rn (vnAt vs k).rc, .slice (vnAt vs k).sx (vnAt vs k).sn (vnAt vs k).sc], .agg #[.int .i64 (vnAt vs j).id, .slice (vnAt vs j).rx (vnAt vs j).rn (vnAt vs j).rc, .slice (vnAt vs j).sx (vnAt vs j).sn (vnAt vs j).sc]] W fun e w' => e = .returned (.bool (vmB (vnAt vs k) (vnAt vs j))) ∧ Below W.heap.size W w' := fun W hW => clash_any _ _ W ((hpe.vps k hlt).2.2.2.ranges.later hW) ((hpe.vps j hj).2.2.2.ranges.later hW) (by have := (hfw k hlt).2; omega) (by have := (hfw j hj).2; omega)
                  have hbd : Hid (grpBad ls n vs k q = ((!(inAt (grpL ls vs (vnAt vs k).id) q == (vnAt vs k).id)) && vmB (vnAt vs k) (vnAt vs j))) := by
                    show _ = _
                    unfold grpBad
                    rw [e2, Int.toNat_natCast]
                  have a0 := Ws.here v0
                  have a1 := Ws.here v1
                  have a2 := Ws.here c0
                  have a3 := Ws.here c1
                  have a4 := Ws.here c2
                  have a5 := Ws.here f0
                  have a6 := Ws.here f1
                  have a7 := Ws.here f2
                  have a8 := Ws.here d0
                  have hj0 : (0 : Int) ≤ j := by omega
                  have hjn : (j : Int) < n := by omega
                  go_upto_region 21 with fail
                  clear v0 v1 c0 c1 c2 f0 f1 f2 d0 e1 e2 hfw hpe hle
                  go_cut [173] (fun t wc => t = .bool (grpBad ls n vs k q) ∧ Below wr.heap.size wr wc)
                  case first =>
                    generalize inAt (grpL ls vs (vnAt vs k).id) q = y at *
                    by_cases e5 : y = (vnAt vs k).id
                    · have hn1 : (y == (vnAt vs k).id) = true := by simpa using e5
                      have hn2 : (y != (vnAt vs k).id) = false := by simp [e5]
                      have hn3 : decide (y = (vnAt vs k).id) = true := decide_eq_true e5
                      clear e5
                      have hv : Hid (grpBad ls n vs k q = false) := by show _ = _; rw [hbd.out, hn1]; rfl
                      refine wp_region_ws wr.heap.size (by kernel_rfl) (by kernel_rfl) ?_
                      repeat (go_big_quiet_step (first | (go_at_call 7; exact Calls.in_ws (Nat.le_refl _) (hva _ (Ws.property _))) | (go_at_call 20; exact Calls.in_ws (Nat.le_refl _) (hcl _ (Ws.property _)))))
                      refine wpQuiet_nil ?_
                      rintro _ ⟨u, rfl⟩
                      have hu := u.property
                      generalize u.val = wu at hu ⊢
                      clear u a0 a1 a2 a3 a4 a5 a6 a7 a8
                      go_wp2
                      go_meet
                      case rel => exact ⟨by rw [hv.out], hu⟩
                    · have hn1 : (y == (vnAt vs k).id) = false := by simpa using e5
                      have hn2 : (y != (vnAt vs k).id) = true := by simp [e5]
                      have hn3 : decide (y = (vnAt vs k).id) = false := decide_eq_false e5
                      have hv : Hid (grpBad ls n vs k q = vmB (vnAt vs k) (vnAt vs j)) := by show _ = _; rw [hbd.out, hn1]; rfl
                      refine wp_region_ws wr.heap.size (by kernel_rfl) (by kernel_rfl) ?_
                      repeat (go_big_quiet_step (first | (go_at_call 7; exact Calls.in_ws (Nat.le_refl _) (hva _ (Ws.property _))) | (go_at_call 20; exact Calls.in_ws (Nat.le_refl _) (hcl _ (Ws.property _)))))
                      refine wpQuiet_nil ?_
                      rintro _ ⟨u, rfl⟩
                      have hu := u.property
                      generalize u.val = wu at hu ⊢
                      clear u a0 a1 a2 a3 a4 a5 a6 a7 a8
                      go_wp2
                      go_meet
                      case rel => exact ⟨by rw [hv.out], hu⟩
                  case rest =>
                    obtain ⟨rfl, hBc⟩ := hcut
                    clear a0 a1 a2 a3 a4 a5 a6 a7 a8 hva hcl hbd
                    have hfin := hE.trans (hBc.mono hE.size)
                    clear hE hBc
                    cases hh : grpBad ls n vs k q
                    · go_wp2
                      go_roundw
                      case rel => exact ⟨q + 1, hltq'.out, by go_num, hfin, fun m hm => by
                        by_cases hm2 : m < q
                        · exact hnq.out m hm2
                        · obtain rfl : m = q := by omega
                          exact hh⟩
                      case measure => simp [intOf]; have := hltq'.out; omega
                    · have hv : Hid (chkN n vs ln ls = 1) := chkN_form hfew.out (by rw [ap_no hvl.out hrise.out hlt (by rw [← hgl.out]; exact hltq) hh]; simp)
                      have hfin2 : Below bk w _ := h05.trans ((hD7.trans (hfin.mono hD7.size)).mono hsz5.out)
                      go_wp2
                      go_ret
                      exact ⟨ret_int hv.out.symm, by first | exact hfin2 | (rw [hbk]; exact hfin2)⟩
                · obtain rfl : gn = q := by omega
                  have hfin := hD7.trans (hE.mono hD7.size)
                  go_wp2
                  go_roundw
                  case rel => exact ⟨k + 1, hlt'.out, by go_num, hfin, fun j hjn hj m hm => by
                    by_cases hj2 : j < k
                    · exact hno.out j hjn hj2 m hm
                    · obtain rfl : j = k := by omega
                      exact hnq.out m (by rw [hgl.out]; exact hm)⟩
                  case measure => simp [intOf]; have := hlt'.out; omega
            · obtain rfl : n = k := by omega
              have hv : Hid (chkN n vs ln ls = 0) := chkN_ok hfew.out hvr.out hlr.out (ap_yes hvl.out hrise.out fun i hi m hm => hno.out i hi hi m hm)
              have hfin2 : Below bk w _ := h05.trans (hD.mono hsz5.out)
              go_wp2
              go_ret
              exact ⟨ret_int hv.out.symm, by first | exact hfin2 | (rw [hbk]; exact hfin2)⟩
end Go.Proofs.YtgealgjeboainaaGreat
/- The law RouteTables. -/
namespace Go.Proofs.YtgealgjeboainaaGreat
open Go.RowKit Go.Shelf

set_option maxRecDepth 100000 in
set_option maxHeartbeats 6400000 in
theorem routeTables_any (x : Option Addr) (n c : Nat) (vs : List Vn) (lx : Option Addr) (ln lc : Nat) (ls : List (Int × Int)) (id : Int) (w : World) (hp : VS w x n vs) (hn : n ≤ 9223372036854775807) (hnc : n ≤ c) (hl : PS w lx ln ls) (hln : ln ≤ 9223372036854775807) :
    Calls Tryz.prog 3 #[.agg #[.slice x n c, .slice lx ln lc], .int .i64 id] w fun e w' => e = .returned (.bool true) ∧ Below w.heap.size w w' := by
  go_enter Tryz.func3, Tryz.ntmps3
  go_upto_region 1 with fail
  obtain ⟨w2, hw2⟩ : ∃ w2, w2 = w.alloc (netO x n c lx ln lc) := ⟨_, rfl⟩
  rw [← hw2]
  have h02 : Below w.heap.size w w2 := by rw [hw2]; exact bl1 w _
  have hbox : w2.heap[w.heap.size]? = some (netO x n c lx ln lc) := by rw [hw2]; exact heap_new _ rfl
  clear hw2
  have q0 : w2.cell? ⟨w.heap.size, 0, none⟩ = some (.slice x n c) := (box_cells hbox).1 0
  have q1 : w2.cell? ⟨w.heap.size, 1, none⟩ = some (.slice lx ln lc) := (box_cells hbox).1 1
  clear hbox
  have hp2 := hp.later h02
  have hl2 := hl.later h02
  have hsz : Hid (w.heap.size ≤ w2.heap.size) := h02.size
  have hT := table_full x n c vs lx ln lc ls id w2 hp2 hn hnc hl2 hln
  generalize hbk : w.heap.size = bk at *
  go_wp2_with fail
  refine hT.mono ?_
  rintro e w3 ⟨tv, L, rfl, hO, hs1, hs2, hb3⟩
  clear hT
  have h03 : Below bk w w3 := h02.trans (hb3.mono hsz.out)
  have hsz3 : Hid (bk ≤ w3.heap.size) := Nat.le_trans hsz.out hb3.size
  have hp3 := hp2.later hb3
  have hl3 := hl2.later hb3
  have r0 := cell_later hb3 q0
  have r1 := cell_later hb3 q1
  clear hb3 q0 q1 hp2 hl2 h02
  have hck := checkNet_any x n c vs lx ln lc ls w3 hp3 hn hl3 hln
  by_cases hz : chkN n vs ln ls = 0
  · have hn6 : n ≤ 6 := (chkN_zero hz).1
    obtain ⟨t, ht⟩ : ∃ t, vplace n vs id = t := ⟨_, rfl⟩
    rw [hz] at hck
    have hz' : Hid (chkN n vs ln ls = 0) := hz
    go_wp2_with fail
    refine hck.mono ?_
    rintro e w4 ⟨rfl, hb4⟩
    clear hck hz
    have h04 : Below bk w w4 := h03.trans (hb4.mono hsz3.out)
    have hsz4 : Hid (bk ≤ w4.heap.size) := Nat.le_trans hsz3.out hb4.size
    have hp4 := hp3.later hb4
    have hl4 := hl3.later hb4
    have hO4 := hO.later hb4
    have s0 := cell_later hb4 r0
    have s1 := cell_later hb4 r1
    clear hb4 r0 r1 hp3 hl3 h03 hO
    have hva := vpcAt_is x n c vs lx ln lc id t ht w4 hp4 (by omega)
    by_cases ht0 : t < 0
    · have hg : Hid (grpE n vs ln ls id = 5) := by show _ = _; unfold grpE; rw [if_pos hz'.out, ht, if_pos ht0]
      have hgne : grpE n vs ln ls id ≠ 0 := by rw [hg.out]; decide
      have hO := hO4
      obtain rfl : L = [] := hs2 hgne
      obtain ⟨x1, c1, rfl, -, -, -, hc1⟩ := hO.mem
      simp only [List.length_nil]
      clear hc1
      rw [hg.out]
      clear hO hO4 hs1 hs2 ht hgne
      go_wp2_with fail
      refine hva.mono ?_
      rintro e w5 ⟨rfl, hb5⟩
      have hW : Below bk w w5 := h04.trans (hb5.mono hsz4.out)
      have hszW : Hid (bk ≤ w5.heap.size) := Nat.le_trans hsz4.out hb5.size
      clear s0 s1 hva hb5
      go_wp2
      go_loopw [9] (fun i wr => i = .int .i64 0 ∧ wr = w5) (fun _ _ => 0)
      case atStart => exact ⟨rfl, rfl⟩
      case round =>
        obtain ⟨rfl, rfl⟩ := hrel
        go_wp2_with (go_at_call 9; refine (routeBegun_any _).mono ?_; rintro e w9 ⟨rfl, hb9⟩)
        go_ret
        exact ⟨rfl, by first | exact hW.trans (hb9.mono hszW.out) | (rw [hbk]; exact hW.trans (hb9.mono hszW.out))⟩
    · have hg : Hid (grpE n vs ln ls id = 0) := by show _ = _; unfold grpE; rw [if_pos hz'.out, ht, if_neg ht0]
      rw [hg.out]
      have hR : RNet n vs ln ls := RNet.of hp hl hg.out
      have hSo := hs1 hg.out
      have hta := fun W h1 h2 => tableOf_any x n c vs lx ln lc ls id W h1 h2 hz'.out
      clear hs1 hs2 ht
      go_wp2_with fail
      refine hva.mono ?_
      rintro e w5 ⟨rfl, hb5⟩
      have h05 : Below bk w w5 := h04.trans (hb5.mono hsz4.out)
      have hsz5 : Hid (bk ≤ w5.heap.size) := Nat.le_trans hsz4.out hb5.size
      have hp5 := hp4.later hb5
      have hl5 := hl4.later hb5
      have hO5 := hO4.later hb5
      have t0 := cell_later hb5 s0
      have t1 := cell_later hb5 s1
      clear s0 s1 hva hb5 hO4 hp4 hl4 h04
      have hta5 := hta w5 hp5 hl5
      clear hta
      go_wp2_with fail
      refine hta5.mono ?_
      rintro e w6 ⟨v, M, rfl, hO6, hS6, hb6⟩
      obtain rfl : L = M := sort_one hSo hS6 (hR.starts id)
      have hW : Below bk w w6 := h05.trans (hb6.mono hsz5.out)
      have hszW : Hid (bk ≤ w6.heap.size) := Nat.le_trans hsz5.out hb6.size
      obtain ⟨x1, c1, rfl, -, -, -, hc1⟩ := (hO5.later hb6).mem
      obtain ⟨x2, c2, rfl, -, -, -, hc2⟩ := hO6.mem
      have hL1 : RS w6 x1 L.length L := ⟨rfl, hc1⟩
      have hL2 : RS w6 x2 L.length L := ⟨rfl, hc2⟩
      have hlN : L.length ≤ 1000000 := by rw [hSo.length]; exact hR.raw id
      clear hc1 hc2 hO5 hO6 hta5 t0 t1 hb6 hSo hS6
      obtain ⟨N, hN⟩ : ∃ N, N = L.length := ⟨_, rfl⟩
      rw [← hN] at hL1 hL2 hlN ⊢
      clear hN
      go_wp2
      go_loopw [9] (fun i wr => ∃ k : Nat, k ≤ N ∧ i = .int .i64 k ∧ Below w6.heap.size w6 wr) (fun i _ => N - (intOf i).toNat)
      case atStart => exact ⟨0, by omega, rfl, Below.refl _ _⟩
      case round =>
        obtain ⟨k, hk, rfl, hB⟩ := hrel
        by_cases hlt : k < N
        · have hlt' : Hid (k < N) := hlt
          obtain ⟨b1, o1, rfl, d0, d1, d2⟩ := (hL1.later hB).cells k hlt
          obtain ⟨b2, o2, rfl, f0, f1, f2⟩ := (hL2.later hB).cells k hlt
          have a0 := Ws.here d0
          have a1 := Ws.here d1
          have a2 := Ws.here d2
          have a3 := Ws.here f0
          have a4 := Ws.here f1
          have a5 := Ws.here f2
          go_upto_region 13 with fail
          clear d0 d1 d2 f0 f1 f2
          refine wp_region_ws wr.heap.size (by kernel_rfl) (by kernel_rfl) ?_
          repeat (go_big_quiet_step (fail))
          refine wpQuiet_nil ?_
          rintro _ ⟨u, rfl⟩
          have hbu := u.property
          generalize u.val = wu at hbu ⊢
          clear u a0 a1 a2 a3 a4 a5
          go_wp2
          go_roundw
          case rel => exact ⟨k + 1, hlt'.out, by go_num, hB.trans (hbu.mono hB.size)⟩
          case measure => simp [intOf]; have := hlt'.out; omega
        · obtain rfl : N = k := by omega
          have hBr : Below bk w wr := hW.trans (hB.mono hszW.out)
          have hszr : Hid (bk ≤ wr.heap.size) := Nat.le_trans hszW.out hB.size
          go_wp2_with (go_at_call 9; refine (routeBegun_any _).mono ?_; rintro e w9 ⟨rfl, hb9⟩)
          go_ret
          exact ⟨rfl, by first | exact hBr.trans (hb9.mono hszr.out) | (rw [hbk]; exact hBr.trans (hb9.mono hszr.out))⟩
  · obtain ⟨t, ht⟩ : ∃ t, chkN n vs ln ls = t := ⟨_, rfl⟩
    rw [ht] at hck hz
    have hg : Hid (grpE n vs ln ls id = t) := by show _ = _; unfold grpE; rw [ht, if_neg hz]
    have hgne : grpE n vs ln ls id ≠ 0 := by rw [hg.out]; exact hz
    obtain rfl : L = [] := hs2 hgne
    obtain ⟨x1, c1, rfl, -, -, -, hc1⟩ := hO.mem
    simp only [List.length_nil]
    clear hc1
    rw [hg.out]
    have h1 : (t == 0) = false := by simpa using hz
    clear hO hs1 hs2 ht hgne hz
    go_wp2_with fail
    refine hck.mono ?_
    rintro e w4 ⟨rfl, hb4⟩
    have hW : Below bk w w4 := h03.trans (hb4.mono hsz3.out)
    have hszW : Hid (bk ≤ w4.heap.size) := Nat.le_trans hsz3.out hb4.size
    clear r0 r1 hck hb4
    go_wp2
    go_loopw [9] (fun i wr => i = .int .i64 0 ∧ wr = w4) (fun _ _ => 0)
    case atStart => exact ⟨rfl, rfl⟩
    case round =>
      obtain ⟨rfl, rfl⟩ := hrel
      go_wp2_with (go_at_call 9; refine (routeBegun_any _).mono ?_; rintro e w9 ⟨rfl, hb9⟩)
      go_ret
      exact ⟨rfl, by first | exact hW.trans (hb9.mono hszW.out) | (rw [hbk]; exact hW.trans (hb9.mono hszW.out))⟩
end Go.Proofs.YtgealgjeboainaaGreat
