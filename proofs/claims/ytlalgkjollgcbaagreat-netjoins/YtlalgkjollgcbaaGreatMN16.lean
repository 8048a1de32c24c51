/- GroupOf of the reference. -/
import Derived.Test.YtlalgkjollgcbaaGreatMN15
import Derived.Deep.OwnRows
import Derived.Test.YtlalgkjollgcbaaGreatMN14
import Derived.Test.YtlalgkjollgcbaaGreatMN12
import Derived.Lib.SliceRun
import Derived.Deep.DeepCutAuto
import Derived.Deep.RegionHeld3
import Derived.Test.YtlalgkjollgcbaaGreatMN04
import Derived.Laws.StructEq
import Derived.Lib.AppendZerosOnto
import Derived.Lib.AppendZeros
namespace Go.Proofs.YtlalgkjollgcbaaGreat
open Go.RowKit Go.Shelf Go.Maps

theorem under_B : Tryz.prog.underlying 65 = some (.slice 4) := by kernel_rfl
theorem info_B : (Tryz.prog.info? 4).map (fun i => (i.zero, i.size, i.bytes)) = some (some (.bool false), 1, 1) := by kernel_rfl
/-- The net's box and the marks, as they stand. -/
structure GoW (w W : World) (x : Option Addr) (n c : Nat) (lx : Option Addr) (ln lc : Nat) (bs : List Bool) : Prop where
  below : Below w.heap.size w W
  box : W.heap[w.heap.size]? = some (netO x n c lx ln lc)
  row : W.rowIs (w.heap.size + 1) 4 n (fun k => .bool (bAt bs k))
theorem GoW.later {w W W' : World} {x : Option Addr} {n c : Nat} {lx : Option Addr} {ln lc : Nat} {bs : List Bool} (h : GoW w W x n c lx ln lc bs) (hb : Below W.heap.size W W') : GoW w W' x n c lx ln lc bs := by
  refine ⟨h.below.trans (hb.mono h.below.size), heap_later hb h.box, ?_⟩
  obtain ⟨cs, h0, h1, h2⟩ := h.row
  exact ⟨cs, heap_later hb h0, h1, h2⟩
theorem GoW.set {w W : World} {x : Option Addr} {n c : Nat} {lx : Option Addr} {ln lc : Nat} {bs : List Bool} (h : GoW w W x n c lx ln lc bs) {k : Nat} (hk : k < bs.length) (b : Bool) : GoW w (W.setCell ⟨w.heap.size + 1, k, none⟩ (.bool b)) x n c lx ln lc (bs.set k b) := by
  refine ⟨h.below.setCell (p := ⟨w.heap.size + 1, k, none⟩) (by show w.heap.size ≤ w.heap.size + 1; omega) _, (Go.Deep.blk_setCell_other _ _ _ _ (by show w.heap.size ≠ w.heap.size + 1; omega)).trans h.box, ?_⟩
  refine (h.row.set k (.bool b)).congr fun j _ => ?_
  rw [bAt_set hk]
  split <;> rfl
theorem GoW.cells {w W : World} {x : Option Addr} {n c : Nat} {lx : Option Addr} {ln lc : Nat} {bs : List Bool} (h : GoW w W x n c lx ln lc bs) : W.cell? ⟨w.heap.size, 0, none⟩ = some (.slice x n c) ∧ W.cell? ⟨w.heap.size, 1, none⟩ = some (.slice lx ln lc) := ⟨(box_cells h.box).1 0, (box_cells h.box).1 1⟩

theorem GoW.grown {w W W' : World} {x : Option Addr} {n c : Nat} {lx : Option Addr} {ln lc : Nat} {bs : List Bool} {v : Value} {es : List Int} (h : GoW w W x n c lx ln lc bs) (hI : OwnI W w.heap.size v es) (hg : W.grownBy W' v.ownBlock) : GoW w W' x n c lx ln lc bs := by
  have hk : ∀ {b : Nat} {o : Obj}, W.heap[b]? = some o → v.ownBlock ≠ some b → W'.heap[b]? = some o := fun {b o} h0 hne => (hg.block b (Array.getElem?_eq_some_iff.1 h0).1 (fun e => hne e.symm)).trans h0
  refine ⟨below_grownr h.below hg (fun q e => (hI.lt q e).1), hk h.box (hI.ne h.box (by decide)), ?_⟩
  obtain ⟨cs, h0, h1, h2⟩ := h.row
  exact ⟨cs, hk h0 (hI.ne h0 (by decide)), h1, h2⟩

set_option maxRecDepth 100000 in
set_option maxHeartbeats 6400000 in
theorem groupOf_any (x : Option Addr) (n c : Nat) (vs : List Vn) (lx : Option Addr) (ln lc : Nat) (ls : List (Int × Int)) (id : Int) (p : Nat) (w : World) (hp : VS w x n vs) (hn : n ≤ 1048576) (hl : PS w lx ln ls) (hln : ln ≤ 1048576)
    (hr : riseVB vs = true) (hlk : linksB n vs ln ls = true) (hpn : p < n) (hpi : (vnAt vs p).id = id) :
    Calls Tryz.prog 11 #[.agg #[.slice x n c, .slice lx ln lc], .int .i64 id] w fun e w' => ∃ v, e = .returned v ∧ OwnI w' w.heap.size v (grpL ls vs id) ∧ Below w.heap.size w w' := by
  have hvl : Hid (vs.length = n) := hp.len
  have hll : Hid (ls.length = ln) := hl.len
  have hpl : vplace n vs id = p := by rw [← hpi]; exact vplace_at hp.len hr hpn
  have hfin : Hid (∀ bs, Snd ls n (fun k => (vnAt vs k).id) id bs → Shut ls n (fun k => (vnAt vs k).id) bs → bAt bs p = true → ∀ k, k < n → bAt bs k = (hdOf ls (vnAt vs k).id == hdOf ls id)) := fun bs h1 h2 h3 => shut_is h1 h2 hpn hpi h3 (ids_one hp.len hr) (links_in hp.len hl.len hlk)
  have hpi' : Hid ((vnAt vs p).id = id) := hpi
  have hmk := run_make_row' (P := Tryz.prog) 65 4 (.bool false) 1 under_B info_B rfl .i64 .i64 n (by omega) (by omega)
  clear hr hlk hpi
  go_enter Tryz.func11, Tryz.ntmps11
  go_upto_region 1 with fail
  obtain ⟨w2, hw2⟩ : ∃ w2, w2 = w.alloc (netO x n c lx ln lc) := ⟨_, rfl⟩
  rw [← hw2]
  have h02 : Below w.heap.size w w2 := by rw [hw2]; exact bl1 w _
  have hz2 : w2.heap.size = w.heap.size + 1 := by rw [hw2]; simp
  have hbox : w2.heap[w.heap.size]? = some (netO x n c lx ln lc) := by rw [hw2]; exact heap_new _ rfl
  clear hw2
  have q0 : w2.cell? ⟨w.heap.size, 0, none⟩ = some (.slice x n c) := (box_cells hbox).1 0
  go_upto_region 2 with fail
  have hrow := World.rowIs_made w2 (.bool false) n 4
  have h23 : Below w2.heap.size w2 (w2.alloc (.cells (madeCells #[.bool false] n) 4)) := bl1 w2 _
  obtain ⟨w3, hw3⟩ : ∃ w3, w3 = w2.alloc (.cells (madeCells #[.bool false] n) 4) := ⟨_, rfl⟩
  rw [← hw3] at hrow h23 ⊢
  rw [hz2] at hrow
  have hG3 : GoW w w3 x n c lx ln lc (List.replicate n false) := by
    refine ⟨h02.trans (h23.mono h02.size), heap_later h23 hbox, hrow.congr fun j _ => ?_⟩
    unfold bAt
    rw [List.getD_eq_getElem?_getD, List.getElem?_replicate]
    split <;> rfl
  clear hw3 hrow h23 hbox q0 h02 hz2 hmk
  have q0 := hG3.cells.1
  have q1 := hG3.cells.2
  go_wp2_with fail
  refine (vpcAt_is x n c vs lx ln lc id p hpl w3 (hp.later hG3.below) hn).mono ?_
  rintro e w4 ⟨rfl, hb4⟩
  have hG4 := hG3.later hb4
  clear q0 q1 hG3 hb4 hpl
  have m0 := hG4.row.cell (i := p) hpn
  have m1 := hG4.row.frozen p
  have hp0 : (0 : Int) ≤ p := by omega
  have hp1 : (p : Int) < n := by omega
  have hG5 := hG4.set (k := p) (by rw [List.length_replicate]; exact hpn) true
  go_upto_region 3 with fail
  have hG5' : GoW w (w4.setCell ⟨w.heap.size + 1, p, none⟩ (.bool true)) x n c lx ln lc (oneMark n p) := hG5
  clear hG5 m0 m1 hG4
  generalize w4.setCell ⟨w.heap.size + 1, p, none⟩ (.bool true) = w5 at hG5' ⊢
  go_wp2
  go_loopw [6] (fun i wr => ∃ (t : Nat) (bs : List Bool), t ≤ n ∧ i = .int .i64 t ∧ GoW w wr x n c lx ln lc bs ∧ Hid (Snd ls n (fun k => (vnAt vs k).id) id bs) ∧ Hid (Far ls n (fun k => (vnAt vs k).id) t bs) ∧ Hid (bAt bs p = true)) (fun i _ => n - (intOf i).toNat)
  case atStart => exact ⟨0, _, by omega, rfl, hG5', oneMark_snd hpn hpi'.out, oneMark_far hpn, by show _ = _; rw [oneMark_at hpn]; simp⟩
  case round =>
    obtain ⟨t, bs0, ht, rfl, hG, hS, hF, hP⟩ := hrel
    by_cases hlt : t < n
    · have hlt' : Hid (t < n) := hlt
      go_wp2
      go_loopw [7] (fun i wr => ∃ (m : Nat) (bs : List Bool), m ≤ n ∧ i = .int .i64 m ∧ GoW w wr x n c lx ln lc bs ∧ Hid (Snd ls n (fun k => (vnAt vs k).id) id bs) ∧ Hid (Turn ls n (fun k => (vnAt vs k).id) bs0 bs m 0)) (fun i _ => n - (intOf i).toNat)
      case atStart => exact ⟨0, bs0, by omega, rfl, hG, hS, Turn.zero bs0⟩
      case round =>
        clear hG
        obtain ⟨m, bs, hm, rfl, hG, hS1, hT⟩ := hrel
        by_cases hltm : m < n
        · have hltm' : Hid (m < n) := hltm
          go_wp2
          go_loopw [8] (fun i wr => ∃ (q : Nat) (bs : List Bool), q ≤ n ∧ i = .int .i64 q ∧ GoW w wr x n c lx ln lc bs ∧ Hid (Snd ls n (fun k => (vnAt vs k).id) id bs) ∧ Hid (Turn ls n (fun k => (vnAt vs k).id) bs0 bs m q)) (fun i _ => n - (intOf i).toNat)
          case atStart => exact ⟨0, bs, by omega, rfl, hG, hS1, hT⟩
          case round =>
            clear hG hS1 hT bs
            obtain ⟨q, bs, hq, rfl, hG, hS1, hT⟩ := hrel
            by_cases hltq : q < n
            · have hltq' : Hid (q < n) := hltq
              have hbl : Hid (bs.length = n) := hS1.out.1
              have hS2 : Hid (Snd ls n (fun k => (vnAt vs k).id) id (bs.set q (bAt bs q || (bAt bs m && lkB ls (vnAt vs m).id (vnAt vs q).id)))) := hS1.out.step hltm hltq
              have hT2 : Hid (Turn ls n (fun k => (vnAt vs k).id) bs0 (bs.set q (bAt bs q || (bAt bs m && lkB ls (vnAt vs m).id (vnAt vs q).id))) m (q + 1)) := hT.out.step hbl.out hltm hltq
              clear hS1 hT
              have hpr := hp.later hG.below
              have hlr := hl.later hG.below
              obtain ⟨b, o, rfl, c0, -, -⟩ := hpr.cells m hltm
              obtain ⟨b', o', he, d0, -, -⟩ := hpr.cells q hltq
              obtain ⟨rfl, rfl⟩ : b = b' ∧ o = o' := by simpa using he
              clear he
              have e0 := hG.row.cell (i := q) hltq
              have e1 := hG.row.cell (i := m) hltm
              have hjl : ∀ W, Below wr.heap.size wr W → Calls Tryz.prog 33 #[.agg #[.slice (some ⟨b, o, none⟩) n c, .slice lx ln lc], .int .i64 (vnAt vs m).id, .int .i64 (vnAt vs q).id] W fun e w' => e = .returned (.bool (lkB ls (vnAt vs m).id (vnAt vs q).id)) ∧ Below W.heap.size W w' := fun W hW => linked_is _ n c lx ln lc ls _ _ _ (jn_lk hll.out _ _) W (hlr.later hW) hln
              have a0 := Ws.here hG.cells.1
              have a1 := Ws.here hG.cells.2
              have a2 := Ws.here c0
              have a3 := Ws.here d0
              have a4 := Ws.here e0
              have a5 := Ws.here e1
              clear c0 d0 e0 e1 hpr hlr
              have hq0 : (0 : Int) ≤ q := by omega
              have hq1 : (q : Int) < n := by omega
              have hm0 : (0 : Int) ≤ m := by omega
              have hm1 : (m : Int) < n := by omega
              clear hlt hltm hltq ht hm hq
              go_upto_region 12 with fail
              refine wp_region_tail wr.heap.size 29 (by kernel_rfl) (by kernel_rfl) ?_
              simp only [List.take_succ_cons, List.take_zero, List.drop_succ_cons, List.drop_zero]
              cases hbq : bAt bs q
              all_goals cases hbm : bAt bs m
              all_goals cases hlb : lkB ls (vnAt vs m).id (vnAt vs q).id
              all_goals simp only [hbq, hbm, hlb, Bool.or_false, Bool.or_true, Bool.and_false, Bool.and_true] at a4 a5 hjl hS2 hT2
              all_goals repeat (go_big_quiet_step ((go_at_call 33; exact Calls.in_ws (Nat.le_refl _) (hjl _ (Ws.property _)))))
              all_goals refine wpQuiet_nil ?_
              all_goals intro uu
              all_goals have hG6 := hG.later uu.property
              all_goals generalize uu.val = w6 at hG6 ⊢
              all_goals clear uu a0 a1 a2 a3 a4 a5 hG hjl
              all_goals have z0 := hG6.row.cell (i := q) hltq'.out
              all_goals have z1 := hG6.row.frozen q
              all_goals have hG7 := hG6.set (k := q) (by rw [hbl.out]; exact hltq'.out)
              all_goals go_wp2
              all_goals go_roundw
              all_goals first
                | (case rel => exact ⟨q + 1, _, hltq'.out, by go_num, hG7 _, hS2, hT2⟩)
                | (case measure => simp [intOf]; have := hltq'.out; omega)
                | skip
            · obtain rfl : q = n := by omega
              have hT2 : Hid (Turn ls q (fun k => (vnAt vs k).id) bs0 bs (m + 1) 0) := hT.out.next
              go_wp2
              go_roundw
              case rel => exact ⟨m + 1, bs, hltm'.out, by go_num, hG, hS1, hT2⟩
              case measure => simp [intOf]; have := hltm'.out; omega
        · obtain rfl : m = n := by omega
          have hF2 : Hid (Far ls m (fun k => (vnAt vs k).id) (t + 1) bs) := hT.out.far hS.out.1 hS1.out.1 hF.out
          have hP2 : Hid (bAt bs p = true) := hT.out.up p hP.out
          go_wp2
          go_roundw
          case rel => exact ⟨t + 1, bs, hlt'.out, by go_num, hG, hS1, hF2, hP2⟩
          case measure => simp [intOf]; have := hlt'.out; omega
    · obtain rfl : t = n := by omega
      have hall := hfin.out bs0 hS.out (hF.out.shut hS.out.1) hP.out
      clear hS hF hP hfin
      go_wp2
      go_loopw [9, 10] (fun v i wr => ∃ k : Nat, k ≤ t ∧ i = .int .i64 k ∧ GoW w wr x t c lx ln lc bs0 ∧ OwnI wr w.heap.size v ((idsOf (vs.take k)).filter fun y => hdOf ls y == hdOf ls id)) (fun _ i _ => t - (intOf i).toNat)
      case atStart => exact ⟨0, by omega, rfl, hG, World.ownsRow_nil _ _ _ _⟩
      case round =>
        clear hG
        obtain ⟨k, hk, rfl, hG, hI⟩ := hrel
        by_cases hltk : k < t
        · have hltk' : Hid (k < t) := hltk
          have hst : Hid (idsOf (vs.take (k + 1)) = idsOf (vs.take k) ++ [(vnAt vs k).id]) := ids_take (by rw [hvl.out]; exact hltk)
          have e0 := hG.row.cell (i := k) hltk
          have hak := hall k hltk
          obtain ⟨b, o, rfl, c0, -, -⟩ := (hp.later hG.below).cells k hltk
          have q0 := hG.cells.1
          cases hde : (hdOf ls (vnAt vs k).id == hdOf ls id)
          all_goals rw [hde] at hak
          all_goals simp only [hak] at e0
          · clear hak
            go_wp2
            go_roundw
            case rel => exact ⟨k + 1, hltk'.out, by go_num, hG, by rw [hst.out, List.filter_append]; simpa [hde] using hI⟩
            case measure => simp [intOf]; have := hltk'.out; omega
          · clear hak
            go_upto_region 18 with fail
            go_wp2_with (first | (at_builtin; refine Hid.out ?_))
            unfold Hid
            refine wpList_append_I rfl _ _ rfl w.heap.size _ _ rfl (hI.later (bl1 _ _)) ⟨wr.heap.size, 0, none⟩ 1 1 [(vnAt vs k).id] rfl rfl ?_ ?_ ?_ ?_
            · intro j u hj
              have hn := heap_new (W := wr) (.cells #[.int .i64 (vnAt vs k).id] 3) rfl
              rw [addr_add, Nat.zero_add]
              exact ((box_cells hn).1 j).trans (by rw [List.getElem?_toArray]; exact hj)
            · have h1 := List.length_filter_le (fun y => hdOf ls y == hdOf ls id) (idsOf (vs.take k))
              have h2 : (idsOf (vs.take k)).length ≤ k := by simp [idsOf, List.length_take]; omega
              omega
            · have := hG.below.size
              simp
              omega
            intro v8 w8 hI8 hg8
            have hIa := hI.later (bl1 wr (.cells #[.int .i64 (vnAt vs k).id] 3))
            have hGa := hG.later (bl1 wr (.cells #[.int .i64 (vnAt vs k).id] 3))
            have hG8 := hGa.grown hIa hg8
            have hI8' : Hid (OwnI w8 w.heap.size v8 ((idsOf (vs.take (k + 1))).filter fun y => hdOf ls y == hdOf ls id)) := by
              show OwnI _ _ _ _
              rw [hst.out, List.filter_append]
              simpa [hde] using hI8
            clear hIa hGa hg8 hI8 hI hG e0 c0 q0
            go_wp2
            go_roundw
            case rel => exact ⟨k + 1, hltk'.out, by go_num, hG8, hI8'.out⟩
            case measure => simp [intOf]; have := hltk'.out; omega
        · obtain rfl : k = t := by omega
          have e : vs.take k = vs := by rw [← hvl.out, List.take_length]
          rw [e] at hI
          go_wp2
          go_ret
          exact ⟨_, rfl, hI, hG.below⟩
end Go.Proofs.YtlalgkjollgcbaaGreat
/- CheckVpc of package parcelwayref. -/
namespace Go.Proofs.YtlalgkjollgcbaaGreat
open Go.RowKit Go.Shelf

theorem rightR_is (a l : Int) (t : Bool) (h : rt a l = t) (w : World) : Calls Tryz.prog 62 #[.agg #[.int .i64 a, .int .i64 l]] w fun e w' => e = .returned (.bool t) ∧ Below w.heap.size w w' := by
  subst h
  exact right_any a l w
theorem meetR_is (a l c m : Int) (t : Bool) (h : mts a l c m = t) (w : World) : Calls Tryz.prog 63 #[.agg #[.int .i64 a, .int .i64 l], .agg #[.int .i64 c, .int .i64 m]] w fun e w' => e = .returned (.bool t) ∧ Below w.heap.size w w' := by
  subst h
  exact meet_any a l c m w
theorem facesFine_is (id a l : Int) (x : Option Addr) (n c : Nat) (fs : List Fc) (t : Bool) (h : ffB a l n fs = t) (w : World) (hr : rt a l = true) (hp : FcS w x n fs) (hn : n ≤ 8) (hm : ∀ i, i < n → (fcAt fs i).n ≤ 4) :
    Calls Tryz.prog 65 #[.agg #[.int .i64 id, .int .i64 a, .int .i64 l, .slice x n c]] w fun e w' => e = .returned (.bool t) ∧ Below w.heap.size w w' := by
  subst h
  exact facesFine_any id a l x n c fs w hr hp hn hm
theorem any_rt {rn : Nat} {rs : List Rg} {a l : Int} (h : anyAt rn (riB rs a l) = true) : rt a l = true := by
  obtain ⟨i, -, hi⟩ := anyAt_ex h
  unfold riB ins at hi
  simp only [Bool.and_eq_true] at hi
  exact hi.1.1.1
def CkPost (t : Int) (w : World) (e : Ending) (w' : World) : Prop := e = .returned (.int .i64 t) ∧ Below w.heap.size w w'
/-- What the reference tells. -/
def rchkV (vid : Int) (rn : Nat) (rs : List Rg) (sn : Nat) (ss : List Sb) : Int := if vmanyB rn sn ss then 2 else if wth vid 1 65536 && rfB rn rs && sfB rn rs sn ss then 0 else 1

set_option maxRecDepth 100000 in
set_option maxHeartbeats 3200000 in
theorem checkVpc_any (vid : Int) (rx : Option Addr) (rn rc : Nat) (rs : List Rg) (sx : Option Addr) (sn sc : Nat) (ss : List Sb) (w : World) (hv : Vp w rx rn rc rs sx sn sc ss) (hrn : rn ≤ 9223372036854775807) (hsn : sn ≤ 9223372036854775807) :
    Calls Tryz.prog 31 #[.agg #[.int .i64 vid, .slice rx rn rc, .slice sx sn sc]] w (CkPost (rchkV vid rn rs sn ss) w) := by
  have hbd : Hid (rchkV vid rn rs sn ss = if vmanyB rn sn ss then 2 else if wth vid 1 65536 && rfB rn rs && sfB rn rs sn ss then 0 else 1) := rfl
  go_enter Tryz.func31, Tryz.ntmps31
  go_upto_region 1 with fail
  obtain ⟨w2, hw2⟩ : ∃ w2, w2 = w.alloc (vpO vid rx rn rc sx sn sc) := ⟨_, rfl⟩
  rw [← hw2]
  have h02 : Below w.heap.size w w2 := by rw [hw2]; exact bl1 w _
  have hbox : w2.heap[w.heap.size]? = some (vpO vid rx rn rc sx sn sc) := by rw [hw2]; exact heap_new _ rfl
  clear hw2
  obtain ⟨hcl, -⟩ := box_cells hbox
  have q0 : w2.cell? ⟨w.heap.size, 0, none⟩ = some (.int .i64 vid) := hcl 0
  have q1 : w2.cell? ⟨w.heap.size, 1, none⟩ = some (.slice rx rn rc) := hcl 1
  have q2 : w2.cell? ⟨w.heap.size, 2, none⟩ = some (.slice sx sn sc) := hcl 2
  clear hcl hbox
  have hv2 := hv.later h02
  have hsz : Hid (w.heap.size ≤ w2.heap.size) := h02.size
  generalize hbk : w.heap.size = bk at *
  cases hmy : vmanyB rn sn ss
  · obtain ⟨f1, f2, f3, f4⟩ := few hmy
    go_wp2_with fail
    refine (vpcMany_is _ _ _ _ _ _ _ _ _ hmy _ hrn hv2.subs hsn).mono ?_
    rintro e wm ⟨rfl, hbm⟩
    have h0m : Below bk w wm := h02.trans (hbm.mono hsz.out)
    have hszm : Hid (bk ≤ wm.heap.size) := Nat.le_trans hsz.out hbm.size
    have r0 := cell_later hbm q0
    have r1 := cell_later hbm q1
    have r2 := cell_later hbm q2
    have hvm := hv2.later hbm
    clear q0 q1 q2 hbm hv2 h02
    cases hw : wth vid 1 65536
    · go_wp2_with (go_at_call 34; refine (within_at _ _ _ _ hw _).mono ?_; rintro e w4 ⟨rfl, rfl⟩)
      go_ret
      exact ⟨ret_int (by rw [hbd.out, hmy, hw]; rfl), by rw [hbk]; exact h0m⟩
    · go_wp2_with fail
      refine (within_at _ _ _ _ hw _).mono ?_
      rintro e wm ⟨rfl, rfl⟩
      go_wp2
      go_loopw [3] (fun i wr => ∃ k : Nat, k ≤ rn ∧ i = .int .i64 k ∧ Below wm.heap.size wm wr ∧ (∀ j, j < k → rfAt rs j = true)) (fun i _ => rn - (intOf i).toNat)
      case atStart => exact ⟨0, by omega, rfl, Below.refl _ _, fun j hj => by omega⟩
      case round =>
        obtain ⟨k, hk, rfl, hB, hok⟩ := hrel
        have s1 := cell_later hB r1
        have hall : Below bk w wr := h0m.trans (hB.mono hszm.out)
        by_cases hlt : k < rn
        · have hlt' : Hid (k < rn) := hlt
          have hpr := hvm.ranges.later hB
          obtain ⟨b, o, rfl, c0, c1, c2⟩ := hpr.cells k hlt
          have hta : Hid (rfAt rs k = (wth (rgAt rs k).p 1 65536 && rt (rgAt rs k).a (rgAt rs k).l && (k == 0 || (decide ((rgAt rs (k - 1)).a < (rgAt rs k).a) && !mts (rgAt rs (k - 1)).a (rgAt rs (k - 1)).l (rgAt rs k).a (rgAt rs k).l)))) := rfl
          go_upto_region 9 with fail
          obtain ⟨w3, hw3⟩ : ∃ w3, w3 = wr.alloc (rgO (rgAt rs k)) := ⟨_, rfl⟩
          rw [← hw3]
          have h23 : Below wr.heap.size wr w3 := by rw [hw3]; exact bl1 wr _
          have hbf : w3.heap[wr.heap.size]? = some (rgO (rgAt rs k)) := by rw [hw3]; exact heap_new _ rfl
          clear hw3 c0 c1 c2
          have hp3 := hpr.later h23
          have hB3 := hB.trans (h23.mono hB.size)
          have hfb := (box_cells hbf).1
          have g0 := Ws.here (v := .int .i64 (rgAt rs k).a) (hfb 0)
          have g1 := Ws.here (v := .int .i64 (rgAt rs k).l) (hfb 1)
          have g2 := Ws.here (v := .int .i64 (rgAt rs k).p) (hfb 2)
          have g3 := Ws.here (cell_later h23 s1)
          clear hfb hbf s1
          generalize wr.heap.size = bf at *
          have hall3 : Below bk w w3 := h0m.trans (hB3.mono hszm.out)
          go_cut [65] (fun t wc => t = .bool (!rfAt rs k) ∧ Below w3.heap.size w3 wc)
          case first =>
            cases hwt : wth (rgAt rs k).p 1 65536
            · have hv : Hid (rfAt rs k = false) := by show _ = _; rw [hta.out, hwt]; rfl
              refine wp_region_ws w3.heap.size (by kernel_rfl) (by kernel_rfl) ?_
              repeat (go_big_quiet_step (first | (go_at_call 34; exact Calls.in_ws_same (within_at _ _ _ _ hwt _))))
              refine wpQuiet_nil ?_
              rintro _ ⟨u, rfl⟩
              have hu := u.property
              generalize u.val = wu at hu ⊢
              clear u g0 g1 g2 g3
              go_wp2
              go_meet
              case rel => exact ⟨by rw [hv.out]; rfl, hu⟩
            · cases hrt : rt (rgAt rs k).a (rgAt rs k).l
              · have hv : Hid (rfAt rs k = false) := by show _ = _; rw [hta.out, hrt]; simp
                refine wp_region_ws w3.heap.size (by kernel_rfl) (by kernel_rfl) ?_
                repeat (go_big_quiet_step (first | (go_at_call 34; exact Calls.in_ws_same (within_at _ _ _ _ hwt _)) | (go_at_call 62; exact Calls.in_ws (Nat.le_refl _) (rightR_is _ _ _ hrt _))))
                refine wpQuiet_nil ?_
                rintro _ ⟨u, rfl⟩
                have hu := u.property
                generalize u.val = wu at hu ⊢
                clear u g0 g1 g2 g3
                go_wp2
                go_meet
                case rel => exact ⟨by rw [hv.out]; rfl, hu⟩
              · by_cases hk0 : k = 0
                · have hdk : decide (0 < k) = false := by simp; omega
                  have hv : Hid (rfAt rs k = true) := by show _ = _; rw [hta.out, hwt, hrt, hk0]; rfl
                  clear hk0
                  refine wp_region_ws w3.heap.size (by kernel_rfl) (by kernel_rfl) ?_
                  repeat (go_big_quiet_step (first | (go_at_call 34; exact Calls.in_ws_same (within_at _ _ _ _ hwt _)) | (go_at_call 62; exact Calls.in_ws (Nat.le_refl _) (rightR_is _ _ _ hrt _))))
                  refine wpQuiet_nil ?_
                  rintro _ ⟨u, rfl⟩
                  have hu := u.property
                  generalize u.val = wu at hu ⊢
                  clear u g0 g1 g2 g3
                  go_wp2
                  go_meet
                  case rel => exact ⟨by rw [hv.out]; rfl, hu⟩
                · obtain ⟨i, rfl⟩ : ∃ i, k = i + 1 := ⟨k - 1, by omega⟩
                  obtain ⟨b4, o4, hx4, d0, d1, -⟩ := hp3.cells i (by omega)
                  simp only [Option.some.injEq, Addr.mk.injEq, and_true] at hx4
                  obtain ⟨rfl, rfl⟩ := hx4
                  have g4 := Ws.here d0
                  have g5 := Ws.here d1
                  rw [Nat.add_sub_cancel] at hta
                  by_cases hle : (rgAt rs i).a < (rgAt rs (i + 1)).a
                  · have hge : decide ((rgAt rs i).a ≥ (rgAt rs (i + 1)).a) = false := by simp; omega
                    cases hmt : mts (rgAt rs i).a (rgAt rs i).l (rgAt rs (i + 1)).a (rgAt rs (i + 1)).l
                    · have hv : Hid (rfAt rs (i + 1) = true) := by show _ = _; rw [hta.out, hwt, hrt, decide_eq_true hle, hmt]; simp
                      refine wp_region_ws w3.heap.size (by kernel_rfl) (by kernel_rfl) ?_
                      repeat (go_big_quiet_step (first | (go_at_call 34; exact Calls.in_ws_same (within_at _ _ _ _ hwt _)) | (go_at_call 62; exact Calls.in_ws (Nat.le_refl _) (rightR_is _ _ _ hrt _)) | (go_at_call 63; exact Calls.in_ws (Nat.le_refl _) (meetR_is _ _ _ _ _ hmt _))))
                      refine wpQuiet_nil ?_
                      rintro _ ⟨u, rfl⟩
                      have hu := u.property
                      generalize u.val = wu at hu ⊢
                      clear u g0 g1 g2 g3 g4 g5
                      go_wp2
                      go_meet
                      case rel => exact ⟨by rw [hv.out]; rfl, hu⟩
                    · have hv : Hid (rfAt rs (i + 1) = false) := by show _ = _; rw [hta.out, hmt]; simp
                      refine wp_region_ws w3.heap.size (by kernel_rfl) (by kernel_rfl) ?_
                      repeat (go_big_quiet_step (first | (go_at_call 34; exact Calls.in_ws_same (within_at _ _ _ _ hwt _)) | (go_at_call 62; exact Calls.in_ws (Nat.le_refl _) (rightR_is _ _ _ hrt _)) | (go_at_call 63; exact Calls.in_ws (Nat.le_refl _) (meetR_is _ _ _ _ _ hmt _))))
                      refine wpQuiet_nil ?_
                      rintro _ ⟨u, rfl⟩
                      have hu := u.property
                      generalize u.val = wu at hu ⊢
                      clear u g0 g1 g2 g3 g4 g5
                      go_wp2
                      go_meet
                      case rel => exact ⟨by rw [hv.out]; rfl, hu⟩
                  · have hge : decide ((rgAt rs i).a ≥ (rgAt rs (i + 1)).a) = true := by simp; omega
                    have hv : Hid (rfAt rs (i + 1) = false) := by show _ = _; rw [hta.out, decide_eq_false hle]; simp
                    refine wp_region_ws w3.heap.size (by kernel_rfl) (by kernel_rfl) ?_
                    repeat (go_big_quiet_step (first | (go_at_call 34; exact Calls.in_ws_same (within_at _ _ _ _ hwt _)) | (go_at_call 62; exact Calls.in_ws (Nat.le_refl _) (rightR_is _ _ _ hrt _))))
                    refine wpQuiet_nil ?_
                    rintro _ ⟨u, rfl⟩
                    have hu := u.property
                    generalize u.val = wu at hu ⊢
                    clear u g0 g1 g2 g3 g4 g5
                    go_wp2
                    go_meet
                    case rel => exact ⟨by rw [hv.out]; rfl, hu⟩
          case rest =>
            obtain ⟨rfl, hBc⟩ := hcut
            clear g0 g1 g2 g3
            have hfin := hB3.trans (hBc.mono hB3.size)
            cases hh : rfAt rs k
            · have hbad : Hid (rfB rn rs = false) := allR_no hlt hh
              go_wp2
              go_ret
              exact ⟨ret_int (by rw [hbd.out, hmy, hw, hbad.out]; rfl), by rw [hbk]; exact h0m.trans (hfin.mono hszm.out)⟩
            · go_wp2
              go_roundw
              case rel => exact ⟨k + 1, hlt'.out, by go_num, hfin, fun j hj => by
                by_cases hj2 : j < k
                · exact hok j hj2
                · obtain rfl : j = k := by omega
                  exact hh⟩
              case measure => simp [intOf]; have := hlt'.out; omega
        · obtain rfl : k = rn := by omega
          have hrf : Hid (rfB k rs = true) := allR_yes hok
          have s2 := cell_later hB r2
          clear hok
          have s0 := cell_later hB r0
          have hvo := hvm.later hB
          have hszo : Hid (bk ≤ wr.heap.size) := Nat.le_trans hszm.out hB.size
          clear r0 r1 r2 hvm hB h0m
          go_wp2
          obtain ⟨wo, rfl⟩ : ∃ wo, wo = wr := ⟨_, rfl⟩
          go_loopw [5] (fun i wr => ∃ q : Nat, q ≤ sn ∧ i = .int .i64 q ∧ Below wo.heap.size wo wr ∧ (∀ j, j < q → sfAt k rs ss j = true)) (fun i _ => sn - (intOf i).toNat)
          case atStart => exact ⟨0, by omega, rfl, Below.refl _ _, fun j hj => by omega⟩
          case round =>
            obtain ⟨q, hq, rfl, hB, hokq⟩ := hrel
            have e0 := cell_later hB s0
            have e1 := cell_later hB s1
            have e2 := cell_later hB s2
            have hallq : Below bk w wr := hall.trans (hB.mono hszo.out)
            by_cases hlt : q < sn
            · have hlt' : Hid (q < sn) := hlt
              have hpr := hvo.subs.later hB
              have hRr := hvo.ranges.later hB
              obtain ⟨b, o, rfl, c0, c1, c2, c3⟩ := hpr.cells q hlt
              have hF := (hpr.faces q hlt).2.2
              have hm1 := f3 q hlt
              have hm3 := f4 q hlt
              have hta : Hid (sfHd k rs ss q = (wth (sbAt ss q).id 1 65536 && anyAt k (riB rs (sbAt ss q).a (sbAt ss q).l) && (q == 0 || decide ((sbAt ss (q - 1)).id < (sbAt ss q).id)) && ffB (sbAt ss q).a (sbAt ss q).l (sbAt ss q).n (sbAt ss q).fs)) := rfl
              have htb : Hid (sfAt k rs ss q = (sfHd k rs ss q && !anyAt q (smB ss (sbAt ss q).a (sbAt ss q).l))) := rfl
              go_upto_region 15 with fail
              obtain ⟨w3, hw3⟩ : ∃ w3, w3 = wr.alloc (sbO (sbAt ss q)) := ⟨_, rfl⟩
              rw [← hw3]
              have h23 : Below wr.heap.size wr w3 := by rw [hw3]; exact bl1 wr _
              have hbf : w3.heap[wr.heap.size]? = some (sbO (sbAt ss q)) := by rw [hw3]; exact heap_new _ rfl
              clear hw3 c0 c1 c2 c3
              have hp3 := hpr.later h23
              have hR3 := hRr.later h23
              have hF3 := hF.later h23
              have hB3 := hB.trans (h23.mono hB.size)
              have hfb := (box_cells hbf).1
              have t1 : w3.cell? ⟨wr.heap.size, 1, none⟩ = some (.int .i64 (sbAt ss q).a) := hfb 1
              have t2 : w3.cell? ⟨wr.heap.size, 2, none⟩ = some (.int .i64 (sbAt ss q).l) := hfb 2
              have m2 := cell_later h23 e2
              have g0 := Ws.here (v := .int .i64 (sbAt ss q).id) (hfb 0)
              have g1 := Ws.here t1
              have g2 := Ws.here t2
              have g3 := Ws.here (v := .slice (sbAt ss q).x (sbAt ss q).n (sbAt ss q).c) (hfb 3)
              have g4 := Ws.here (cell_later h23 e0)
              have g5 := Ws.here (cell_later h23 e1)
              have g6 := Ws.here m2
              clear hfb hbf e0 e1 e2
              generalize wr.heap.size = bf at *
              have hall3 : Below bk w w3 := hall.trans (hB3.mono hszo.out)
              have hsz3 : Hid (bk ≤ w3.heap.size) := Nat.le_trans hszo.out hB3.size
              go_cut [109] (fun t wc => t = .bool (!sfHd k rs ss q) ∧ Below w3.heap.size w3 wc)
              case first =>
                cases hwt : wth (sbAt ss q).id 1 65536
                · have hv : Hid (sfHd k rs ss q = false) := by show _ = _; rw [hta.out, hwt]; rfl
                  refine wp_region_ws w3.heap.size (by kernel_rfl) (by kernel_rfl) ?_
                  repeat (go_big_quiet_step (first | (go_at_call 34; exact Calls.in_ws_same (within_at _ _ _ _ hwt _))))
                  refine wpQuiet_nil ?_
                  rintro _ ⟨u, rfl⟩
                  have hu := u.property
                  generalize u.val = wu at hu ⊢
                  clear u g0 g1 g2 g3 g4 g5 g6
                  go_wp2
                  go_meet
                  case rel => exact ⟨by rw [hv.out]; rfl, hu⟩
                · cases hir : anyAt k (riB rs (sbAt ss q).a (sbAt ss q).l)
                  · have hv : Hid (sfHd k rs ss q = false) := by show _ = _; rw [hta.out, hir]; simp
                    refine wp_region_ws w3.heap.size (by kernel_rfl) (by kernel_rfl) ?_
                    repeat (go_big_quiet_step (first | (go_at_call 34; exact Calls.in_ws_same (within_at _ _ _ _ hwt _)) | (go_at_call 64; exact Calls.in_ws (Nat.le_refl _) (inRange_is _ _ _ _ _ _ _ _ _ _ _ hir _ (hR3.later (Ws.property _)) (by omega)))))
                    refine wpQuiet_nil ?_
                    rintro _ ⟨u, rfl⟩
                    have hu := u.property
                    generalize u.val = wu at hu ⊢
                    clear u g0 g1 g2 g3 g4 g5 g6
                    go_wp2
                    go_meet
                    case rel => exact ⟨by rw [hv.out]; rfl, hu⟩
                  · have hrt := any_rt hir
                    by_cases hk0 : q = 0
                    · have hdk : decide (0 < q) = false := by simp; omega
                      have hv0 : Hid (sfHd k rs ss q = ffB (sbAt ss q).a (sbAt ss q).l (sbAt ss q).n (sbAt ss q).fs) := by show _ = _; rw [hta.out, hwt, hir, hk0]; rfl
                      clear hk0
                      cases hff : ffB (sbAt ss q).a (sbAt ss q).l (sbAt ss q).n (sbAt ss q).fs
                      · have hv : Hid (sfHd k rs ss q = false) := by show _ = _; rw [hv0.out, hff]
                        refine wp_region_ws w3.heap.size (by kernel_rfl) (by kernel_rfl) ?_
                        repeat (go_big_quiet_step (first | (go_at_call 34; exact Calls.in_ws_same (within_at _ _ _ _ hwt _)) | (go_at_call 64; exact Calls.in_ws (Nat.le_refl _) (inRange_is _ _ _ _ _ _ _ _ _ _ _ hir _ (hR3.later (Ws.property _)) (by omega))) | (go_at_call 65; exact Calls.in_ws (Nat.le_refl _) (facesFine_is _ _ _ _ _ _ _ _ hff _ hrt (hF3.later (Ws.property _)) hm1 hm3))))
                        refine wpQuiet_nil ?_
                        rintro _ ⟨u, rfl⟩
                        have hu := u.property
                        generalize u.val = wu at hu ⊢
                        clear u g0 g1 g2 g3 g4 g5 g6
                        go_wp2
                        go_meet
                        case rel => exact ⟨by rw [hv.out]; rfl, hu⟩
                      · have hv : Hid (sfHd k rs ss q = true) := by show _ = _; rw [hv0.out, hff]
                        refine wp_region_ws w3.heap.size (by kernel_rfl) (by kernel_rfl) ?_
                        repeat (go_big_quiet_step (first | (go_at_call 34; exact Calls.in_ws_same (within_at _ _ _ _ hwt _)) | (go_at_call 64; exact Calls.in_ws (Nat.le_refl _) (inRange_is _ _ _ _ _ _ _ _ _ _ _ hir _ (hR3.later (Ws.property _)) (by omega))) | (go_at_call 65; exact Calls.in_ws (Nat.le_refl _) (facesFine_is _ _ _ _ _ _ _ _ hff _ hrt (hF3.later (Ws.property _)) hm1 hm3))))
                        refine wpQuiet_nil ?_
                        rintro _ ⟨u, rfl⟩
                        have hu := u.property
                        generalize u.val = wu at hu ⊢
                        clear u g0 g1 g2 g3 g4 g5 g6
                        go_wp2
                        go_meet
                        case rel => exact ⟨by rw [hv.out]; rfl, hu⟩
                    · obtain ⟨i, rfl⟩ : ∃ i, q = i + 1 := ⟨q - 1, by omega⟩
                      obtain ⟨b4, o4, hx4, d0, -⟩ := hp3.cells i (by omega)
                      simp only [Option.some.injEq, Addr.mk.injEq, and_true] at hx4
                      obtain ⟨rfl, rfl⟩ := hx4
                      have g7 := Ws.here d0
                      rw [Nat.add_sub_cancel] at hta
                      by_cases hle : (sbAt ss i).id < (sbAt ss (i + 1)).id
                      · have hge : decide ((sbAt ss i).id ≥ (sbAt ss (i + 1)).id) = false := by simp; omega
                        cases hff : ffB (sbAt ss (i + 1)).a (sbAt ss (i + 1)).l (sbAt ss (i + 1)).n (sbAt ss (i + 1)).fs
                        · have hv : Hid (sfHd k rs ss (i + 1) = false) := by show _ = _; rw [hta.out, hff]; simp
                          refine wp_region_ws w3.heap.size (by kernel_rfl) (by kernel_rfl) ?_
                          repeat (go_big_quiet_step (first | (go_at_call 34; exact Calls.in_ws_same (within_at _ _ _ _ hwt _)) | (go_at_call 64; exact Calls.in_ws (Nat.le_refl _) (inRange_is _ _ _ _ _ _ _ _ _ _ _ hir _ (hR3.later (Ws.property _)) (by omega))) | (go_at_call 65; exact Calls.in_ws (Nat.le_refl _) (facesFine_is _ _ _ _ _ _ _ _ hff _ hrt (hF3.later (Ws.property _)) hm1 hm3))))
                          refine wpQuiet_nil ?_
                          rintro _ ⟨u, rfl⟩
                          have hu := u.property
                          generalize u.val = wu at hu ⊢
                          clear u g0 g1 g2 g3 g4 g5 g6 g7
                          go_wp2
                          go_meet
                          case rel => exact ⟨by rw [hv.out]; rfl, hu⟩
                        · have hv : Hid (sfHd k rs ss (i + 1) = true) := by show _ = _; rw [hta.out, hwt, hir, decide_eq_true hle, hff]; simp
                          refine wp_region_ws w3.heap.size (by kernel_rfl) (by kernel_rfl) ?_
                          repeat (go_big_quiet_step (first | (go_at_call 34; exact Calls.in_ws_same (within_at _ _ _ _ hwt _)) | (go_at_call 64; exact Calls.in_ws (Nat.le_refl _) (inRange_is _ _ _ _ _ _ _ _ _ _ _ hir _ (hR3.later (Ws.property _)) (by omega))) | (go_at_call 65; exact Calls.in_ws (Nat.le_refl _) (facesFine_is _ _ _ _ _ _ _ _ hff _ hrt (hF3.later (Ws.property _)) hm1 hm3))))
                          refine wpQuiet_nil ?_
                          rintro _ ⟨u, rfl⟩
                          have hu := u.property
                          generalize u.val = wu at hu ⊢
                          clear u g0 g1 g2 g3 g4 g5 g6 g7
                          go_wp2
                          go_meet
                          case rel => exact ⟨by rw [hv.out]; rfl, hu⟩
                      · have hge : decide ((sbAt ss i).id ≥ (sbAt ss (i + 1)).id) = true := by simp; omega
                        have hv : Hid (sfHd k rs ss (i + 1) = false) := by show _ = _; rw [hta.out, decide_eq_false hle]; simp
                        refine wp_region_ws w3.heap.size (by kernel_rfl) (by kernel_rfl) ?_
                        repeat (go_big_quiet_step (first | (go_at_call 34; exact Calls.in_ws_same (within_at _ _ _ _ hwt _)) | (go_at_call 64; exact Calls.in_ws (Nat.le_refl _) (inRange_is _ _ _ _ _ _ _ _ _ _ _ hir _ (hR3.later (Ws.property _)) (by omega)))))
                        refine wpQuiet_nil ?_
                        rintro _ ⟨u, rfl⟩
                        have hu := u.property
                        generalize u.val = wu at hu ⊢
                        clear u g0 g1 g2 g3 g4 g5 g6 g7
                        go_wp2
                        go_meet
                        case rel => exact ⟨by rw [hv.out]; rfl, hu⟩
              case rest =>
                obtain ⟨rfl, hBc⟩ := hcut
                clear g0 g1 g2 g3 g4 g5 g6
                have hfin := hB3.trans (hBc.mono hB3.size)
                have hallc : Below bk w wc := hall3.trans (hBc.mono hsz3.out)
                have hszc : Hid (bk ≤ wc.heap.size) := Nat.le_trans hsz3.out hBc.size
                cases hh : sfHd k rs ss q
                · have hbad : Hid (sfB k rs sn ss = false) := allR_no hlt (by rw [htb.out, hh]; rfl)
                  go_wp2
                  go_ret
                  exact ⟨ret_int (by rw [hbd.out, hmy, hw, hbad.out]; simp), by rw [hbk]; exact hallc⟩
                · have n1 := cell_later hBc t1
                  have n2 := cell_later hBc t2
                  have n3 := cell_later hBc m2
                  have hpc := hp3.later hBc
                  go_wp2
                  obtain ⟨wu, rfl⟩ : ∃ wu, wu = wr := ⟨_, rfl⟩
                  go_loopw [7] (fun i wr => ∃ z : Nat, z ≤ q ∧ i = .int .i64 z ∧ Below wc.heap.size wc wr ∧ (∀ j, j < z → smB ss (sbAt ss q).a (sbAt ss q).l j = false)) (fun i _ => q - (intOf i).toNat)
                  case atStart => exact ⟨0, by omega, rfl, Below.refl _ _, fun j hj => by omega⟩
                  case round =>
                    obtain ⟨z, hz, rfl, hBz, hnoz⟩ := hrel
                    by_cases hz2 : z < q
                    · have hz' : Hid (z < q) := hz2
                      obtain ⟨b9, o9, hx9, -, d1, d2, -⟩ := (hpc.later hBz).cells z (by omega)
                      simp only [Option.some.injEq, Addr.mk.injEq, and_true] at hx9
                      obtain ⟨rfl, rfl⟩ := hx9
                      have g1 := Ws.here (cell_later hBz n1)
                      have g2 := Ws.here (cell_later hBz n2)
                      have g3 := Ws.here (cell_later hBz n3)
                      have g4 := Ws.here d1
                      have g5 := Ws.here d2
                      clear d1 d2
                      cases hmt0 : smB ss (sbAt ss q).a (sbAt ss q).l z
                      all_goals have hmt : mts (sbAt ss z).a (sbAt ss z).l (sbAt ss q).a (sbAt ss q).l = _ := hmt0
                      all_goals go_upto_region 20 with fail
                      all_goals refine wp_region_ws wr.heap.size (by kernel_rfl) (by kernel_rfl) ?_
                      all_goals repeat (go_big_quiet_step ((go_at_call 63; exact Calls.in_ws (Nat.le_refl _) (meetR_is _ _ _ _ _ hmt _))))
                      all_goals refine wpQuiet_nil ?_
                      all_goals rintro _ ⟨u, rfl⟩
                      all_goals have hu := hBz.trans (u.property.mono hBz.size)
                      all_goals generalize u.val = wv at hu ⊢
                      all_goals clear u g1 g2 g3 g4 g5
                      · go_wp2
                        go_roundw
                        case rel => exact ⟨z + 1, hz'.out, by go_num, hu, fun j hj => by
                          by_cases hj2 : j < z
                          · exact hnoz j hj2
                          · obtain rfl : j = z := by omega
                            exact hmt0⟩
                        case measure => simp [intOf]; have := hz'.out; omega
                      · have hbad : Hid (sfB k rs sn ss = false) := allR_no hlt (by rw [htb.out, any_yes hz'.out hmt0]; simp)
                        go_wp2
                        go_ret
                        exact ⟨ret_int (by rw [hbd.out, hmy, hw, hbad.out]; simp), by rw [hbk]; exact hallc.trans (hu.mono hszc.out)⟩
                    · obtain rfl : z = q := by omega
                      have hyes : Hid (sfAt k rs ss z = true) := by show _ = _; rw [htb.out, hh, any_no hnoz]; rfl
                      have hfin2 := hfin.trans (hBz.mono hfin.size)
                      go_wp2
                      go_roundw
                      case rel => exact ⟨z + 1, hlt'.out, by go_num, hfin2, fun j hj => by
                        by_cases hj2 : j < z
                        · exact hokq j hj2
                        · obtain rfl : j = z := by omega
                          exact hyes.out⟩
                      case measure => simp [intOf]; have := hlt'.out; omega
            · obtain rfl : q = sn := by omega
              have hsf : Hid (sfB k rs q ss = true) := allR_yes hokq
              go_wp2
              go_ret
              exact ⟨ret_int (by rw [hbd.out, hmy, hw, hrf.out, hsf.out]; rfl), by rw [hbk]; exact hallq⟩
  · go_wp2_with (go_at_call 61; refine (vpcMany_is _ _ _ _ _ _ _ _ _ hmy _ hrn hv2.subs hsn).mono ?_; rintro e w3 ⟨rfl, hb3⟩)
    go_ret
    exact ⟨ret_int (by rw [hbd.out, hmy]; rfl), by rw [hbk]; exact h02.trans (hb3.mono hsz.out)⟩
end Go.Proofs.YtlalgkjollgcbaaGreat
/- CheckNet of the reference answers as Check of package net. -/
namespace Go.Proofs.YtlalgkjollgcbaaGreat
open Go.RowKit Go.Shelf Go.Maps

theorem rchkN_eq {w : World} {vid : Int} {rx : Option Addr} {rn rc : Nat} {rs : List Rg} {sx : Option Addr} {sn sc : Nat} {ss : List Sb} (hv : Vp w rx rn rc rs sx sn sc ss) : rchkV vid rn rs sn ss = chkV vid rn rs sn ss := by
  unfold rchkV chkV
  rw [rf_eq hv.ranges.len, sf_eq hv.subs.len (fun i hi => ⟨(hv.subs.faces i hi).2.2.len, fun k hk => ((hv.subs.faces i hi).2.2.addrs k hk).2.2.len⟩)]
theorem checkVpcN_is (v : Vn) (t : Int) (h : chkV v.id v.rn v.rs v.sn v.ss = t) (w : World) (hv : Vp w v.rx v.rn v.rc v.rs v.sx v.sn v.sc v.ss) (hrn : v.rn ≤ 9223372036854775807) (hsn : v.sn ≤ 9223372036854775807) :
    Calls Tryz.prog 31 #[.agg #[.int .i64 v.id, .slice v.rx v.rn v.rc, .slice v.sx v.sn v.sc]] w fun e w' => e = .returned (.int .i64 t) ∧ Below w.heap.size w w' := by
  rw [← h, ← rchkN_eq (vid := v.id) hv]
  exact checkVpc_any v.id v.rx v.rn v.rc v.rs v.sx v.sn v.sc v.ss w hv hrn hsn
/-- Is the i-th network wrong, or out of order? -/
def vwrong (vs : List Vn) (i : Nat) : Bool := vbad (vnAt vs i) || !riseVAt vs i
theorem vpcs_yes {n : Nat} {vs : List Vn} (hl : vs.length = n) (h : ∀ i, i < n → vwrong vs i = false) : vpcsB n vs = true := by
  have hh : ∀ i, i < n → vbad (vnAt vs i) = false ∧ riseVAt vs i = true := fun i hi => by
    have := h i hi
    unfold vwrong at this
    simpa using this
  unfold vpcsB
  rw [riseV_yes fun j hj => (hh j (by omega)).2, any_no fun j hj => (hh j hj).1]
  rfl
theorem vpcs_no {n : Nat} {vs : List Vn} (hl : vs.length = n) {i : Nat} (hi : i < n) (h : vwrong vs i = true) : vpcsB n vs = false := by
  unfold vwrong at h
  unfold vpcsB
  rcases Bool.or_eq_true_iff.1 h with h | h
  · rw [any_yes (f := fun i => vbad (vnAt vs i)) hi h]
    simp
  · rw [riseV_no (k := i) (by omega) (by simpa using h)]
    rfl
/-- Is the i-th link wrong, or out of order? -/
def lwrong (n : Nat) (vs : List Vn) (ls : List (Int × Int)) (i : Nat) : Bool := lbad n vs ls i || !riseLAt ls i
theorem links_yes {n : Nat} {vs : List Vn} {ln : Nat} {ls : List (Int × Int)} (hl : ls.length = ln) (h : ∀ i, i < ln → lwrong n vs ls i = false) : linksB n vs ln ls = true := by
  have hh : ∀ i, i < ln → lbad n vs ls i = false ∧ riseLAt ls i = true := fun i hi => by
    have := h i hi
    unfold lwrong at this
    simpa using this
  unfold linksB
  rw [riseL_yes fun j hj => (hh j (by omega)).2, any_no fun j hj => (hh j hj).1]
  rfl
theorem links_no {n : Nat} {vs : List Vn} {ln : Nat} {ls : List (Int × Int)} (hl : ls.length = ln) {i : Nat} (hi : i < ln) (h : lwrong n vs ls i = true) : linksB n vs ln ls = false := by
  unfold lwrong at h
  unfold linksB
  rcases Bool.or_eq_true_iff.1 h with h | h
  · rw [any_yes (f := lbad n vs ls) hi h]
    simp
  · rw [riseL_no (k := i) (by omega) (by simpa using h)]
    rfl
theorem chkN_many {n : Nat} {vs : List Vn} {ln : Nat} {ls : List (Int × Int)} (h : (decide (6 < n) || decide (12 < ln)) = true) : chkN n vs ln ls = 2 := by
  unfold chkN
  rw [if_pos h]
theorem chkN_form {n : Nat} {vs : List Vn} {ln : Nat} {ls : List (Int × Int)} (h : (decide (6 < n) || decide (12 < ln)) = false) (h2 : (vpcsB n vs && linksB n vs ln ls && apB ls n vs) = false) : chkN n vs ln ls = 1 := by
  unfold chkN
  rw [if_neg (by rw [h]; simp), if_neg (by rw [h2]; simp)]
theorem chkN_ok {n : Nat} {vs : List Vn} {ln : Nat} {ls : List (Int × Int)} (h : (decide (6 < n) || decide (12 < ln)) = false) (h1 : vpcsB n vs = true) (h2 : linksB n vs ln ls = true) (h3 : apB ls n vs = true) : chkN n vs ln ls = 0 := by
  unfold chkN
  rw [if_neg (by rw [h]; simp), h1, h2, h3]
  rfl
end Go.Proofs.YtlalgkjollgcbaaGreat
/- CheckNet of the reference: the walk. -/
namespace Go.Proofs.YtlalgkjollgcbaaGreat
open Go.RowKit Go.Shelf Go.Maps

set_option maxRecDepth 100000 in
set_option maxHeartbeats 12800000 in
theorem checkNet_any (x : Option Addr) (n c : Nat) (vs : List Vn) (lx : Option Addr) (ln lc : Nat) (ls : List (Int × Int)) (w : World) (hp : VS w x n vs) (hn : n ≤ 9223372036854775807) (hl : PS w lx ln ls) (hln : ln ≤ 9223372036854775807) :
    Calls Tryz.prog 9 #[.agg #[.slice x n c, .slice lx ln lc]] w fun e w' => e = .returned (.int .i64 (chkN n vs ln ls)) ∧ Below w.heap.size w w' := by
  have hvl : Hid (vs.length = n) := hp.len
  have hll : Hid (ls.length = ln) := hl.len
  go_enter Tryz.func9, Tryz.ntmps9
  go_upto_region 1 with fail
  obtain ⟨w2, hw2⟩ : ∃ w2, w2 = w.alloc (netO x n c lx ln lc) := ⟨_, rfl⟩
  rw [← hw2]
  have h02 : Below w.heap.size w w2 := by rw [hw2]; exact bl1 w _
  have hbox : w2.heap[w.heap.size]? = some (netO x n c lx ln lc) := by rw [hw2]; exact heap_new _ rfl
  clear hw2
  have q0 : w2.cell? ⟨w.heap.size, 0, none⟩ = some (.slice x n c) := (box_cells hbox).1 0
  have q1 : w2.cell? ⟨w.heap.size, 1, none⟩ = some (.slice lx ln lc) := (box_cells hbox).1 1
  have hp2 := hp.later h02
  have hl2 := hl.later h02
  have hsz : Hid (w.heap.size ≤ w2.heap.size) := h02.size
  clear hbox hp hl
  generalize hbk : w.heap.size = bk at *
  by_cases h6 : 6 < n
  · have hv : Hid (chkN n vs ln ls = 2) := chkN_many (by simp [h6])
    go_wp2
    go_ret
    exact ⟨ret_int hv.out.symm, by first | exact h02 | (rw [hbk]; exact h02)⟩
  by_cases h12 : 12 < ln
  · have hv : Hid (chkN n vs ln ls = 2) := chkN_many (by simp [h12])
    go_wp2
    go_ret
    exact ⟨ret_int hv.out.symm, by first | exact h02 | (rw [hbk]; exact h02)⟩
  have hfew : Hid ((decide (6 < n) || decide (12 < ln)) = false) := by show _ = _; simp [h6, h12]
  have hn6 : Hid (n ≤ 6) := by show _ ≤ _; omega
  have hl12 : Hid (ln ≤ 12) := by show _ ≤ _; omega
  go_wp2
  clear h6 h12
  go_loopw [3] (fun i wr => ∃ k : Nat, k ≤ n ∧ i = .int .i64 k ∧ Below w2.heap.size w2 wr ∧ Hid (∀ j, j < k → vwrong vs j = false)) (fun i _ => n - (intOf i).toNat)
  case atStart => exact ⟨0, by omega, rfl, Below.refl _ _, fun j hj => by omega⟩
  case round =>
    obtain ⟨k, hk, rfl, hB, hno⟩ := hrel
    have r0 := cell_later hB q0
    by_cases hlt : k < n
    · have hlt' : Hid (k < n) := hlt
      have hpr := hp2.later hB
      have hvp := hpr.vps k hlt
      obtain ⟨b, o, rfl, c0, c1, c2⟩ := hpr.cells k hlt
      have hcv : ∀ t, chkV (vnAt vs k).id (vnAt vs k).rn (vnAt vs k).rs (vnAt vs k).sn (vnAt vs k).ss = t → ∀ W, Below wr.heap.size wr W → Calls Tryz.prog 31 #[.agg #[.int .i64 (vnAt vs k).id, .slice (vnAt vs k).rx (vnAt vs k).rn (vnAt vs k).rc, .slice (vnAt vs k).sx (vnAt vs k).sn (vnAt vs k).sc]] W fun e w' => e = .returned (.int .i64 t) ∧ Below W.heap.size W w' := fun t ht W hW => checkVpcN_is _ t ht W (hvp.2.2.2.later hW) hvp.1 hvp.2.1
      have a0 := Ws.here r0
      have a2 := Ws.here c0
      have a3 := Ws.here c1
      have a4 := Ws.here c2
      go_upto_region 6 with fail
      clear r0 c0 c1 c2
      go_cut [52] (fun t wc => t = .bool (vwrong vs k) ∧ Below wr.heap.size wr wc)
      case first =>
        by_cases hz : chkV (vnAt vs k).id (vnAt vs k).rn (vnAt vs k).rs (vnAt vs k).sn (vnAt vs k).ss = 0
        · have hcv0 := hcv 0 hz
          have hvb : Hid (vbad (vnAt vs k) = false) := by show _ = _; unfold vbad; simp [hz]
          clear hz hcv
          by_cases hk0 : k = 0
          · have hdk : decide (0 < k) = false := by simp; omega
            have hv : Hid (vwrong vs k = false) := by show _ = _; unfold vwrong; rw [hvb.out, hk0]; rfl
            refine wp_region_ws wr.heap.size (by kernel_rfl) (by kernel_rfl) ?_
            clear hk0
            repeat (go_big_quiet_step (first | (go_at_call 31; exact Calls.in_ws (Nat.le_refl _) (hcv0 _ (Ws.property _)))))
            refine wpQuiet_nil ?_
            rintro _ ⟨u, rfl⟩
            have hu := u.property
            generalize u.val = wu at hu ⊢
            clear u a0 a2 a3 a4
            go_wp2
            go_meet
            case rel => exact ⟨by rw [hv.out], hu⟩
          · obtain ⟨i, rfl⟩ : ∃ i, k = i + 1 := ⟨k - 1, by omega⟩
            obtain ⟨b4, o4, hx4, d0, -, -⟩ := hpr.cells i (by omega)
            simp only [Option.some.injEq, Addr.mk.injEq, and_true] at hx4
            obtain ⟨rfl, rfl⟩ := hx4
            have a5 := Ws.here d0
            clear d0
            have hra : Hid (riseVAt vs (i + 1) = decide ((vnAt vs i).id < (vnAt vs (i + 1)).id)) := by show _ = _; unfold riseVAt; simp
            by_cases hle : (vnAt vs i).id < (vnAt vs (i + 1)).id
            · have hge : decide ((vnAt vs i).id ≥ (vnAt vs (i + 1)).id) = false := by simp; omega
              have hv : Hid (vwrong vs (i + 1) = false) := by show _ = _; unfold vwrong; rw [hvb.out, hra.out, decide_eq_true hle]; rfl
              refine wp_region_ws wr.heap.size (by kernel_rfl) (by kernel_rfl) ?_
              repeat (go_big_quiet_step (first | (go_at_call 31; exact Calls.in_ws (Nat.le_refl _) (hcv0 _ (Ws.property _)))))
              refine wpQuiet_nil ?_
              rintro _ ⟨u, rfl⟩
              have hu := u.property
              generalize u.val = wu at hu ⊢
              clear u a0 a2 a3 a4 a5
              go_wp2
              go_meet
              case rel => exact ⟨by rw [hv.out], hu⟩
            · have hge : decide ((vnAt vs i).id ≥ (vnAt vs (i + 1)).id) = true := by simp; omega
              have hv : Hid (vwrong vs (i + 1) = true) := by show _ = _; unfold vwrong; rw [hvb.out, hra.out, decide_eq_false hle]; rfl
              refine wp_region_ws wr.heap.size (by kernel_rfl) (by kernel_rfl) ?_
              repeat (go_big_quiet_step (first | (go_at_call 31; exact Calls.in_ws (Nat.le_refl _) (hcv0 _ (Ws.property _)))))
              refine wpQuiet_nil ?_
              rintro _ ⟨u, rfl⟩
              have hu := u.property
              generalize u.val = wu at hu ⊢
              clear u a0 a2 a3 a4 a5
              go_wp2
              go_meet
              case rel => exact ⟨by rw [hv.out], hu⟩
        · have hvb : Hid (vbad (vnAt vs k) = true) := by show _ = _; unfold vbad; simpa using hz
          have hcv0 := hcv _ rfl
          clear hcv
          generalize chkV (vnAt vs k).id (vnAt vs k).rn (vnAt vs k).rs (vnAt vs k).sn (vnAt vs k).ss = t0 at *
          have h1 : (t0 == 0) = false := by simpa using hz
          have h2 : (t0 != 0) = true := by simpa using hz
          have hv : Hid (vwrong vs k = true) := by show _ = _; unfold vwrong; rw [hvb.out]; rfl
          refine wp_region_ws wr.heap.size (by kernel_rfl) (by kernel_rfl) ?_
          repeat (go_big_quiet_step (first | (go_at_call 31; exact Calls.in_ws (Nat.le_refl _) (hcv0 _ (Ws.property _)))))
          refine wpQuiet_nil ?_
          rintro _ ⟨u, rfl⟩
          have hu := u.property
          generalize u.val = wu at hu ⊢
          clear u a0 a2 a3 a4
          go_wp2
          go_meet
          case rel => exact ⟨by rw [hv.out], hu⟩
      case rest =>
        obtain ⟨rfl, hBc⟩ := hcut
        clear a0 a2 a3 a4 hcv hvp hpr
        have hfin := hB.trans (hBc.mono hB.size)
        clear hB hBc
        cases hh : vwrong vs k
        · go_wp2
          go_roundw
          case rel => exact ⟨k + 1, hlt'.out, by go_num, hfin, fun j hj => by
            by_cases hj2 : j < k
            · exact hno.out j hj2
            · obtain rfl : j = k := by omega
              exact hh⟩
          case measure => simp [intOf]; have := hlt'.out; omega
        · have hv : Hid (chkN n vs ln ls = 1) := chkN_form hfew.out (by rw [vpcs_no hvl.out hlt hh]; rfl)
          go_wp2
          go_ret
          exact ⟨ret_int hv.out.symm, by first | exact h02.trans (hfin.mono hsz.out) | (rw [hbk]; exact h02.trans (hfin.mono hsz.out))⟩
    · obtain rfl : n = k := by omega
      have hvr : Hid (vpcsB n vs = true) := vpcs_yes hvl.out hno.out
      clear r0 hno hlt hk
      obtain ⟨w3, hw3⟩ : ∃ w3, w3 = wr := ⟨_, rfl⟩
      subst hw3
      have h03 : Below bk w w3 := h02.trans (hB.mono hsz.out)
      have hsz3 : Hid (bk ≤ w3.heap.size) := Nat.le_trans hsz.out hB.size
      have hp3 := hp2.later hB
      have hl3 := hl2.later hB
      have s0 := cell_later hB q0
      have s1 := cell_later hB q1
      clear hB hp2 hl2 q0 q1 h02 hsz
      go_wp2
      go_loopw [4] (fun i wr => ∃ q : Nat, q ≤ ln ∧ i = .int .i64 q ∧ Below w3.heap.size w3 wr ∧ Hid (∀ j, j < q → lwrong n vs ls j = false)) (fun i _ => ln - (intOf i).toNat)
      case atStart => exact ⟨0, by omega, rfl, Below.refl _ _, fun j hj => by omega⟩
      case round =>
        obtain ⟨q, hq, rfl, hC, hno⟩ := hrel
        have r0 := cell_later hC s0
        have r1 := cell_later hC s1
        by_cases hlt : q < ln
        · have hlt' : Hid (q < ln) := hlt
          have hlr := hl3.later hC
          obtain ⟨b, o, rfl, c0, c1⟩ := hlr.cells q hlt
          go_upto_region 12 with fail
          obtain ⟨w4, hw4⟩ : ∃ w4, w4 = wr.alloc (.cells #[.int .i64 (at0 ls q), .int .i64 (at1 ls q)] 63) := ⟨_, rfl⟩
          rw [← hw4]
          have h34 : Below wr.heap.size wr w4 := by rw [hw4]; exact bl1 wr _
          have hbf : w4.heap[wr.heap.size]? = some (.cells #[.int .i64 (at0 ls q), .int .i64 (at1 ls q)] 63) := by rw [hw4]; exact heap_new _ rfl
          clear hw4 c0 c1
          have hC4 := hC.trans (h34.mono hC.size)
          have hp4 := hp3.later hC4
          have hl4 := hlr.later h34
          have a0 := Ws.here (v := .int .i64 (at0 ls q)) ((box_cells hbf).1 0)
          have a1 := Ws.here (v := .int .i64 (at1 ls q)) ((box_cells hbf).1 1)
          have a2 := Ws.here (cell_later h34 r0)
          have a3 := Ws.here (cell_later h34 r1)
          clear hbf r0 r1 h34 hlr
          have hva : ∀ y t, vplace n vs y = t → ∀ W, Below w4.heap.size w4 W → Calls Tryz.prog 10 #[.agg #[.slice x n c, .slice (some ⟨b, o, none⟩) ln lc], .int .i64 y] W fun e w' => e = .returned (.int .i64 t) ∧ Below W.heap.size W w' := fun y t h W hW => vpcAt_is x n c vs _ ln lc y t h W (hp4.later hW) (by have := hn6.out; omega)
          generalize wr.heap.size = bf at *
          go_cut [123] (fun t wc => t = .bool (lwrong n vs ls q) ∧ Below w4.heap.size w4 wc)
          case first =>
            have hla : Hid (lwrong n vs ls q = (decide (at1 ls q ≤ at0 ls q) || decide (vplace n vs (at0 ls q) < 0) || decide (vplace n vs (at1 ls q) < 0) || !riseLAt ls q)) := rfl
            have hv0 := hva (at0 ls q) _ rfl
            have hv1 := hva (at1 ls q) _ rfl
            clear hva
            generalize vplace n vs (at0 ls q) = pa at *
            generalize vplace n vs (at1 ls q) = pb at *
            by_cases e1 : at1 ls q ≤ at0 ls q
            · have hge : decide (at0 ls q ≥ at1 ls q) = true := by simp; omega
              generalize at0 ls q = la at *
              generalize at1 ls q = lb at *
              have hv : Hid (lwrong n vs ls q = true) := by show _ = _; rw [hla.out, decide_eq_true e1]; rfl
              refine wp_region_ws w4.heap.size (by kernel_rfl) (by kernel_rfl) ?_
              repeat (go_big_quiet_step (first | fail))
              refine wpQuiet_nil ?_
              rintro _ ⟨u, rfl⟩
              have hu := u.property
              generalize u.val = wu at hu ⊢
              clear u a0 a1 a2 a3
              go_wp2
              go_meet
              case rel => exact ⟨by rw [hv.out], hu⟩
            have hge : decide (at0 ls q ≥ at1 ls q) = false := by simp; omega
            by_cases e2 : pa < 0
            · have hd2 : decide (pa < 0) = true := decide_eq_true e2
              generalize at0 ls q = la at *
              generalize at1 ls q = lb at *
              have hv : Hid (lwrong n vs ls q = true) := by show _ = _; rw [hla.out, hd2]; simp
              refine wp_region_ws w4.heap.size (by kernel_rfl) (by kernel_rfl) ?_
              repeat (go_big_quiet_step (first | (go_at_call_of 10 la; exact Calls.in_ws (Nat.le_refl _) (hv0 _ (Ws.property _)))))
              refine wpQuiet_nil ?_
              rintro _ ⟨u, rfl⟩
              have hu := u.property
              generalize u.val = wu at hu ⊢
              clear u a0 a1 a2 a3
              go_wp2
              go_meet
              case rel => exact ⟨by rw [hv.out], hu⟩
            have hd2 : decide (pa < 0) = false := decide_eq_false e2
            by_cases e3 : pb < 0
            · have hd3 : decide (pb < 0) = true := decide_eq_true e3
              have hne : Hid (at0 ls q ≠ at1 ls q) := by show _ ≠ _; omega
              generalize at0 ls q = la at *
              generalize at1 ls q = lb at *
              have hv : Hid (lwrong n vs ls q = true) := by show _ = _; rw [hla.out, hd3]; simp
              refine wp_region_ws w4.heap.size (by kernel_rfl) (by kernel_rfl) ?_
              repeat (go_big_quiet_step (first | (go_at_call_of 10 la; exact Calls.in_ws (Nat.le_refl _) (hv0 _ (Ws.property _))) | (go_at_call_of 10 lb; exact Calls.in_ws (Nat.le_refl _) (hv1 _ (Ws.property _)))))
              refine wpQuiet_nil ?_
              rintro _ ⟨u, rfl⟩
              have hu := u.property
              generalize u.val = wu at hu ⊢
              clear u a0 a1 a2 a3
              go_wp2
              go_meet
              case rel => exact ⟨by rw [hv.out], hu⟩
            have hd3 : decide (pb < 0) = false := decide_eq_false e3
            by_cases hq0 : q = 0
            · have hdk : decide (0 < q) = false := by simp; omega
              have hr0 : Hid (riseLAt ls q = true) := by show _ = _; rw [hq0]; rfl
              clear hq0
              generalize at0 ls q = la at *
              generalize at1 ls q = lb at *
              have hv : Hid (lwrong n vs ls q = false) := by show _ = _; rw [hla.out, decide_eq_false e1, hd2, hd3, hr0.out]; rfl
              refine wp_region_ws w4.heap.size (by kernel_rfl) (by kernel_rfl) ?_
              repeat (go_big_quiet_step (first | (go_at_call_of 10 la; exact Calls.in_ws (Nat.le_refl _) (hv0 _ (Ws.property _))) | (go_at_call_of 10 lb; exact Calls.in_ws (Nat.le_refl _) (hv1 _ (Ws.property _)))))
              refine wpQuiet_nil ?_
              rintro _ ⟨u, rfl⟩
              have hu := u.property
              generalize u.val = wu at hu ⊢
              clear u a0 a1 a2 a3
              go_wp2
              go_meet
              case rel => exact ⟨by rw [hv.out], hu⟩
            · obtain ⟨i, rfl⟩ : ∃ i, q = i + 1 := ⟨q - 1, by omega⟩
              obtain ⟨b4, o4, hx4, d0, d1⟩ := hl4.cells i (by omega)
              simp only [Option.some.injEq, Addr.mk.injEq, and_true] at hx4
              obtain ⟨rfl, rfl⟩ := hx4
              have a4 := Ws.here d0
              have a5 := Ws.here d1
              clear d0 d1
              have hra : Hid (riseLAt ls (i + 1) = decide (at0 ls i < at0 ls (i + 1) ∨ (at0 ls i = at0 ls (i + 1) ∧ at1 ls i < at1 ls (i + 1)))) := by show _ = _; unfold riseLAt; simp
              generalize at0 ls (i + 1) = la at *
              generalize at1 ls (i + 1) = lb at *
              generalize at0 ls i = ma at *
              generalize at1 ls i = mb at *
              by_cases e4 : ma > la
              · have hd4 : decide (ma > la) = true := decide_eq_true e4
                have hv : Hid (lwrong n vs ls (i + 1) = true) := by show _ = _; rw [hla.out, hra.out, decide_eq_false (by omega : ¬ (ma < la ∨ (ma = la ∧ mb < lb)))]; simp
                refine wp_region_ws w4.heap.size (by kernel_rfl) (by kernel_rfl) ?_
                repeat (go_big_quiet_step (first | (go_at_call_of 10 la; exact Calls.in_ws (Nat.le_refl _) (hv0 _ (Ws.property _))) | (go_at_call_of 10 lb; exact Calls.in_ws (Nat.le_refl _) (hv1 _ (Ws.property _)))))
                refine wpQuiet_nil ?_
                rintro _ ⟨u, rfl⟩
                have hu := u.property
                generalize u.val = wu at hu ⊢
                clear u a0 a1 a2 a3 a4 a5
                go_wp2
                go_meet
                case rel => exact ⟨by rw [hv.out], hu⟩
              have hd4 : decide (ma > la) = false := decide_eq_false e4
              by_cases e5 : ma = la
              · have hd5 : decide (ma = la) = true := decide_eq_true e5
                have hd5' : (ma == la) = true := by simpa using e5
                have e5' : Hid (ma = la) := e5
                clear e5
                by_cases e6 : mb < lb
                · have hd6 : decide (mb ≥ lb) = false := by simp; omega
                  have hv : Hid (lwrong n vs ls (i + 1) = false) := by show _ = _; rw [hla.out, hra.out, decide_eq_false e1, hd2, hd3, decide_eq_true (.inr ⟨e5'.out, e6⟩ : ma < la ∨ (ma = la ∧ mb < lb))]; rfl
                  refine wp_region_ws w4.heap.size (by kernel_rfl) (by kernel_rfl) ?_
                  repeat (go_big_quiet_step (first | (go_at_call_of 10 la; exact Calls.in_ws (Nat.le_refl _) (hv0 _ (Ws.property _))) | (go_at_call_of 10 lb; exact Calls.in_ws (Nat.le_refl _) (hv1 _ (Ws.property _)))))
                  refine wpQuiet_nil ?_
                  rintro _ ⟨u, rfl⟩
                  have hu := u.property
                  generalize u.val = wu at hu ⊢
                  clear u a0 a1 a2 a3 a4 a5
                  go_wp2
                  go_meet
                  case rel => exact ⟨by rw [hv.out], hu⟩
                · have hd6 : decide (mb ≥ lb) = true := by simp; omega
                  have hv : Hid (lwrong n vs ls (i + 1) = true) := by show _ = _; rw [hla.out, hra.out, decide_eq_false (by have := e5'.out; omega : ¬ (ma < la ∨ (ma = la ∧ mb < lb)))]; simp
                  refine wp_region_ws w4.heap.size (by kernel_rfl) (by kernel_rfl) ?_
                  repeat (go_big_quiet_step (first | (go_at_call_of 10 la; exact Calls.in_ws (Nat.le_refl _) (hv0 _ (Ws.property _))) | (go_at_call_of 10 lb; exact Calls.in_ws (Nat.le_refl _) (hv1 _ (Ws.property _)))))
                  refine wpQuiet_nil ?_
                  rintro _ ⟨u, rfl⟩
                  have hu := u.property
                  generalize u.val = wu at hu ⊢
                  clear u a0 a1 a2 a3 a4 a5
                  go_wp2
                  go_meet
                  case rel => exact ⟨by rw [hv.out], hu⟩
              · have hd5 : decide (ma = la) = false := decide_eq_false e5
                have hd5' : (ma == la) = false := by simpa using e5
                have hv : Hid (lwrong n vs ls (i + 1) = false) := by show _ = _; rw [hla.out, hra.out, decide_eq_false e1, hd2, hd3, decide_eq_true (.inl (by omega) : ma < la ∨ (ma = la ∧ mb < lb))]; rfl
                refine wp_region_ws w4.heap.size (by kernel_rfl) (by kernel_rfl) ?_
                repeat (go_big_quiet_step (first | (go_at_call_of 10 la; exact Calls.in_ws (Nat.le_refl _) (hv0 _ (Ws.property _))) | (go_at_call_of 10 lb; exact Calls.in_ws (Nat.le_refl _) (hv1 _ (Ws.property _)))))
                refine wpQuiet_nil ?_
                rintro _ ⟨u, rfl⟩
                have hu := u.property
                generalize u.val = wu at hu ⊢
                clear u a0 a1 a2 a3 a4 a5
                go_wp2
                go_meet
                case rel => exact ⟨by rw [hv.out], hu⟩
          case rest =>
            obtain ⟨rfl, hBc⟩ := hcut
            clear a0 a1 a2 a3 hva
            have hfin := hC4.trans (hBc.mono hC4.size)
            clear hC hC4 hBc hp4 hl4
            cases hh : lwrong n vs ls q
            · go_wp2
              go_roundw
              case rel => exact ⟨q + 1, hlt'.out, by go_num, hfin, fun j hj => by
                by_cases hj2 : j < q
                · exact hno.out j hj2
                · obtain rfl : j = q := by omega
                  exact hh⟩
              case measure => simp [intOf]; have := hlt'.out; omega
            · have hv : Hid (chkN n vs ln ls = 1) := chkN_form hfew.out (by rw [links_no hll.out hlt hh]; simp)
              go_wp2
              go_ret
              exact ⟨ret_int hv.out.symm, by first | exact h03.trans (hfin.mono hsz3.out) | (rw [hbk]; exact h03.trans (hfin.mono hsz3.out))⟩
        · obtain rfl : ln = q := by omega
          have hlr : Hid (linksB n vs ln ls = true) := links_yes hll.out hno.out
          obtain ⟨w5, hw5⟩ : ∃ w5, w5 = wr := ⟨_, rfl⟩
          subst hw5
          have h05 : Below bk w w5 := h03.trans (hC.mono hsz3.out)
          have hsz5 : Hid (bk ≤ w5.heap.size) := Nat.le_trans hsz3.out hC.size
          have hp5 := hp3.later hC
          have hl5 := hl3.later hC
          have hrise : Hid (riseVB vs = true) := by
            have := hvr.out
            unfold vpcsB at this
            exact (Bool.and_eq_true_iff.1 this).1
          clear hno hlt hq hC hp3 hl3 s0 s1 h03 hsz3
          go_wp2
          go_loopw [6] (fun i wr => ∃ k : Nat, k ≤ n ∧ i = .int .i64 k ∧ Below w5.heap.size w5 wr ∧ Hid (∀ j, j < n → j < k → ∀ m, m < (grpL ls vs (vnAt vs j).id).length → grpBad ls n vs j m = false)) (fun i _ => n - (intOf i).toNat)
          case atStart => exact ⟨0, by omega, rfl, Below.refl _ _, fun j _ hj => by omega⟩
          case round =>
            obtain ⟨k, hk, rfl, hD, hno⟩ := hrel
            have t0 := cell_later hD r0
            have t1 := cell_later hD r1
            by_cases hlt : k < n
            · have hlt' : Hid (k < n) := hlt
              have hpr := hp5.later hD
              have hlq := hl5.later hD
              obtain ⟨b, o, rfl, c0, c1, c2⟩ := hpr.cells k hlt
              have a0 := Ws.here t0
              have a1 := Ws.here t1
              have a2 := Ws.here c0
              go_upto_region 17 with fail
              clear c0 c1 c2
              refine wp_region_tail wr.heap.size 7 (by kernel_rfl) (by kernel_rfl) ?_
              simp only [List.take_succ_cons, List.take_zero, List.drop_succ_cons, List.drop_zero]
              repeat (go_big_quiet_step (fail))
              refine wpQuiet_nil ?_
              intro uu
              have hu := uu.property
              generalize uu.val = w6 at hu ⊢
              clear uu a0 a1 a2
              have hGo := groupOf_any _ n c vs lx ln lc ls (vnAt vs k).id k w6 (hpr.later hu) (by have := hn6.out; omega) (hlq.later hu) (by have := hl12.out; omega) hrise.out hlr.out hlt rfl
              go_wp2_with fail
              refine hGo.mono ?_
              rintro e w7 ⟨gv, rfl, hI, hb7⟩
              clear hGo
              have hw7 : Below wr.heap.size wr w7 := hu.trans (hb7.mono hu.size)
              have hD7 : Below w5.heap.size w5 w7 := hD.trans (hw7.mono hD.size)
              have hp7 := hpr.later hw7
              have hl7 := hlq.later hw7
              have u0 := cell_later hw7 t0
              have u1 := cell_later hw7 t1
              obtain ⟨gx, gc, rfl, -, -, -, hG⟩ := hI.mem
              have hgn : Hid ((grpL ls vs (vnAt vs k).id).length ≤ 6) := by
                show _ ≤ _
                have h1 : (grpL ls vs (vnAt vs k).id).length ≤ (idsOf vs).length := List.length_filter_le _ _
                have h2 : (idsOf vs).length = vs.length := by simp [idsOf]
                have h3 := hn6.out
                have h4 := hvl.out
                omega
              clear hw7 hI hu hb7 t0 t1 hpr hlq hD
              obtain ⟨gn, hgl⟩ : ∃ gn, Hid (gn = (grpL ls vs (vnAt vs k).id).length) := ⟨_, rfl⟩
              rw [← hgl.out] at hG hgn ⊢
              have hgn6 : gn ≤ 1048576 := by have := hgn.out; omega
              go_wp2
              go_loopw [8] (fun i wr => ∃ q : Nat, q ≤ gn ∧ i = .int .i64 q ∧ Below w7.heap.size w7 wr ∧ Hid (∀ m, m < q → grpBad ls n vs k m = false)) (fun i _ => gn - (intOf i).toNat)
              case atStart => exact ⟨0, by omega, rfl, Below.refl _ _, fun j hj => by omega⟩
              case round =>
                obtain ⟨q, hq, rfl, hE, hnq⟩ := hrel
                have v0 := cell_later hE u0
                have v1 := cell_later hE u1
                by_cases hltq : q < gn
                · have hltq' : Hid (q < gn) := hltq
                  obtain ⟨gb, go', rfl, d0⟩ := (hG.later hE).cells q hltq
                  obtain ⟨j, hj, e1, e2, -⟩ := grp_at (ls := ls) hvl.out hrise.out (id := (vnAt vs k).id) (k := q) (by rw [← hgl.out]; exact hltq)
                  have hpe := hp7.later hE
                  have hle := hl7.later hE
                  obtain ⟨b5, o5, hx5, f0, f1, f2⟩ := hpe.cells j hj
                  simp only [Option.some.injEq, Addr.mk.injEq, and_true] at hx5
                  obtain ⟨rfl, rfl⟩ := hx5
                  obtain ⟨b6, o6, hx6, c0, c1, c2⟩ := hpe.cells k hlt
                  simp only [Option.some.injEq, Addr.mk.injEq, and_true] at hx6
                  obtain ⟨rfl, rfl⟩ := hx6
                  have hfw := vpcs_few hvr.out
                  have hva : ∀ W, Below wr.heap.size wr W → Calls Tryz.prog 10 #[.agg #[.slice (some ⟨b, o, none⟩) n c, .slice lx ln lc], .int .i64 (inAt (grpL ls vs (vnAt vs k).id) q)] W fun e w' => e = .returned (.int .i64 j) ∧ Below W.heap.size W w' := fun W hW => vpcAt_is _ n c vs lx ln lc _ _ e2 W (hpe.later hW) (by have := hn6.out; omega)
                  have hcl : ∀ W, Below wr.heap.size wr W → Calls Tryz.prog 32 #[.agg #[.int .i64 (vnAt vs k).id, .slice (vnAt vs k).rx (vnAt vs k).rn (vnAt vs k).rc, .slice (vnAt vs k).sx (vnAt vs k).sn (vnAt vs k).sc], .agg #[.int .i64 (vnAt vs j).id, .slice (vnAt vs j).rx (vnAt vs j).rn (vnAt vs j).rc, .slice (vnAt vs j).sx (vnAt vs j).sn (vnAt vs j).sc]] W fun e w' => e = .returned (.bool (vmB (vnAt vs k) (vnAt vs j))) ∧ Below W.heap.size W w' := fun W hW => clash_any _ _ W ((hpe.vps k hlt).2.2.2.ranges.later hW) ((hpe.vps j hj).2.2.2.ranges.later hW) (by have := (hfw k hlt).2; omega) (by have := (hfw j hj).2; omega)
                  have hbd : Hid (grpBad ls n vs k q = ((!(inAt (grpL ls vs (vnAt vs k).id) q == (vnAt vs k).id)) && vmB (vnAt vs k) (vnAt vs j))) := by
                    show _ = _
                    unfold grpBad
                    rw [e2, Int.toNat_natCast]
                  have a0 := Ws.here v0
                  have a1 := Ws.here v1
                  have a2 := Ws.here c0
                  have a3 := Ws.here c1
                  have a4 := Ws.here c2
                  have a5 := Ws.here f0
                  have a6 := Ws.here f1
                  have a7 := Ws.here f2
                  have a8 := Ws.here d0
                  have hj0 : (0 : Int) ≤ j := by omega
                  have hjn : (j : Int) < n := by omega
                  go_upto_region 21 with fail
                  clear v0 v1 c0 c1 c2 f0 f1 f2 d0 e1 e2 hfw hpe hle
                  go_cut [173] (fun t wc => t = .bool (grpBad ls n vs k q) ∧ Below wr.heap.size wr wc)
                  case first =>
                    generalize inAt (grpL ls vs (vnAt vs k).id) q = y at *
                    by_cases e5 : y = (vnAt vs k).id
                    · have hn1 : (y == (vnAt vs k).id) = true := by simpa using e5
                      have hn2 : (y != (vnAt vs k).id) = false := by simp [e5]
                      have hn3 : decide (y = (vnAt vs k).id) = true := decide_eq_true e5
                      clear e5
                      have hv : Hid (grpBad ls n vs k q = false) := by show _ = _; rw [hbd.out, hn1]; rfl
                      refine wp_region_ws wr.heap.size (by kernel_rfl) (by kernel_rfl) ?_
                      repeat (go_big_quiet_step (first | (go_at_call 10; exact Calls.in_ws (Nat.le_refl _) (hva _ (Ws.property _))) | (go_at_call 32; exact Calls.in_ws (Nat.le_refl _) (hcl _ (Ws.property _)))))
                      refine wpQuiet_nil ?_
                      rintro _ ⟨u, rfl⟩
                      have hu := u.property
                      generalize u.val = wu at hu ⊢
                      clear u a0 a1 a2 a3 a4 a5 a6 a7 a8
                      go_wp2
                      go_meet
                      case rel => exact ⟨by rw [hv.out], hu⟩
                    · have hn1 : (y == (vnAt vs k).id) = false := by simpa using e5
                      have hn2 : (y != (vnAt vs k).id) = true := by simp [e5]
                      have hn3 : decide (y = (vnAt vs k).id) = false := decide_eq_false e5
                      have hv : Hid (grpBad ls n vs k q = vmB (vnAt vs k) (vnAt vs j)) := by show _ = _; rw [hbd.out, hn1]; rfl
                      refine wp_region_ws wr.heap.size (by kernel_rfl) (by kernel_rfl) ?_
                      repeat (go_big_quiet_step (first | (go_at_call 10; exact Calls.in_ws (Nat.le_refl _) (hva _ (Ws.property _))) | (go_at_call 32; exact Calls.in_ws (Nat.le_refl _) (hcl _ (Ws.property _)))))
                      refine wpQuiet_nil ?_
                      rintro _ ⟨u, rfl⟩
                      have hu := u.property
                      generalize u.val = wu at hu ⊢
                      clear u a0 a1 a2 a3 a4 a5 a6 a7 a8
                      go_wp2
                      go_meet
                      case rel => exact ⟨by rw [hv.out], hu⟩
                  case rest =>
                    obtain ⟨rfl, hBc⟩ := hcut
                    clear a0 a1 a2 a3 a4 a5 a6 a7 a8 hva hcl hbd
                    have hfin := hE.trans (hBc.mono hE.size)
                    clear hE hBc
                    cases hh : grpBad ls n vs k q
                    · go_wp2
                      go_roundw
                      case rel => exact ⟨q + 1, hltq'.out, by go_num, hfin, fun m hm => by
                        by_cases hm2 : m < q
                        · exact hnq.out m hm2
                        · obtain rfl : m = q := by omega
                          exact hh⟩
                      case measure => simp [intOf]; have := hltq'.out; omega
                    · have hv : Hid (chkN n vs ln ls = 1) := chkN_form hfew.out (by rw [ap_no hvl.out hrise.out hlt (by rw [← hgl.out]; exact hltq) hh]; simp)
                      have hfin2 : Below bk w _ := h05.trans ((hD7.trans (hfin.mono hD7.size)).mono hsz5.out)
                      go_wp2
                      go_ret
                      exact ⟨ret_int hv.out.symm, by first | exact hfin2 | (rw [hbk]; exact hfin2)⟩
                · obtain rfl : gn = q := by omega
                  have hfin := hD7.trans (hE.mono hD7.size)
                  go_wp2
                  go_roundw
                  case rel => exact ⟨k + 1, hlt'.out, by go_num, hfin, fun j hjn hj m hm => by
                    by_cases hj2 : j < k
                    · exact hno.out j hjn hj2 m hm
                    · obtain rfl : j = k := by omega
                      exact hnq.out m (by rw [hgl.out]; exact hm)⟩
                  case measure => simp [intOf]; have := hlt'.out; omega
            · obtain rfl : n = k := by omega
              have hv : Hid (chkN n vs ln ls = 0) := chkN_ok hfew.out hvr.out hlr.out (ap_yes hvl.out hrise.out fun i hi m hm => hno.out i hi hi m hm)
              have hfin2 : Below bk w _ := h05.trans (hD.mono hsz5.out)
              go_wp2
              go_ret
              exact ⟨ret_int hv.out.symm, by first | exact hfin2 | (rw [hbk]; exact hfin2)⟩
end Go.Proofs.YtlalgkjollgcbaaGreat
/- What a net that came in is. -/
namespace Go.Proofs.YtlalgkjollgcbaaGreat
open Go.ChangeShapes Go.WideShapes Go.ChangeAt Go.RowKit Go.Joins

theorem cellsRg : Tryz.prog.cellsOf 29 = 3 := by kernel_rfl
theorem cellsFc : Tryz.prog.cellsOf 99 = 2 := by kernel_rfl
theorem cellsSb : Tryz.prog.cellsOf 90 = 4 := by kernel_rfl
theorem cellsVn : Tryz.prog.cellsOf 52 = 3 := by kernel_rfl
theorem cellsLk : Tryz.prog.cellsOf 63 = 2 := by kernel_rfl
theorem cellsNt : Tryz.prog.cellsOf 25 = 2 := by kernel_rfl
theorem cellsIs : Tryz.prog.cellsOf 30 = 1 := by kernel_rfl
theorem cellsRs : Tryz.prog.cellsOf 49 = 1 := by kernel_rfl
theorem cellsFs : Tryz.prog.cellsOf 88 = 1 := by kernel_rfl
theorem cellsSs : Tryz.prog.cellsOf 50 = 1 := by kernel_rfl
def cI (a : Int) : List Value := [.int .i64 a]
def cVz (v : Vn) : List Value := [.int .i64 v.id, .slice v.rx v.rn v.rc, .slice v.sx v.sn v.sc]
def cKz (l : Int × Int) : List Value := [.int .i64 l.1, .int .i64 l.2]
def lkAtz (ls : List (Int × Int)) (i : Nat) : Int × Int := ls.getD i (0, 0)
section
variable {H : Type} {enc : TypeId × Value → H} {w : World}
theorem trod_in {n : Nat} {cs : List Value} {x : DataW H × List MemPlace} (hl : cs.length = 1) (h : DataW.trod enc Tryz.prog w 0 (fun _ => true) true n 3 cs = some x) : ∃ a : Int, cs = cI a := by
  match cs, hl with
  | [v0], _ =>
    obtain ⟨a, e, -⟩ := DataW.trod_int Tryz.underlying3 h
    simp at e
    exact ⟨a, by rw [e]; rfl⟩
set_option maxRecDepth 20000 in
theorem trod_ins {n : Nat} {v : Value} {y : DataW H × List MemPlace} (h : DataW.trod enc Tryz.prog w 0 (fun _ => true) true n 30 [v] = some y) :
    ∃ (x : Option Addr) (k c : Nat) (es : List Int), v = .slice x k c ∧ IS w x k es ∧ k ≤ c ∧ c ≤ 9223372036854775807 := by
  rcases Deep.open_slice Tryz.underlying30 h with ⟨h0, -⟩ | ⟨a, len, cap, m, k, D, Pl, h1, -, hl, hm, hmm, hx, hcell⟩
  · simp at h0
    exact ⟨none, 0, 0, [], h0, ⟨rfl, fun i hi => by omega⟩, by omega, by omega⟩
  · simp at h1
    subst h1
    simp at hmm
    have hmm' := hmm.symm
    subst hmm'
    clear hmm
    have each : ∀ i, i < cap → ∃ q : Int, (∀ j, j < 1 → w.cell? (a.add (i * 1 + j)) = (cI q)[j]?) := fun i hi => by
      obtain ⟨cs', e1, e2⟩ := hcell i hi
      rw [cells3] at e1
      obtain ⟨-, hlen, hc⟩ := World.cells?_some e1
      obtain ⟨q, rfl⟩ := trod_in hlen e2
      exact ⟨q, fun j hj => by
        have := hc j hj
        rw [Deep.add_add] at this
        exact this⟩
    have : Inhabited Int := ⟨0⟩
    obtain ⟨Q, hQ⟩ := Deep.choose_lt each
    have hmax : cap ≤ 9223372036854775807 := by unfold maxLen at hm; omega
    by_cases hn0 : len = 0
    · subst hn0
      exact ⟨some a, 0, cap, [], rfl, ⟨rfl, fun i hi => by omega⟩, by omega, hmax⟩
    · have hsp : a.spot = none := by
        have h0 := hQ 0 (by omega) 0 (by omega)
        have h1 : w.cell? (a.add (0 * 1 + 0)) = some (.int .i64 (Q 0)) := h0
        have := World.cell?_spot h1
        simpa [Addr.add] using this
      obtain ⟨b, o, sp⟩ := a
      simp only at hsp
      subst hsp
      have hat : ∀ i, i < len → inAt ((List.range len).map Q) i = Q i := fun i hi => by unfold inAt; rw [List.getD_eq_getElem?_getD, List.getElem?_map, List.getElem?_range hi]; rfl
      have e : ∀ i, i < len → ∀ j, j < 1 → ∀ u, (cI (Q i))[j]? = some u → w.cell? ⟨b, o + i * 1 + j, none⟩ = some u := fun i hi j hj u hu => by
        have := hQ i (by omega) j hj
        rw [addr_add, hu, ← Nat.add_assoc] at this
        exact this
      refine ⟨some ⟨b, o, none⟩, len, cap, (List.range len).map Q, rfl, ?_, hl, hmax⟩
      exact ⟨by simp, fun i hi => ⟨b, o, rfl, by rw [hat i hi]; have := e i hi 0 (by omega) _ rfl; simpa using this⟩⟩
set_option maxRecDepth 20000 in
theorem trod_fc {n : Nat} {cs : List Value} {x : DataW H × List MemPlace} (hl : cs.length = 2) (h : DataW.trod enc Tryz.prog w 0 (fun _ => true) true n 99 cs = some x) : ∃ f : Fc, cs = cF f ∧ f.n ≤ f.c ∧ f.n ≤ 9223372036854775807 ∧ IS w f.x f.n f.ns := by
  obtain ⟨xs, k, -, -, -, hxl, hf⟩ := DataW.trod_struct Tryz.underlying99 h
  match cs, hl with
  | [v0, v1], _ =>
    have g0 := hf 0 _ rfl
    have g1 := hf 1 _ rfl
    have y : ∀ i, i < 2 → (xs[i]?).isSome = true := fun i hi => some_at hxl hi
    simp [cells3, cellsIs] at g0 g1
    obtain ⟨a0, rfl⟩ := int_of (y 0 (by omega)) g0
    obtain ⟨z1, h1⟩ := Option.isSome_iff_exists.1 (y 1 (by omega))
    rw [h1] at g1
    obtain ⟨lx, ln, lc, ls, rfl, hLS, hlc, hlm⟩ := trod_ins g1
    exact ⟨⟨a0, lx, ln, lc, ls⟩, rfl, hlc, Nat.le_trans hlc hlm, hLS⟩
set_option maxRecDepth 20000 in
theorem trod_fcs {n : Nat} {v : Value} {y : DataW H × List MemPlace} (h : DataW.trod enc Tryz.prog w 0 (fun _ => true) true n 88 [v] = some y) :
    ∃ (x : Option Addr) (k c : Nat) (es : List Fc), v = .slice x k c ∧ FcS w x k es ∧ k ≤ c ∧ c ≤ 9223372036854775807 := by
  rcases Deep.open_slice Tryz.underlying88 h with ⟨h0, -⟩ | ⟨a, len, cap, m, k, D, Pl, h1, -, hl, hm, hmm, hx, hcell⟩
  · simp at h0
    exact ⟨none, 0, 0, [], h0, ⟨rfl, fun i hi => by omega, fun i hi => by omega⟩, by omega, by omega⟩
  · simp at h1
    subst h1
    simp at hmm
    have hmm' := hmm.symm
    subst hmm'
    clear hmm
    have each : ∀ i, i < cap → ∃ q : Fc, (∀ j, j < 2 → w.cell? (a.add (i * 2 + j)) = (cF q)[j]?) ∧ q.n ≤ q.c ∧ q.n ≤ 9223372036854775807 ∧ IS w q.x q.n q.ns := fun i hi => by
      obtain ⟨cs', e1, e2⟩ := hcell i hi
      rw [cellsFc] at e1
      obtain ⟨-, hlen, hc⟩ := World.cells?_some e1
      obtain ⟨q, rfl, hq⟩ := trod_fc hlen e2
      exact ⟨q, fun j hj => by
        have := hc j hj
        rw [Deep.add_add] at this
        exact this, hq⟩
    have : Inhabited Fc := ⟨fcZ⟩
    obtain ⟨Q, hQ⟩ := Deep.choose_lt each
    have hmax : cap ≤ 9223372036854775807 := by unfold maxLen at hm; omega
    by_cases hn0 : len = 0
    · subst hn0
      exact ⟨some a, 0, cap, [], rfl, ⟨rfl, fun i hi => by omega, fun i hi => by omega⟩, by omega, hmax⟩
    · have hsp : a.spot = none := by
        have h0 := (hQ 0 (by omega)).1 0 (by omega)
        have h1 : w.cell? (a.add (0 * 2 + 0)) = some (.int .i64 (Q 0).id) := h0
        have := World.cell?_spot h1
        simpa [Addr.add] using this
      obtain ⟨b, o, sp⟩ := a
      simp only at hsp
      subst hsp
      have hat : ∀ i, i < len → fcAt ((List.range len).map Q) i = Q i := fun i hi => by unfold fcAt; rw [List.getD_eq_getElem?_getD, List.getElem?_map, List.getElem?_range hi]; rfl
      have e : ∀ i, i < len → ∀ j, j < 2 → ∀ u, (cF (Q i))[j]? = some u → w.cell? ⟨b, o + i * 2 + j, none⟩ = some u := fun i hi j hj u hu => by
        have := (hQ i (by omega)).1 j hj
        rw [addr_add, hu, ← Nat.add_assoc] at this
        exact this
      refine ⟨some ⟨b, o, none⟩, len, cap, (List.range len).map Q, rfl, ?_, hl, hmax⟩
      exact ⟨by simp, fun i hi => ⟨b, o, rfl, by rw [hat i hi]; exact ⟨e i hi 0 (by omega) _ rfl, e i hi 1 (by omega) _ rfl⟩⟩, fun i hi => by rw [hat i hi]; exact (hQ i (by omega)).2⟩
set_option maxRecDepth 20000 in
theorem trod_sb {n : Nat} {cs : List Value} {x : DataW H × List MemPlace} (hl : cs.length = 4) (h : DataW.trod enc Tryz.prog w 0 (fun _ => true) true n 90 cs = some x) : ∃ f : Sb, cs = cS f ∧ f.n ≤ f.c ∧ f.n ≤ 9223372036854775807 ∧ FcS w f.x f.n f.fs := by
  obtain ⟨xs, k, -, -, -, hxl, hf⟩ := DataW.trod_struct Tryz.underlying90 h
  match cs, hl with
  | [v0, v1, v2, v3], _ =>
    have g0 := hf 0 _ rfl
    have g1 := hf 1 _ rfl
    have g2 := hf 2 _ rfl
    have y : ∀ i, i < 3 → (xs[i]?).isSome = true := fun i hi => some_at hxl hi
    simp [cells3, cellsP, cellsFs] at g0 g1 g2
    obtain ⟨a0, rfl⟩ := int_of (y 0 (by omega)) g0
    obtain ⟨z1, h1⟩ := Option.isSome_iff_exists.1 (y 1 (by omega))
    obtain ⟨z2, h2⟩ := Option.isSome_iff_exists.1 (y 2 (by omega))
    rw [h1] at g1
    rw [h2] at g2
    obtain ⟨us, k4, -, -, -, hul, hu⟩ := DataW.trod_struct Tryz.underlying27 g1
    have p0 := hu 0 _ rfl
    have p1 := hu 1 _ rfl
    simp [cells3] at p0 p1
    obtain ⟨a1, rfl⟩ := int_of (some_at hul (by decide)) p0
    obtain ⟨a2, rfl⟩ := int_of (some_at hul (by decide)) p1
    obtain ⟨lx, ln, lc, ls, rfl, hLS, hlc, hlm⟩ := trod_fcs g2
    exact ⟨⟨a0, a1, a2, lx, ln, lc, ls⟩, rfl, hlc, Nat.le_trans hlc hlm, hLS⟩
set_option maxRecDepth 20000 in
theorem trod_sbs {n : Nat} {v : Value} {y : DataW H × List MemPlace} (h : DataW.trod enc Tryz.prog w 0 (fun _ => true) true n 50 [v] = some y) :
    ∃ (x : Option Addr) (k c : Nat) (es : List Sb), v = .slice x k c ∧ SS w x k es ∧ k ≤ c ∧ c ≤ 9223372036854775807 := by
  rcases Deep.open_slice Tryz.underlying50 h with ⟨h0, -⟩ | ⟨a, len, cap, m, k, D, Pl, h1, -, hl, hm, hmm, hx, hcell⟩
  · simp at h0
    exact ⟨none, 0, 0, [], h0, ⟨rfl, fun i hi => by omega, fun i hi => by omega⟩, by omega, by omega⟩
  · simp at h1
    subst h1
    simp at hmm
    have hmm' := hmm.symm
    subst hmm'
    clear hmm
    have each : ∀ i, i < cap → ∃ q : Sb, (∀ j, j < 4 → w.cell? (a.add (i * 4 + j)) = (cS q)[j]?) ∧ q.n ≤ q.c ∧ q.n ≤ 9223372036854775807 ∧ FcS w q.x q.n q.fs := fun i hi => by
      obtain ⟨cs', e1, e2⟩ := hcell i hi
      rw [cellsSb] at e1
      obtain ⟨-, hlen, hc⟩ := World.cells?_some e1
      obtain ⟨q, rfl, hq⟩ := trod_sb hlen e2
      exact ⟨q, fun j hj => by
        have := hc j hj
        rw [Deep.add_add] at this
        exact this, hq⟩
    have : Inhabited Sb := ⟨sbZ⟩
    obtain ⟨Q, hQ⟩ := Deep.choose_lt each
    have hmax : cap ≤ 9223372036854775807 := by unfold maxLen at hm; omega
    by_cases hn0 : len = 0
    · subst hn0
      exact ⟨some a, 0, cap, [], rfl, ⟨rfl, fun i hi => by omega, fun i hi => by omega⟩, by omega, hmax⟩
    · have hsp : a.spot = none := by
        have h0 := (hQ 0 (by omega)).1 0 (by omega)
        have h1 : w.cell? (a.add (0 * 4 + 0)) = some (.int .i64 (Q 0).id) := h0
        have := World.cell?_spot h1
        simpa [Addr.add] using this
      obtain ⟨b, o, sp⟩ := a
      simp only at hsp
      subst hsp
      have hat : ∀ i, i < len → sbAt ((List.range len).map Q) i = Q i := fun i hi => by unfold sbAt; rw [List.getD_eq_getElem?_getD, List.getElem?_map, List.getElem?_range hi]; rfl
      have e : ∀ i, i < len → ∀ j, j < 4 → ∀ u, (cS (Q i))[j]? = some u → w.cell? ⟨b, o + i * 4 + j, none⟩ = some u := fun i hi j hj u hu => by
        have := (hQ i (by omega)).1 j hj
        rw [addr_add, hu, ← Nat.add_assoc] at this
        exact this
      refine ⟨some ⟨b, o, none⟩, len, cap, (List.range len).map Q, rfl, ?_, hl, hmax⟩
      exact ⟨by simp, fun i hi => ⟨b, o, rfl, by rw [hat i hi]; exact ⟨e i hi 0 (by omega) _ rfl, e i hi 1 (by omega) _ rfl, e i hi 2 (by omega) _ rfl, e i hi 3 (by omega) _ rfl⟩⟩, fun i hi => by rw [hat i hi]; exact (hQ i (by omega)).2⟩
set_option maxRecDepth 20000 in
theorem trod_rg {n : Nat} {cs : List Value} {x : DataW H × List MemPlace} (hl : cs.length = 3) (h : DataW.trod enc Tryz.prog w 0 (fun _ => true) true n 29 cs = some x) : ∃ c : Rg, cs = cR c := by
  obtain ⟨xs, k, -, -, -, hxl, hf⟩ := DataW.trod_struct Tryz.underlying29 h
  match cs, hl with
  | [v0, v1, v2], _ =>
    have g0 := hf 0 _ rfl
    have g1 := hf 1 _ rfl
    have y : ∀ i, i < 2 → (xs[i]?).isSome = true := fun i hi => some_at hxl hi
    simp [cells3, cellsP] at g0 g1
    obtain ⟨a2, rfl⟩ := int_of (y 1 (by omega)) g1
    obtain ⟨z4, h4⟩ := Option.isSome_iff_exists.1 (y 0 (by omega))
    rw [h4] at g0
    obtain ⟨us, k4, -, -, -, hul, hu⟩ := DataW.trod_struct Tryz.underlying27 g0
    have p0 := hu 0 _ rfl
    have p1 := hu 1 _ rfl
    simp [cells3] at p0 p1
    obtain ⟨a0, rfl⟩ := int_of (some_at hul (by decide)) p0
    obtain ⟨a1, rfl⟩ := int_of (some_at hul (by decide)) p1
    exact ⟨⟨a0, a1, a2⟩, rfl⟩
set_option maxRecDepth 20000 in
theorem trod_rgs {n : Nat} {v : Value} {y : DataW H × List MemPlace} (h : DataW.trod enc Tryz.prog w 0 (fun _ => true) true n 49 [v] = some y) :
    ∃ (x : Option Addr) (k c : Nat) (es : List Rg), v = .slice x k c ∧ RS w x k es ∧ k ≤ c ∧ c ≤ 9223372036854775807 := by
  rcases Deep.open_slice Tryz.underlying49 h with ⟨h0, -⟩ | ⟨a, len, cap, m, k, D, Pl, h1, -, hl, hm, hmm, hx, hcell⟩
  · simp at h0
    exact ⟨none, 0, 0, [], h0, ⟨rfl, fun i hi => by omega⟩, by omega, by omega⟩
  · simp at h1
    subst h1
    simp at hmm
    have hmm' := hmm.symm
    subst hmm'
    clear hmm
    have each : ∀ i, i < cap → ∃ q : Rg, (∀ j, j < 3 → w.cell? (a.add (i * 3 + j)) = (cR q)[j]?) := fun i hi => by
      obtain ⟨cs', e1, e2⟩ := hcell i hi
      rw [cellsRg] at e1
      obtain ⟨-, hlen, hc⟩ := World.cells?_some e1
      obtain ⟨q, rfl⟩ := trod_rg hlen e2
      exact ⟨q, fun j hj => by
        have := hc j hj
        rw [Deep.add_add] at this
        exact this⟩
    have : Inhabited Rg := ⟨rgZ⟩
    obtain ⟨Q, hQ⟩ := Deep.choose_lt each
    have hmax : cap ≤ 9223372036854775807 := by unfold maxLen at hm; omega
    by_cases hn0 : len = 0
    · subst hn0
      exact ⟨some a, 0, cap, [], rfl, ⟨rfl, fun i hi => by omega⟩, by omega, hmax⟩
    · have hsp : a.spot = none := by
        have h0 := hQ 0 (by omega) 0 (by omega)
        have h1 : w.cell? (a.add (0 * 3 + 0)) = some (.int .i64 (Q 0).a) := h0
        have := World.cell?_spot h1
        simpa [Addr.add] using this
      obtain ⟨b, o, sp⟩ := a
      simp only at hsp
      subst hsp
      have hat : ∀ i, i < len → rgAt ((List.range len).map Q) i = Q i := fun i hi => by unfold rgAt; rw [List.getD_eq_getElem?_getD, List.getElem?_map, List.getElem?_range hi]; rfl
      have e : ∀ i, i < len → ∀ j, j < 3 → ∀ u, (cR (Q i))[j]? = some u → w.cell? ⟨b, o + i * 3 + j, none⟩ = some u := fun i hi j hj u hu => by
        have := hQ i (by omega) j hj
        rw [addr_add, hu, ← Nat.add_assoc] at this
        exact this
      refine ⟨some ⟨b, o, none⟩, len, cap, (List.range len).map Q, rfl, ?_, hl, hmax⟩
      exact ⟨by simp, fun i hi => ⟨b, o, rfl, by rw [hat i hi]; exact ⟨e i hi 0 (by omega) _ rfl, e i hi 1 (by omega) _ rfl, e i hi 2 (by omega) _ rfl⟩⟩⟩
set_option maxRecDepth 20000 in
theorem trod_vn {n : Nat} {cs : List Value} {x : DataW H × List MemPlace} (hl : cs.length = 3) (h : DataW.trod enc Tryz.prog w 0 (fun _ => true) true n 52 cs = some x) : ∃ v : Vn, cs = cVz v ∧ v.rn ≤ 9223372036854775807 ∧ v.sn ≤ 9223372036854775807 ∧ v.rc ≤ 9223372036854775807 ∧ Vp w v.rx v.rn v.rc v.rs v.sx v.sn v.sc v.ss := by
  obtain ⟨xs, k, -, -, -, hxl, hf⟩ := DataW.trod_struct Tryz.underlying52 h
  match cs, hl with
  | [v0, v1, v2], _ =>
    have g0 := hf 0 _ rfl
    have g1 := hf 1 _ rfl
    have g2 := hf 2 _ rfl
    have y : ∀ i, i < 3 → (xs[i]?).isSome = true := fun i hi => some_at hxl hi
    simp [cells3, cellsRs, cellsSs] at g0 g1 g2
    obtain ⟨a0, rfl⟩ := int_of (y 0 (by omega)) g0
    obtain ⟨z1, h1⟩ := Option.isSome_iff_exists.1 (y 1 (by omega))
    obtain ⟨z2, h2⟩ := Option.isSome_iff_exists.1 (y 2 (by omega))
    rw [h1] at g1
    rw [h2] at g2
    obtain ⟨rx, rn, rc, rs, rfl, hRS, hrc, hrm⟩ := trod_rgs g1
    obtain ⟨sx, sn, sc, ss, rfl, hSS, hsc, hsm⟩ := trod_sbs g2
    exact ⟨⟨a0, rx, rn, rc, rs, sx, sn, sc, ss⟩, rfl, Nat.le_trans hrc hrm, Nat.le_trans hsc hsm, hrm, ⟨hrc, hsc, hRS, hSS⟩⟩
set_option maxRecDepth 20000 in
theorem trod_vns {n : Nat} {v : Value} {y : DataW H × List MemPlace} (h : DataW.trod enc Tryz.prog w 0 (fun _ => true) true n 22 [v] = some y) :
    ∃ (x : Option Addr) (k c : Nat) (es : List Vn), v = .slice x k c ∧ VS w x k es ∧ k ≤ c ∧ c ≤ 9223372036854775807 := by
  rcases Deep.open_slice Tryz.underlying22 h with ⟨h0, -⟩ | ⟨a, len, cap, m, k, D, Pl, h1, -, hl, hm, hmm, hx, hcell⟩
  · simp at h0
    exact ⟨none, 0, 0, [], h0, ⟨rfl, fun i hi => by omega, fun i hi => by omega⟩, by omega, by omega⟩
  · simp at h1
    subst h1
    simp at hmm
    have hmm' := hmm.symm
    subst hmm'
    clear hmm
    have each : ∀ i, i < cap → ∃ q : Vn, (∀ j, j < 3 → w.cell? (a.add (i * 3 + j)) = (cVz q)[j]?) ∧ q.rn ≤ 9223372036854775807 ∧ q.sn ≤ 9223372036854775807 ∧ q.rc ≤ 9223372036854775807 ∧ Vp w q.rx q.rn q.rc q.rs q.sx q.sn q.sc q.ss := fun i hi => by
      obtain ⟨cs', e1, e2⟩ := hcell i hi
      rw [cellsVn] at e1
      obtain ⟨-, hlen, hc⟩ := World.cells?_some e1
      obtain ⟨q, rfl, hq⟩ := trod_vn hlen e2
      exact ⟨q, fun j hj => by
        have := hc j hj
        rw [Deep.add_add] at this
        exact this, hq⟩
    have : Inhabited Vn := ⟨vnZ⟩
    obtain ⟨Q, hQ⟩ := Deep.choose_lt each
    have hmax : cap ≤ 9223372036854775807 := by unfold maxLen at hm; omega
    by_cases hn0 : len = 0
    · subst hn0
      exact ⟨some a, 0, cap, [], rfl, ⟨rfl, fun i hi => by omega, fun i hi => by omega⟩, by omega, hmax⟩
    · have hsp : a.spot = none := by
        have h0 := (hQ 0 (by omega)).1 0 (by omega)
        have h1 : w.cell? (a.add (0 * 3 + 0)) = some (.int .i64 (Q 0).id) := h0
        have := World.cell?_spot h1
        simpa [Addr.add] using this
      obtain ⟨b, o, sp⟩ := a
      simp only at hsp
      subst hsp
      have hat : ∀ i, i < len → vnAt ((List.range len).map Q) i = Q i := fun i hi => by unfold vnAt; rw [List.getD_eq_getElem?_getD, List.getElem?_map, List.getElem?_range hi]; rfl
      have e : ∀ i, i < len → ∀ j, j < 3 → ∀ u, (cVz (Q i))[j]? = some u → w.cell? ⟨b, o + i * 3 + j, none⟩ = some u := fun i hi j hj u hu => by
        have := (hQ i (by omega)).1 j hj
        rw [addr_add, hu, ← Nat.add_assoc] at this
        exact this
      refine ⟨some ⟨b, o, none⟩, len, cap, (List.range len).map Q, rfl, ?_, hl, hmax⟩
      exact ⟨by simp, fun i hi => ⟨b, o, rfl, by rw [hat i hi]; exact ⟨e i hi 0 (by omega) _ rfl, e i hi 1 (by omega) _ rfl, e i hi 2 (by omega) _ rfl⟩⟩, fun i hi => by rw [hat i hi]; exact (hQ i (by omega)).2⟩
set_option maxRecDepth 20000 in
theorem trod_lk {n : Nat} {cs : List Value} {x : DataW H × List MemPlace} (hl : cs.length = 2) (h : DataW.trod enc Tryz.prog w 0 (fun _ => true) true n 63 cs = some x) : ∃ l : Int × Int, cs = cKz l := by
  obtain ⟨xs, k, -, -, -, hxl, hf⟩ := DataW.trod_struct Tryz.underlying63 h
  match cs, hl with
  | [v0, v1], _ =>
    have g0 := hf 0 _ rfl
    have g1 := hf 1 _ rfl
    have y : ∀ i, i < 2 → (xs[i]?).isSome = true := fun i hi => some_at hxl hi
    simp [cells3] at g0 g1
    obtain ⟨a0, rfl⟩ := int_of (y 0 (by omega)) g0
    obtain ⟨a1, rfl⟩ := int_of (y 1 (by omega)) g1
    exact ⟨(a0, a1), rfl⟩
set_option maxRecDepth 20000 in
theorem trod_lks {n : Nat} {v : Value} {y : DataW H × List MemPlace} (h : DataW.trod enc Tryz.prog w 0 (fun _ => true) true n 23 [v] = some y) :
    ∃ (x : Option Addr) (k c : Nat) (es : List (Int × Int)), v = .slice x k c ∧ PS w x k es ∧ k ≤ c ∧ c ≤ 9223372036854775807 := by
  rcases Deep.open_slice Tryz.underlying23 h with ⟨h0, -⟩ | ⟨a, len, cap, m, k, D, Pl, h1, -, hl, hm, hmm, hx, hcell⟩
  · simp at h0
    exact ⟨none, 0, 0, [], h0, ⟨rfl, fun i hi => by omega⟩, by omega, by omega⟩
  · simp at h1
    subst h1
    simp at hmm
    have hmm' := hmm.symm
    subst hmm'
    clear hmm
    have each : ∀ i, i < cap → ∃ q : (Int × Int), (∀ j, j < 2 → w.cell? (a.add (i * 2 + j)) = (cKz q)[j]?) := fun i hi => by
      obtain ⟨cs', e1, e2⟩ := hcell i hi
      rw [cellsLk] at e1
      obtain ⟨-, hlen, hc⟩ := World.cells?_some e1
      obtain ⟨q, rfl⟩ := trod_lk hlen e2
      exact ⟨q, fun j hj => by
        have := hc j hj
        rw [Deep.add_add] at this
        exact this⟩
    have : Inhabited (Int × Int) := ⟨(0, 0)⟩
    obtain ⟨Q, hQ⟩ := Deep.choose_lt each
    have hmax : cap ≤ 9223372036854775807 := by unfold maxLen at hm; omega
    by_cases hn0 : len = 0
    · subst hn0
      exact ⟨some a, 0, cap, [], rfl, ⟨rfl, fun i hi => by omega⟩, by omega, hmax⟩
    · have hsp : a.spot = none := by
        have h0 := hQ 0 (by omega) 0 (by omega)
        have h1 : w.cell? (a.add (0 * 2 + 0)) = some (.int .i64 (Q 0).1) := h0
        have := World.cell?_spot h1
        simpa [Addr.add] using this
      obtain ⟨b, o, sp⟩ := a
      simp only at hsp
      subst hsp
      have hat : ∀ i, i < len → lkAtz ((List.range len).map Q) i = Q i := fun i hi => by unfold lkAtz; rw [List.getD_eq_getElem?_getD, List.getElem?_map, List.getElem?_range hi]; rfl
      have e : ∀ i, i < len → ∀ j, j < 2 → ∀ u, (cKz (Q i))[j]? = some u → w.cell? ⟨b, o + i * 2 + j, none⟩ = some u := fun i hi j hj u hu => by
        have := hQ i (by omega) j hj
        rw [addr_add, hu, ← Nat.add_assoc] at this
        exact this
      refine ⟨some ⟨b, o, none⟩, len, cap, (List.range len).map Q, rfl, ?_, hl, hmax⟩
      exact ⟨by simp, fun i hi => ⟨b, o, rfl, by rw [show at0 ((List.range len).map Q) i = (Q i).1 from congrArg Prod.fst (hat i hi), show at1 ((List.range len).map Q) i = (Q i).2 from congrArg Prod.snd (hat i hi)]; exact ⟨e i hi 0 (by omega) _ rfl, e i hi 1 (by omega) _ rfl⟩⟩⟩
end
set_option maxRecDepth 100000 in
theorem open_net {H : Type} {enc : TypeId × Value → H} {w : World} {r : Reach} {b0 : Nat} {v : Value} {d : DataW H} {p : List MemPlace}
    (hv : Value.okWide Tryz.prog w r b0 25 v) (h : DataW.Trod enc Tryz.prog w 0 (fun _ => true) true 25 v d p) :
    ∃ (x : Option Addr) (n c : Nat) (vs : List Vn) (lx : Option Addr) (ln lc : Nat) (ls : List (Int × Int)), v = .agg #[.slice x n c, .slice lx ln lc] ∧ VS w x n vs ∧ n ≤ c ∧ c ≤ 9223372036854775807 ∧ PS w lx ln ls ∧ ln ≤ lc ∧ lc ≤ 9223372036854775807 := by
  obtain ⟨c0, c1, y0, y1, m0, rfl, hd, -, hy0, hy1⟩ := open_agg2 Tryz.underlying25 (by kernel_rfl) cellsNt hv h
  obtain ⟨x, n, c, vs, rfl, h1, h2, h3⟩ := trod_vns hy0
  obtain ⟨lx, ln, lc, ls, rfl, h4, h5, h6⟩ := trod_lks hy1
  exact ⟨x, n, c, vs, lx, ln, lc, ls, rfl, h1, h2, h3, h4, h5, h6⟩
end Go.Proofs.YtlalgkjollgcbaaGreat
/- Faces in memory of the call's own; Clone at numbers; faces of package fresh. -/
namespace Go.Proofs.YtlalgkjollgcbaaGreat
open Go.RowKit Go.Shelf

theorem IS.flat_cells {w : World} {ad : Addr} {n : Nat} {es : List Int} (h : IS w (some ad) n es) : ∀ j u, (flatI es)[j]? = some u → w.cell? (ad.add j) = some u := by
  intro j u hj
  have hj2 : j < es.length := by
    by_cases e : j < es.length
    · exact e
    · rw [List.getElem?_eq_none (by rw [flatI_len]; omega)] at hj; cases hj
  rw [flatI_at hj2] at hj
  obtain ⟨b, o, hx, d⟩ := h.cells j (by rw [← h.len]; exact hj2)
  simp only [Option.some.injEq] at hx
  subst hx
  rw [addr_add, d]
  exact hj
set_option maxRecDepth 20000 in
set_option maxHeartbeats 800000 in
theorem cloneI_any (x : Option Addr) (n c : Nat) (es : List Int) (w : World) (hl : IS w x n es) (hn : n ≤ 1048576) :
    Calls Tryz.prog 101 #[.slice x n c] w fun e w' => ∃ v, e = .returned v ∧ OwnI w' w.heap.size v es ∧ Below w.heap.size w w' := by
  have hq := fun W => Lib.run_eql_slice_nil (P := Tryz.prog) W 30 3 x n c 0 0 under_I
  cases x with
  | none =>
    have h0 : n = 0 := by
      rcases Nat.eq_zero_or_pos n with h | h
      · exact h
      · obtain ⟨b, o, h, -⟩ := hl.cells 0 h
        cases h
    obtain rfl : es = [] := List.eq_nil_of_length_eq_zero (by rw [hl.len, h0])
    subst h0
    simp only [Option.isNone_none] at hq
    go_enter Tryz.func101, Tryz.ntmps101
    go_wp2
    go_ret
    exact ⟨_, rfl, World.ownsRow_nil _ _ _ _, Below.refl _ _⟩
  | some ad =>
    simp only [Option.isNone_some] at hq
    have hlen := hl.len
    go_enter Tryz.func101, Tryz.ntmps101
    go_wp2_with (at_builtin; refine Hid.out ?_)
    unfold Hid
    have hO : OwnI (w.alloc (.cells #[] 3)) w.heap.size (.slice (some ⟨w.heap.size, 0, none⟩) 0 0) [] := ⟨rfl, .inr ⟨w.heap.size, 0, #[], rfl, Nat.le_refl _, heap_new _ rfl, by simp, by unfold maxLen; omega, by simp, rfl⟩⟩
    refine wpList_append_I rfl _ _ rfl w.heap.size _ [] rfl hO ad n c es rfl hlen (fun j u hj => cell_later_add (bl1 w _) (hl.flat_cells j u hj)) (by simp; omega) (by simp) ?_
    intro v' w' hO' hg
    have hB := below_grownr (bl1 w _) hg (fun k e => (hO.lt k e).1)
    go_wp2
    go_ret
    exact ⟨_, rfl, hO', hB⟩

/-- The face with another slice of addresses. -/
def withA (f : Fc) (x : Option Addr) (n c : Nat) (ns : List Int) : Fc := ⟨f.id, x, n, c, ns⟩
theorem fcAt_set {fs : List Fc} {i j : Nat} {f : Fc} (hi : i < fs.length) : fcAt (fs.set i f) j = if i = j then f else fcAt fs j := by
  unfold fcAt
  rw [List.getD_eq_getElem?_getD, List.getD_eq_getElem?_getD, List.getElem?_set]
  by_cases h : i = j
  · subst h; rw [if_pos rfl, if_pos rfl, if_pos hi]; rfl
  · rw [if_neg h, if_neg h]
theorem flatF_set (fs : List Fc) (i : Nat) (x : Option Addr) (n c : Nat) (ns : List Int) (hi : i < fs.length) : (flatF fs).set (i * 2 + 1) (.slice x n c) = flatF (fs.set i (withA (fcAt fs i) x n c ns)) := by
  refine List.ext_getElem? fun j => ?_
  by_cases hj : j < fs.length * 2
  · have e : j = (j / 2) * 2 + j % 2 := by omega
    have hq : j / 2 < fs.length := by omega
    rw [e, flatF_at _ _ _ (by rw [List.length_set]; exact hq) (by omega), fcAt_set hi, List.getElem?_set]
    by_cases h1 : i = j / 2
    · rw [if_pos h1]
      by_cases h2 : j % 2 = 1
      · rw [if_pos (by omega), if_pos (by rw [flatF_len]; omega), h2]
        rfl
      · rw [if_neg (by omega), flatF_at _ _ _ hq (by omega), h1]
        have h3 : j % 2 < 1 := by omega
        generalize j % 2 = r at h3
        rcases r with _ | r
        all_goals first | rfl | omega
    · rw [if_neg h1, if_neg (by omega), flatF_at _ _ _ hq (by omega)]
  · rw [List.getElem?_eq_none (by rw [List.length_set, flatF_len]; omega), List.getElem?_eq_none (by rw [flatF_len, List.length_set]; omega)]
theorem OwnF.set {w : World} {base g n cap : Nat} {fs : List Fc} (h : OwnF w base (.slice (some ⟨g, 0, none⟩) n cap) fs) (i : Nat) (hi : i < fs.length) (x : Option Addr) (m c : Nat) (ns : List Int) :
    OwnF (w.setCell ⟨g, i * 2 + 1, none⟩ (.slice x m c)) base (.slice (some ⟨g, 0, none⟩) n cap) (fs.set i (withA (fcAt fs i) x m c ns)) := by
  rcases h.2 with ⟨hv, -⟩ | ⟨g', cap', cur, hv, h1, h2, h3, h4, h5, h6⟩
  · simp at hv
  · simp only [Value.slice.injEq, Option.some.injEq, Addr.mk.injEq] at hv
    obtain ⟨⟨rfl, -⟩, rfl, rfl⟩ := hv
    refine ⟨flatF_len _, .inr ⟨g, cap, cur.setIfInBounds (i * 2 + 1) (.slice x m c), by rw [List.length_set], h1, heap_setCell_same w g _ _ _ _ h2, by rw [List.length_set]; exact h3, h4, by simpa using h5, ?_⟩⟩
    rw [List.length_set, Array.toList_setIfInBounds, List.take_set, h6, flatF_set fs i x m c ns hi]
theorem set_grown (w : World) (g o : Nat) (v : Value) : w.grownBy (w.setCell ⟨g, o, none⟩ v) (some g) := by
  refine ⟨rfl, rfl, rfl, by simp, fun k _ hne => heap_setCell_other _ _ _ _ (fun e => hne (by rw [e]))⟩
theorem OwnF.frozen {w : World} {base g n cap : Nat} {fs : List Fc} (h : OwnF w base (.slice (some ⟨g, 0, none⟩) n cap) fs) (i : Nat) : w.frozen? ⟨g, i, none⟩ = false := by
  rcases h.2 with ⟨hv, -⟩ | ⟨g', cap', cur, hv, h1, h2, -⟩
  · simp at hv
  · simp only [Value.slice.injEq, Option.some.injEq, Addr.mk.injEq] at hv
    obtain ⟨⟨rfl, -⟩, -, rfl⟩ := hv
    simp [World.frozen?, h2]
theorem OwnF.block {w : World} {base g n cap : Nat} {fs : List Fc} (h : OwnF w base (.slice (some ⟨g, 0, none⟩) n cap) fs) : base ≤ g ∧ ∃ cur, w.heap[g]? = some (.cells cur 99) := by
  rcases h.2 with ⟨hv, -⟩ | ⟨g', cap', cur, hv, h1, h2, -⟩
  · simp at hv
  · simp only [Value.slice.injEq, Option.some.injEq, Addr.mk.injEq] at hv
    obtain ⟨⟨rfl, -⟩, -, rfl⟩ := hv
    exact ⟨h1, cur, h2⟩
theorem OwnI.is {w : World} {base n c : Nat} {x : Option Addr} {es : List Int} (h : OwnI w base (.slice x n c) es) : IS w x n es ∧ es.length = n ∧ n ≤ c ∧ c ≤ 9223372036854775807 := by
  obtain ⟨x', c', hv, h1, h2, -, h4⟩ := h.mem
  simp only [Value.slice.injEq] at hv
  obtain ⟨rfl, rfl, rfl⟩ := hv
  exact ⟨h4, rfl, h1, h2⟩
theorem IS.set {w : World} {x : Option Addr} {n g o : Nat} {v : Value} {ns : List Int} (h : IS w x n ns) (hx : ∀ q, x = some q → 0 < n → q.block ≠ g) : IS (w.setCell ⟨g, o, none⟩ v) x n ns where
  len := h.len
  cells := fun i hi => by
    obtain ⟨b, of, he, c0⟩ := h.cells i hi
    exact ⟨b, of, he, (cell_set_ne (hx _ he (by omega))).trans c0⟩
/-- The first k faces have addresses in memory of the call's own; the others have them somewhere. -/
structure OFs (w : World) (base : Nat) (v : Value) (fs : List Fc) (k : Nat) : Prop where
  row : OwnF w base v fs
  own : ∀ i, i < k → OwnI w base (.slice (fcAt fs i).x (fcAt fs i).n (fcAt fs i).c) (fcAt fs i).ns
  rest : ∀ i, k ≤ i → i < fs.length → IS w (fcAt fs i).x (fcAt fs i).n (fcAt fs i).ns ∧ (fcAt fs i).n ≤ (fcAt fs i).c ∧ (fcAt fs i).n ≤ 64 ∧ (∀ q, (fcAt fs i).x = some q → 0 < (fcAt fs i).n → q.block < base)
/-- The same but for where it lies. -/
def sameF (f g : Fc) : Prop := f.id = g.id ∧ f.n = g.n ∧ f.ns = g.ns
def sameFs (fs gs : List Fc) : Prop := fs.length = gs.length ∧ ∀ i, i < fs.length → sameF (fcAt fs i) (fcAt gs i)
theorem sameF.refl (f : Fc) : sameF f f := ⟨rfl, rfl, rfl⟩
theorem sameFs.refl (fs : List Fc) : sameFs fs fs := ⟨rfl, fun _ _ => sameF.refl _⟩
theorem OFs.later {w w' : World} {base : Nat} {v : Value} {fs : List Fc} {k : Nat} (h : OFs w base v fs k) (hb : Below w.heap.size w w') : OFs w' base v fs k :=
  ⟨h.row.later hb, fun i hi => (h.own i hi).later hb, fun i hi hi2 => by
    obtain ⟨g1, g2⟩ := h.rest i hi hi2
    exact ⟨g1.later hb, g2⟩⟩
theorem OFs.low {w : World} {base base' : Nat} {v : Value} {fs : List Fc} (h : OFs w base v fs fs.length) (hb : base' ≤ base) : OFs w base' v fs fs.length :=
  ⟨h.row.low hb, fun i hi => (h.own i hi).low hb, fun i hi hi2 => by omega⟩
/-- A change elsewhere. -/
theorem OFs.kept {w w' : World} {base g : Nat} {v : Value} {fs : List Fc} (h : OFs w base v fs fs.length) (hg : w.grownBy w' (some g)) (hr : ∀ k, v.ownBlock = some k → k ≠ g) (ho : ∀ i, i < fs.length → ∀ k, (Value.slice (fcAt fs i).x (fcAt fs i).n (fcAt fs i).c).ownBlock = some k → k ≠ g) : OFs w' base v fs fs.length :=
  ⟨h.row.kept hg hr, fun i hi => (h.own i hi).kept hg (ho i hi), fun i hi hi2 => by omega⟩
theorem OFs.start {w w' : World} {base : Nat} {x : Option Addr} {n : Nat} {v : Value} {fs : List Fc} (hk : FcS w x n fs) (hm : ∀ i, i < n → (fcAt fs i).n ≤ 64) (hb : Below w.heap.size w w') (h : OwnF w' base v fs) (hw2 : w.heap.size ≤ base) : OFs w' base v fs 0 where
  row := h
  own := fun i hi => by omega
  rest := fun i _ hi => by
    have hin : i < n := by rw [← hk.len]; exact hi
    obtain ⟨g1, g2, g3⟩ := hk.addrs i hin
    refine ⟨g3.later hb, g1, hm i hin, fun q hq h0 => ?_⟩
    obtain ⟨b, o, hx, c0⟩ := g3.cells 0 h0
    rw [hq] at hx
    cases hx
    exact Nat.lt_of_lt_of_le (block_lt_of_cell c0) hw2
theorem OFs.step {W W1 : World} {base g n cap : Nat} {fs : List Fc} {k : Nat} {x' : Option Addr} {c' : Nat} (h : OFs W base (.slice (some ⟨g, 0, none⟩) n cap) fs k) (hk : k < fs.length) (hb : Below W.heap.size W W1) (ho : OwnI W1 W.heap.size (.slice x' (fcAt fs k).ns.length c') (fcAt fs k).ns) (hwb : base ≤ W.heap.size) :
    OFs (W1.setCell ⟨g, k * 2 + 1, none⟩ (.slice x' (fcAt fs k).ns.length c')) base (.slice (some ⟨g, 0, none⟩) n cap) (fs.set k (withA (fcAt fs k) x' (fcAt fs k).ns.length c' (fcAt fs k).ns)) (k + 1) := by
  have hr := h.row.later hb
  obtain ⟨hbg, cur, hg⟩ := hr.block
  have hall : ∀ i, i < k + 1 → OwnI W1 base (.slice (fcAt (fs.set k (withA (fcAt fs k) x' (fcAt fs k).ns.length c' (fcAt fs k).ns)) i).x (fcAt (fs.set k (withA (fcAt fs k) x' (fcAt fs k).ns.length c' (fcAt fs k).ns)) i).n (fcAt (fs.set k (withA (fcAt fs k) x' (fcAt fs k).ns.length c' (fcAt fs k).ns)) i).c) (fcAt (fs.set k (withA (fcAt fs k) x' (fcAt fs k).ns.length c' (fcAt fs k).ns)) i).ns := fun i hi => by
    rw [fcAt_set hk]
    by_cases e : k = i
    · rw [if_pos e]; exact ho.low hwb
    · rw [if_neg e]; exact (h.own i (by omega)).later hb
  refine ⟨hr.set k hk x' _ c' _, fun i hi => (hall i hi).kept (set_grown _ _ _ _) (fun q hq e => by subst e; exact (hall i hi).ne hg (by decide) hq), fun i hi hi2 => ?_⟩
  rw [List.length_set] at hi2
  rw [fcAt_set hk, if_neg (by omega)]
  obtain ⟨g1, g2, g3, g4⟩ := h.rest i (by omega) hi2
  exact ⟨(g1.later hb).set (fun q hq h0 => by have := g4 q hq h0; omega), g2, g3, g4⟩
theorem sameFs.set {fs gs : List Fc} {k : Nat} {x : Option Addr} {c : Nat} (h : sameFs fs gs) (hk : k < gs.length) (hn : (fcAt gs k).ns.length = (fcAt gs k).n) : sameFs fs (gs.set k (withA (fcAt gs k) x (fcAt gs k).ns.length c (fcAt gs k).ns)) := by
  refine ⟨by rw [List.length_set]; exact h.1, fun i hi => ?_⟩
  have hs := h.2 i hi
  rw [fcAt_set hk]
  by_cases e : k = i
  · subst e
    rw [if_pos rfl]
    obtain ⟨a1, a2, a3⟩ := hs
    exact ⟨a1, a2.trans hn.symm, a3⟩
  · rw [if_neg e]; exact hs

set_option maxRecDepth 100000 in
set_option maxHeartbeats 3200000 in
theorem freshFaces_any (x : Option Addr) (n c : Nat) (fs : List Fc) (w : World) (hp : FcS w x n fs) (hn : n ≤ 64) (hm : ∀ i, i < n → (fcAt fs i).n ≤ 64) :
    Calls Tryz.prog 79 #[.slice x n c] w fun e w' => ∃ v gs, e = .returned v ∧ sameFs fs gs ∧ OFs w' w.heap.size v gs gs.length ∧ Below w.heap.size w w' := by
  have hfl : Hid (fs.length = n) := hp.len
  go_enter Tryz.func79, Tryz.ntmps79
  go_wp2_with fail
  refine (cloneF_any x n c fs w hp (by omega)).mono ?_
  rintro e w1 ⟨v, rfl, hO, hb1⟩
  have hk0 : OFs w1 w.heap.size v fs 0 := OFs.start hp hm hb1 hO (Nat.le_refl _)
  obtain ⟨xv, cv, rfl, hv1, hv2, hv3, hv4⟩ := hO.mem
  go_wp2
  go_loopw [9] (fun i wr => ∃ (q : Nat) (gs : List Fc), q ≤ fs.length ∧ i = .int .i64 q ∧ sameFs fs gs ∧ OFs wr w.heap.size (.slice xv fs.length cv) gs q ∧ Below w.heap.size w wr) (fun i _ => fs.length - (intOf i).toNat)
  case atStart => exact ⟨0, fs, by omega, rfl, sameFs.refl _, hk0, hb1⟩
  case round =>
    obtain ⟨q, gs, hq, rfl, hs, hQ, hBr⟩ := hrel
    by_cases hlt : q < fs.length
    · have hlq : q < gs.length := by rw [← hs.1]; exact hlt
      have hlt' : Hid (q < fs.length) := hlt
      obtain ⟨x2, c2, he2, -, -, -, hm2⟩ := hQ.row.mem
      simp only [Value.slice.injEq] at he2
      obtain ⟨rfl, -, rfl⟩ := he2
      obtain ⟨b2, o2, he3, -, c1⟩ := hm2 q hlq
      rcases hQ.row.2 with ⟨hv, -⟩ | ⟨g, cap, cur, hv, hg1, hg2, -⟩
      · rw [he3] at hv; simp at hv
      simp only [Value.slice.injEq] at hv
      obtain ⟨hx3, -, rfl⟩ := hv
      rw [hx3] at he3
      simp only [Option.some.injEq, Addr.mk.injEq] at he3
      obtain ⟨rfl, rfl, -⟩ := he3
      subst hx3
      obtain ⟨hIS, hnc, hn64, -⟩ := hQ.rest q (Nat.le_refl _) hlq
      have hbs : Hid (w.heap.size ≤ wr.heap.size) := hBr.size
      have c1' : wr.cell? ⟨g, q * 2 + 1, none⟩ = some (.slice (fcAt gs q).x (fcAt gs q).n (fcAt gs q).c) := by simpa using c1
      clear c1
      go_wp2_with fail
      refine (cloneI_any (fcAt gs q).x (fcAt gs q).n (fcAt gs q).c (fcAt gs q).ns wr hIS (by omega)).mono ?_
      rintro e w2 ⟨v1, rfl, hO1, hb2⟩
      obtain ⟨x1, c1, rfl, -⟩ := hO1.mem
      have d1 := cell_later_add hb2 c1'
      have df : w2.frozen? ⟨g, q * 2 + 1, none⟩ = false := (hQ.row.later hb2).frozen _
      have hst := hQ.step (x' := x1) (c' := c1) hlq hb2 hO1 hbs.out
      have hB3 := (hBr.trans (hb2.mono hBr.size)).setCell (p := ⟨g, q * 2 + 1, none⟩) hg1 (.slice x1 (fcAt gs q).ns.length c1)
      have hs' := hs.set (x := x1) (c := c1) hlq hIS.len
      clear c1' hO1
      go_wp2
      go_roundw
      case rel => exact ⟨q + 1, _, hlt'.out, by go_num, hs', hst, hB3⟩
      case measure => simp [intOf]; have := hlt'.out; omega
    · obtain rfl : q = fs.length := by omega
      go_wp2
      go_ret
      exact ⟨_, gs, rfl, hs, by rw [← hs.1]; exact hQ, hBr⟩
end Go.Proofs.YtlalgkjollgcbaaGreat
/- Subnets in memory of the call's own. -/
namespace Go.Proofs.YtlalgkjollgcbaaGreat
open Go.RowKit Go.Shelf

/-- The subnet with another slice of faces. -/
def withF (s : Sb) (x : Option Addr) (n c : Nat) (fs : List Fc) : Sb := ⟨s.id, s.a, s.l, x, n, c, fs⟩
theorem sbAt_set {ss : List Sb} {i j : Nat} {f : Sb} (hi : i < ss.length) : sbAt (ss.set i f) j = if i = j then f else sbAt ss j := by
  unfold sbAt
  rw [List.getD_eq_getElem?_getD, List.getD_eq_getElem?_getD, List.getElem?_set]
  by_cases h : i = j
  · subst h; rw [if_pos rfl, if_pos rfl, if_pos hi]; rfl
  · rw [if_neg h, if_neg h]
theorem flatS_set (ss : List Sb) (i : Nat) (x : Option Addr) (n c : Nat) (fs : List Fc) (hi : i < ss.length) : (flatS ss).set (i * 4 + 3) (.slice x n c) = flatS (ss.set i (withF (sbAt ss i) x n c fs)) := by
  refine List.ext_getElem? fun j => ?_
  by_cases hj : j < ss.length * 4
  · have e : j = (j / 4) * 4 + j % 4 := by omega
    have hq : j / 4 < ss.length := by omega
    rw [e, flatS_at _ _ _ (by rw [List.length_set]; exact hq) (by omega), sbAt_set hi, List.getElem?_set]
    by_cases h1 : i = j / 4
    · rw [if_pos h1]
      by_cases h2 : j % 4 = 3
      · rw [if_pos (by omega), if_pos (by rw [flatS_len]; omega), h2]
        rfl
      · rw [if_neg (by omega), flatS_at _ _ _ hq (by omega), h1]
        have h3 : j % 4 < 3 := by omega
        generalize j % 4 = r at h3
        rcases r with _ | _ | _ | r
        all_goals first | rfl | omega
    · rw [if_neg h1, if_neg (by omega), flatS_at _ _ _ hq (by omega)]
  · rw [List.getElem?_eq_none (by rw [List.length_set, flatS_len]; omega), List.getElem?_eq_none (by rw [flatS_len, List.length_set]; omega)]
theorem OwnS.set {w : World} {base g n cap : Nat} {ss : List Sb} (h : OwnS w base (.slice (some ⟨g, 0, none⟩) n cap) ss) (i : Nat) (hi : i < ss.length) (x : Option Addr) (m c : Nat) (fs : List Fc) :
    OwnS (w.setCell ⟨g, i * 4 + 3, none⟩ (.slice x m c)) base (.slice (some ⟨g, 0, none⟩) n cap) (ss.set i (withF (sbAt ss i) x m c fs)) := by
  rcases h.2 with ⟨hv, -⟩ | ⟨g', cap', cur, hv, h1, h2, h3, h4, h5, h6⟩
  · simp at hv
  · simp only [Value.slice.injEq, Option.some.injEq, Addr.mk.injEq] at hv
    obtain ⟨⟨rfl, -⟩, rfl, rfl⟩ := hv
    refine ⟨flatS_len _, .inr ⟨g, cap, cur.setIfInBounds (i * 4 + 3) (.slice x m c), by rw [List.length_set], h1, heap_setCell_same w g _ _ _ _ h2, by rw [List.length_set]; exact h3, h4, by simpa using h5, ?_⟩⟩
    rw [List.length_set, Array.toList_setIfInBounds, List.take_set, h6, flatS_set ss i x m c fs hi]
theorem OwnS.frozen {w : World} {base g n cap : Nat} {ss : List Sb} (h : OwnS w base (.slice (some ⟨g, 0, none⟩) n cap) ss) (i : Nat) : w.frozen? ⟨g, i, none⟩ = false := by
  rcases h.2 with ⟨hv, -⟩ | ⟨g', cap', cur, hv, h1, h2, -⟩
  · simp at hv
  · simp only [Value.slice.injEq, Option.some.injEq, Addr.mk.injEq] at hv
    obtain ⟨⟨rfl, -⟩, -, rfl⟩ := hv
    simp [World.frozen?, h2]
theorem OwnS.block {w : World} {base g n cap : Nat} {ss : List Sb} (h : OwnS w base (.slice (some ⟨g, 0, none⟩) n cap) ss) : base ≤ g ∧ ∃ cur, w.heap[g]? = some (.cells cur 90) := by
  rcases h.2 with ⟨hv, -⟩ | ⟨g', cap', cur, hv, h1, h2, -⟩
  · simp at hv
  · simp only [Value.slice.injEq, Option.some.injEq, Addr.mk.injEq] at hv
    obtain ⟨⟨rfl, -⟩, -, rfl⟩ := hv
    exact ⟨h1, cur, h2⟩
/-- The first k subnets have faces in memory of the call's own, each its own. -/
structure OSs (w : World) (base : Nat) (v : Value) (ss : List Sb) (k : Nat) : Prop where
  row : OwnS w base v ss
  own : ∀ i, i < k → OFs w base (.slice (sbAt ss i).x (sbAt ss i).n (sbAt ss i).c) (sbAt ss i).fs (sbAt ss i).fs.length
  apart : ∀ i j, i < k → j < k → i ≠ j → ∀ b, (Value.slice (sbAt ss i).x (sbAt ss i).n (sbAt ss i).c).ownBlock = some b → (Value.slice (sbAt ss j).x (sbAt ss j).n (sbAt ss j).c).ownBlock ≠ some b
/-- The same but for where it lies. -/
def sameS (s t : Sb) : Prop := s.id = t.id ∧ s.a = t.a ∧ s.l = t.l ∧ s.n = t.n ∧ sameFs s.fs t.fs
def sameSs (ss ts : List Sb) : Prop := ss.length = ts.length ∧ ∀ i, i < ss.length → sameS (sbAt ss i) (sbAt ts i)
theorem sameS.refl (s : Sb) : sameS s s := ⟨rfl, rfl, rfl, rfl, sameFs.refl _⟩
theorem sameSs.refl (ss : List Sb) : sameSs ss ss := ⟨rfl, fun _ _ => sameS.refl _⟩
theorem OSs.later {w w' : World} {base : Nat} {v : Value} {ss : List Sb} {k : Nat} (h : OSs w base v ss k) (hb : Below w.heap.size w w') : OSs w' base v ss k :=
  ⟨h.row.later hb, fun i hi => (h.own i hi).later hb, h.apart⟩
theorem OSs.low {w : World} {base base' : Nat} {v : Value} {ss : List Sb} {k : Nat} (h : OSs w base v ss k) (hb : base' ≤ base) : OSs w base' v ss k :=
  ⟨h.row.low hb, fun i hi => (h.own i hi).low hb, h.apart⟩
/-- A row of faces and its addresses stay when a block of another kind changes. -/
theorem OFs.kept_of {w w' : World} {base g : Nat} {v : Value} {fs : List Fc} {cur : Array Value} {t : TypeId} (h : OFs w base v fs fs.length) (hg : w.grownBy w' (some g)) (hb : w.heap[g]? = some (.cells cur t)) (h1 : t ≠ 99) (h2 : t ≠ 3) : OFs w' base v fs fs.length :=
  h.kept hg (fun _ hk e => by subst e; exact h.row.ne hb h1 hk) (fun i hi _ hk e => by subst e; exact (h.own i hi).ne hb h2 hk)
theorem OSs.step {W W1 : World} {base g n cap : Nat} {ss : List Sb} {k : Nat} {x' : Option Addr} {c' : Nat} {gs : List Fc} (h : OSs W base (.slice (some ⟨g, 0, none⟩) n cap) ss k) (hk : k < ss.length) (hb : Below W.heap.size W W1) (ho : OFs W1 W.heap.size (.slice x' gs.length c') gs gs.length) (hwb : base ≤ W.heap.size) :
    OSs (W1.setCell ⟨g, k * 4 + 3, none⟩ (.slice x' gs.length c')) base (.slice (some ⟨g, 0, none⟩) n cap) (ss.set k (withF (sbAt ss k) x' gs.length c' gs)) (k + 1) := by
  have hr := h.row.later hb
  obtain ⟨hbg, cur, hg⟩ := hr.block
  refine ⟨hr.set k hk x' _ c' _, fun i hi => ?_, fun i j hi hj hij b hbi hbj => ?_⟩
  · rw [sbAt_set hk]
    by_cases e : k = i
    · rw [if_pos e]
      exact (ho.low hwb).kept_of (set_grown _ _ _ _) hg (by decide) (by decide)
    · rw [if_neg e]
      exact ((h.own i (by omega)).later hb).kept_of (set_grown _ _ _ _) hg (by decide) (by decide)
  · rw [sbAt_set hk] at hbi hbj
    by_cases e : k = i
    · rw [if_pos e] at hbi
      rw [if_neg (by omega)] at hbj
      have h1 := ho.row.lt b hbi
      have h2 := (h.own j (by omega)).row.lt b hbj
      omega
    · rw [if_neg e] at hbi
      by_cases e2 : k = j
      · rw [if_pos e2] at hbj
        have h1 := ho.row.lt b hbj
        have h2 := (h.own i (by omega)).row.lt b hbi
        omega
      · rw [if_neg e2] at hbj
        exact h.apart i j (by omega) (by omega) hij b hbi hbj
theorem OFs.fcs {w : World} {base : Nat} {x : Option Addr} {n c : Nat} {fs : List Fc} (h : OFs w base (.slice x n c) fs fs.length) : FcS w x n fs ∧ fs.length = n ∧ n ≤ c ∧ c ≤ 9223372036854775807 := by
  obtain ⟨x', c', hv, h1, h2, -, h4⟩ := h.row.mem
  simp only [Value.slice.injEq] at hv
  obtain ⟨rfl, rfl, rfl⟩ := hv
  refine ⟨⟨rfl, h4, fun i hi => ?_⟩, rfl, h1, h2⟩
  obtain ⟨g1, g2, g3, g4⟩ := (h.own i hi).is
  exact ⟨g3, Nat.le_trans g3 g4, g1⟩
theorem OSs.subs {w : World} {base : Nat} {v : Value} {ss : List Sb} (h : OSs w base v ss ss.length) : ∃ x c, v = .slice x ss.length c ∧ SS w x ss.length ss ∧ ss.length ≤ c ∧ c ≤ 9223372036854775807 := by
  obtain ⟨x, c, hv, h1, h2, -, h4⟩ := h.row.mem
  refine ⟨x, c, hv, ⟨rfl, h4, fun i hi => ?_⟩, h1, h2⟩
  obtain ⟨g1, g2, g3, g4⟩ := (h.own i hi).fcs
  exact ⟨g3, Nat.le_trans g3 g4, g1⟩
theorem OwnR.rs {w : World} {base : Nat} {v : Value} {rs : List Rg} (h : OwnR w base v rs) : ∃ x c, v = .slice x rs.length c ∧ RS w x rs.length rs ∧ rs.length ≤ c ∧ c ≤ 9223372036854775807 := by
  obtain ⟨x, c, hv, h1, h2, -, h4⟩ := h.mem
  exact ⟨x, c, hv, ⟨rfl, h4⟩, h1, h2⟩
theorem sameFs.trans {a b c : List Fc} (h1 : sameFs a b) (h2 : sameFs b c) : sameFs a c :=
  ⟨h1.1.trans h2.1, fun i hi => by
    obtain ⟨p1, p2, p3⟩ := h1.2 i hi
    obtain ⟨q1, q2, q3⟩ := h2.2 i (by rw [← h1.1]; exact hi)
    exact ⟨p1.trans q1, p2.trans q2, p3.trans q3⟩⟩
theorem sameSs.set {ss ts : List Sb} {k : Nat} {x : Option Addr} {c : Nat} {gs : List Fc} (h : sameSs ss ts) (hk : k < ts.length) (hg : sameFs (sbAt ts k).fs gs) (hn : (sbAt ts k).fs.length = (sbAt ts k).n) : sameSs ss (ts.set k (withF (sbAt ts k) x gs.length c gs)) := by
  refine ⟨by rw [List.length_set]; exact h.1, fun i hi => ?_⟩
  have hs := h.2 i hi
  rw [sbAt_set hk]
  by_cases e : k = i
  · subst e
    rw [if_pos rfl]
    obtain ⟨a1, a2, a3, a4, a5⟩ := hs
    exact ⟨a1, a2, a3, by rw [a4, ← hn]; exact hg.1, a5.trans hg⟩
  · rw [if_neg e]; exact hs
end Go.Proofs.YtlalgkjollgcbaaGreat
/- Vpc of package fresh. -/
namespace Go.Proofs.YtlalgkjollgcbaaGreat
open Go.RowKit Go.Shelf

abbrev vpB (vid : Int) (vR vS : Value) : Obj := .cells #[.int .i64 vid, vR, vS] 52
theorem vpB_set {V : World} {b : Nat} {t t' : Int} {v v' u u' : Value} (h : V.heap[b]? = some (vpB t v u)) : (((V.setCell ⟨b, 0, none⟩ (.int .i64 t')).setCell ⟨b, 1, none⟩ v').setCell ⟨b, 2, none⟩ u').heap[b]? = some (vpB t' v' u') := by
  have h1 := heap_setCell_same V b 0 _ 52 (.int .i64 t') h
  have h2 := heap_setCell_same _ b 1 _ 52 v' h1
  have h3 := heap_setCell_same _ b 2 _ 52 u' h2
  simpa using h3
/-- What comes is the same, in memory of the call's own. -/
def FvPost (vid : Int) (rs : List Rg) (ss : List Sb) (w : World) (e : Ending) (w' : World) : Prop :=
  ∃ vR vS ts, e = .returned (.agg #[.int .i64 vid, vR, vS]) ∧ OwnR w' w.heap.size vR rs ∧ sameSs ss ts ∧ OSs w' w.heap.size vS ts ts.length ∧ Below w.heap.size w w'
theorem OwnR.put {w : World} {base b o : Nat} {u v : Value} {rs : List Rg} (h : OwnR w base v rs) (hb : b < base) : OwnR (w.setCell ⟨b, o, none⟩ u) base v rs :=
  h.kept (set_grown _ _ _ _) (fun k hk => by have := h.lt k hk; omega)
theorem OSs.put {w : World} {base b o : Nat} {u v : Value} {ss : List Sb} (h : OSs w base v ss ss.length) (hb : b < base) : OSs (w.setCell ⟨b, o, none⟩ u) base v ss ss.length :=
  ⟨h.row.kept (set_grown _ _ _ _) (fun k hk => by have := h.row.lt k hk; omega), fun i hi => (h.own i hi).kept (set_grown _ _ _ _) (fun k hk => by have := (h.own i hi).row.lt k hk; omega) (fun j hj k hk => by have := ((h.own i hi).own j hj).lt k hk; omega), h.apart⟩

theorem vp_after {w0 w1 : World} {v : Value} {rs : List Rg} (hb : Below (w0.alloc (vpB 0 (.slice none 0 0) (.slice none 0 0))).heap.size (w0.alloc (vpB 0 (.slice none 0 0) (.slice none 0 0))) w1) (hO : OwnR w1 (w0.alloc (vpB 0 (.slice none 0 0) (.slice none 0 0))).heap.size v rs) : Below w0.heap.size w0 w1 ∧ w1.heap[w0.heap.size]? = some (vpB 0 (.slice none 0 0) (.slice none 0 0)) ∧ OwnR w1 w0.heap.size v rs :=
  ⟨(bl1 w0 _).trans (hb.mono (by simp)), heap_later hb (heap_new _ rfl), hO.low (by simp)⟩
theorem vs_after {w0 w1 : World} {v : Value} {ss : List Sb} (hb : Below (w0.alloc (vpB 0 (.slice none 0 0) (.slice none 0 0))).heap.size (w0.alloc (vpB 0 (.slice none 0 0) (.slice none 0 0))) w1) (hO : OwnS w1 (w0.alloc (vpB 0 (.slice none 0 0) (.slice none 0 0))).heap.size v ss) : Below w0.heap.size w0 w1 ∧ w1.heap[w0.heap.size]? = some (vpB 0 (.slice none 0 0) (.slice none 0 0)) ∧ OwnS w1 w0.heap.size v ss :=
  ⟨(bl1 w0 _).trans (hb.mono (by simp)), heap_later hb (heap_new _ rfl), hO.low (by simp)⟩

theorem vp_put {w0 w2 : World} {b : Nat} {vid : Int} {vR vS : Value} {rs : List Rg} {ss : List Sb} (hy : w2.heap[b]? = some (vpB 0 (.slice none 0 0) (.slice none 0 0))) (hb : w0.heap.size ≤ b) (hO1 : OwnR w2 w0.heap.size vR rs) (hO2 : OwnS w2 w0.heap.size vS ss) (hB : Below w0.heap.size w0 w2) :
    OwnR (((w2.setCell ⟨b, 0, none⟩ (.int .i64 vid)).setCell ⟨b, 1, none⟩ vR).setCell ⟨b, 2, none⟩ vS) w0.heap.size vR rs ∧ OwnS (((w2.setCell ⟨b, 0, none⟩ (.int .i64 vid)).setCell ⟨b, 1, none⟩ vR).setCell ⟨b, 2, none⟩ vS) w0.heap.size vS ss ∧ (((w2.setCell ⟨b, 0, none⟩ (.int .i64 vid)).setCell ⟨b, 1, none⟩ vR).setCell ⟨b, 2, none⟩ vS).heap[b]? = some (vpB vid vR vS) ∧ Below w0.heap.size w0 (((w2.setCell ⟨b, 0, none⟩ (.int .i64 vid)).setCell ⟨b, 1, none⟩ vR).setCell ⟨b, 2, none⟩ vS) := by
  have n1 : ∀ k, vR.ownBlock = some k → k ≠ b := fun k hk e => by subst e; exact hO1.ne hy (by decide) hk
  have n2 : ∀ k, vS.ownBlock = some k → k ≠ b := fun k hk e => by subst e; exact hO2.ne hy (by decide) hk
  exact ⟨((hO1.kept (set_grown _ _ _ _) n1).kept (set_grown _ _ _ _) n1).kept (set_grown _ _ _ _) n1, ((hO2.kept (set_grown _ _ _ _) n2).kept (set_grown _ _ _ _) n2).kept (set_grown _ _ _ _) n2, vpB_set hy, ((hB.setCell hb _).setCell hb _).setCell hb _⟩

set_option maxRecDepth 100000 in
set_option maxHeartbeats 3200000 in
theorem freshVpc_any (vid : Int) (rx : Option Addr) (rn rc : Nat) (rs : List Rg) (sx : Option Addr) (sn sc : Nat) (ss : List Sb) (w : World) (hv : Vp w rx rn rc rs sx sn sc ss) (hrn : rn ≤ 64) (hsn : sn ≤ 64) (hm : ∀ i, i < sn → (sbAt ss i).n ≤ 64) (hm2 : ∀ i, i < sn → ∀ j, j < (sbAt ss i).n → (fcAt (sbAt ss i).fs j).n ≤ 64) :
    Calls Tryz.prog 51 #[.agg #[.int .i64 vid, .slice rx rn rc, .slice sx sn sc]] w (FvPost vid rs ss w) := by
  have hsl : Hid (ss.length = sn) := hv.subs.len
  go_enter Tryz.func51, Tryz.ntmps51
  go_upto_region 1 with fail
  obtain ⟨w0, hw0⟩ : ∃ w0, w0 = (w.alloc (vpB vid (.slice rx rn rc) (.slice sx sn sc))).alloc (vpB 0 (.slice none 0 0) (.slice none 0 0)) := ⟨_, rfl⟩
  rw [← hw0]
  have hB0 : Below w.heap.size w w0 := by rw [hw0]; exact bl2 w _ _
  have hb0 : w0.heap[w.heap.size]? = some (vpB vid (.slice rx rn rc) (.slice sx sn sc)) := by rw [hw0]; exact heap_old _ (heap_new _ rfl)
  have hr0 : w0.heap[w.heap.size + 1]? = some (vpB 0 (.slice none 0 0) (.slice none 0 0)) := by rw [hw0]; exact heap_new _ (by simp)
  clear hw0
  have hsz : w.heap.size + 1 < w0.heap.size := (Array.getElem?_eq_some_iff.1 hr0).1
  obtain ⟨kb, -⟩ := box_cells hb0
  have k0 : w0.cell? ⟨w.heap.size, 0, none⟩ = some (.int .i64 vid) := kb 0
  have k1 : w0.cell? ⟨w.heap.size, 1, none⟩ = some (.slice rx rn rc) := kb 1
  have k2 : w0.cell? ⟨w.heap.size, 2, none⟩ = some (.slice sx sn sc) := kb 2
  clear kb
  have hv0 := hv.later hB0
  have hclR := fun W h => cloneR_any rx rn rc rs W h (by omega)
  have hclS := fun W h => cloneS_any sx sn sc ss W h (by omega)
  go_cut [3] (fun p wc => ∃ nb vR vS, p = .pointer (some ⟨nb, 0, none⟩) ∧ w0.heap.size ≤ nb ∧ OwnR wc w0.heap.size vR rs ∧ OwnS wc w0.heap.size vS ss ∧ wc.heap[nb]? = some (vpB vid vR vS) ∧ Below w0.heap.size w0 wc)
  case first =>
    go_region_held3 (fun w' => w'.cell? ⟨w.heap.size, 0, none⟩ = some (.int .i64 vid) ∧ w'.cell? ⟨w.heap.size, 1, none⟩ = some (.slice rx rn rc) ∧ w'.cell? ⟨w.heap.size, 2, none⟩ = some (.slice sx sn sc)) (first | (go_keep; done) | (exact ⟨by assumption, by assumption, by assumption⟩) | (exact ⟨cell_later_add (bl1 _ _) (by assumption), cell_later_add (bl1 _ _) (by assumption), cell_later_add (bl1 _ _) (by assumption)⟩) | (refine ⟨?_, ?_, ?_⟩ <;> (show World.cell? _ _ = _; (repeat rw [cell_set_ne (by omega)]); assumption))) (first | (go_at_call 77; refine (hclR (w0.alloc (vpB 0 (.slice none 0 0) (.slice none 0 0))).drew (hv0.ranges.later (bl1 w0 _).drew)).mono ?_; rintro e w1 ⟨v1, rfl, hO1, hb1⟩; obtain ⟨x1, c1, rfl, -⟩ := hO1.mem; obtain ⟨hbb1, hx, hO1a⟩ := vp_after (w0 := w0) ⟨hb1.os, hb1.tape, hb1.output, hb1.size, hb1.block⟩ hO1; have m0 := cell_later_add hbb1 k0; have m1 := cell_later_add hbb1 k1; have m2 := cell_later_add hbb1 k2; have hvs := hv0.subs.later hbb1) | (go_at_call 77; refine (hclR _ (by first | exact hv0.ranges | exact hv0.ranges.later (Below.refl _ _).drew)).mono ?_; rintro e w1 ⟨v1, rfl, hO1, hb1⟩; obtain ⟨x1, c1, rfl, -⟩ := hO1.mem; have hbb1 : Below w0.heap.size w0 w1 := ⟨hb1.os, hb1.tape, hb1.output, hb1.size, hb1.block⟩; have m0 := cell_later_add hbb1 k0; have m1 := cell_later_add hbb1 k1; have m2 := cell_later_add hbb1 k2; have hvs := hv0.subs.later hbb1) | (go_at_call 78; refine (hclS (w1.alloc (vpB 0 (.slice none 0 0) (.slice none 0 0))) (hvs.later (bl1 w1 _))).mono ?_; rintro e w2 ⟨v2, rfl, hO2, hb2⟩; obtain ⟨x2, c2, rfl, -⟩ := hO2.mem; obtain ⟨hb12, hy, hO2a⟩ := vs_after (w0 := w1) hb2 hO2; have hbb2 := hbb1.trans (hb12.mono hbb1.size); have n0 := cell_later_add hb12 m0; have n1 := cell_later_add hb12 m1; have n2 := cell_later_add hb12 m2; have hO1' := OwnR.later hO1 hb12; have hz1 := hbb1.size; have hz2 := hb12.size; have q0 : w2.cell? ⟨w1.heap.size, 0, none⟩ = some (.int .i64 0) := (box_cells hy).1 0; have q1 : w2.cell? ⟨w1.heap.size, 1, none⟩ = some (.slice none 0 0) := (box_cells hy).1 1; have q2 : w2.cell? ⟨w1.heap.size, 2, none⟩ = some (.slice none 0 0) := (box_cells hy).1 2; have f0 : w2.frozen? ⟨w1.heap.size, 0, none⟩ = false := (box_cells hy).2 0; have f1 : w2.frozen? ⟨w1.heap.size, 1, none⟩ = false := (box_cells hy).2 1; have f2 : w2.frozen? ⟨w1.heap.size, 2, none⟩ = false := (box_cells hy).2 2) | (go_at_call 78; refine (hclS w1 hvs).mono ?_; rintro e w2 ⟨v2, rfl, hO2, hb2⟩; obtain ⟨x2, c2, rfl, -⟩ := hO2.mem; have hb12 : Below w1.heap.size w1 w2 := hb2; have hbb2 := hbb1.trans (hb12.mono hbb1.size); have n0 := cell_later_add hb12 m0; have n1 := cell_later_add hb12 m1; have n2 := cell_later_add hb12 m2; have hO1' := OwnR.later hO1 hb12; have hz1 := hbb1.size; have hz2 := hb12.size; try (have hy : w2.heap[w0.heap.size]? = some (vpB 0 (.slice none 0 0) (.slice none 0 0)) := heap_later hb12 hx; have q0 : w2.cell? ⟨w0.heap.size, 0, none⟩ = some (.int .i64 0) := (box_cells hy).1 0; have q1 : w2.cell? ⟨w0.heap.size, 1, none⟩ = some (.slice none 0 0) := (box_cells hy).1 1; have q2 : w2.cell? ⟨w0.heap.size, 2, none⟩ = some (.slice none 0 0) := (box_cells hy).1 2; have f0 : w2.frozen? ⟨w0.heap.size, 0, none⟩ = false := (box_cells hy).2 0; have f1 : w2.frozen? ⟨w0.heap.size, 1, none⟩ = false := (box_cells hy).2 1; have f2 : w2.frozen? ⟨w0.heap.size, 2, none⟩ = false := (box_cells hy).2 2)) | fail)
    all_goals go_wp2
    all_goals go_meet
    case rel => exact ⟨_, _, _, rfl, Nat.le_trans hz1 hz2, OwnR.later hO1' (bl1 _ _), (hO2.low hz1).later (bl1 _ _), heap_new _ rfl, Below.alloc hbb2 hbb2.size _⟩
    case rel => exact ⟨_, _, _, rfl, hz1, vp_put hy hz1 hO1' (hO2a.low hz1) hbb2⟩
    case rel => exact ⟨_, _, _, rfl, Nat.le_refl _, vp_put hy (Nat.le_refl _) (hO1a.later hb12) (hO2.low hz1) hbb2⟩
  case rest =>
    obtain ⟨nb, vR, vS, rfl, hnb, hOR, hOS, hbx, hBc⟩ := hcut
    have hk0 : OSs wc w0.heap.size vS ss 0 := ⟨hOS, fun i hi => by omega, fun i j hi => by omega⟩
    obtain ⟨xr, cr, rfl, -⟩ := hOR.mem
    obtain ⟨xv, cv, rfl, -⟩ := hOS.mem
    have e1 : wc.cell? ⟨nb, 2, none⟩ = some (.slice xv ss.length cv) := (box_cells hbx).1 2
    go_wp2
    clear e1
    go_loopw [17] (fun i wr => ∃ (q : Nat) (ts : List Sb), q ≤ ss.length ∧ i = .int .i64 q ∧ sameSs ss ts ∧ (∀ i, q ≤ i → sbAt ts i = sbAt ss i) ∧ OSs wr w0.heap.size (.slice xv ss.length cv) ts q ∧ OwnR wr w0.heap.size (.slice xr rs.length cr) rs ∧ wr.heap[nb]? = some (vpB vid (.slice xr rs.length cr) (.slice xv ss.length cv)) ∧ Below w0.heap.size w0 wr) (fun i _ => ss.length - (intOf i).toNat)
    case atStart => exact ⟨0, ss, by omega, rfl, sameSs.refl _, fun _ _ => rfl, hk0, hOR, hbx, hBc⟩
    case round =>
      obtain ⟨q, ts, hq, rfl, hs, htl, hQ, hR, hbr, hBr⟩ := hrel
      have e0 : wr.cell? ⟨nb, 0, none⟩ = some (.int .i64 vid) := (box_cells hbr).1 0
      have e1 : wr.cell? ⟨nb, 1, none⟩ = some (.slice xr rs.length cr) := (box_cells hbr).1 1
      have e2 : wr.cell? ⟨nb, 2, none⟩ = some (.slice xv ss.length cv) := (box_cells hbr).1 2
      by_cases hlt : q < ss.length
      · have hlq : q < ts.length := by rw [← hs.1]; exact hlt
        have hlt' := hlt
        have hqs : q < sn := by rw [← hsl.out]; exact hlt
        obtain ⟨x2, c2, he2, -, -, -, hm'⟩ := hQ.row.mem
        simp only [Value.slice.injEq] at he2
        obtain ⟨rfl, -, rfl⟩ := he2
        obtain ⟨b2, o2, he3, -, -, -, c8⟩ := hm' q hlq
        rcases hQ.row.2 with ⟨hv', -⟩ | ⟨g, cap, cur, hv', hg1, hg2, -⟩
        · rw [he3] at hv'; simp at hv'
        simp only [Value.slice.injEq] at hv'
        obtain ⟨hx3, -, rfl⟩ := hv'
        rw [hx3] at he3
        simp only [Option.some.injEq, Addr.mk.injEq] at he3
        obtain ⟨rfl, rfl, -⟩ := he3
        subst hx3
        obtain ⟨hnc, -, hF⟩ := (hv0.subs.later hBr).faces q hqs
        have hm64 := hm q hqs
        have hm264 := hm2 q hqs
        rw [← htl q (Nat.le_refl _)] at hnc hF hm64 hm264
        have htl' : Hid (∀ i, q ≤ i → sbAt ts i = sbAt ss i) := htl
        clear htl
        have hcl := fun W h => freshFaces_any (sbAt ts q).x (sbAt ts q).n (sbAt ts q).c (sbAt ts q).fs W h hm64 hm264
        go_wp2_with fail
        have c8' : wr.cell? ⟨g, q * 4 + 3, none⟩ = some (.slice (sbAt ts q).x (sbAt ts q).n (sbAt ts q).c) := by simpa using c8
        have hne : nb ≠ g := fun e => by rw [e] at hbr; rw [hbr] at hg2; simp at hg2
        go_region_with (first | (go_at_call 79; refine (hcl _ (by first | exact hF | exact hF.later (Below.refl _ _).drew)).mono ?_; rintro e w1 ⟨v1, gs, rfl, hsg, hO1, hb1⟩; obtain ⟨x1, c1, rfl, -⟩ := hO1.row.mem; have hb2 : Below wr.heap.size wr w1 := ⟨hb1.os, hb1.tape, hb1.output, hb1.size, hb1.block⟩; have d1 := cell_later_add hb2 e2; have d8 := cell_later_add hb2 c8'; have df : w1.frozen? ⟨g, q * 4 + 3, none⟩ = false := (hQ.row.later hb2).frozen _) | fail)
        all_goals have hst := hQ.step (x' := x1) (c' := c1) (gs := gs) hlq hb2 hO1 hBr.size
        all_goals have hh : (w1.setCell ⟨g, q * 4 + 3, none⟩ (.slice x1 gs.length c1)).heap[nb]? = some (vpB vid (.slice xr rs.length cr) (.slice (some ⟨g, 0, none⟩) ss.length cv)) := (heap_setCell_other _ _ _ _ hne).trans (heap_later hb2 hbr)
        all_goals have hB3 := (hBr.trans (hb2.mono hBr.size)).setCell (p := ⟨g, q * 4 + 3, none⟩) hg1 (.slice x1 gs.length c1)
        all_goals have hRn : OwnR (w1.setCell ⟨g, q * 4 + 3, none⟩ (.slice x1 gs.length c1)) w0.heap.size (.slice xr rs.length cr) rs := (hR.later hb2).kept (set_grown _ _ _ _) (fun k hk e => by subst e; exact hR.ne hg2 (by decide) hk)
        all_goals have hss : ∀ i, q + 1 ≤ i → sbAt (ts.set q (withF (sbAt ts q) x1 gs.length c1 gs)) i = sbAt ss i := fun i hi => by rw [sbAt_set hlq, if_neg (by omega)]; exact htl'.out i (by omega)
        all_goals have hsame := hs.set (x := x1) (c := c1) hlq hsg hF.len
        all_goals clear d1 d8 df
        all_goals go_wp2
        all_goals go_roundw
        all_goals first | exact ⟨q + 1, _, hlt', by go_num, hsame, hss, hst, hRn, hh, hB3⟩ | (simp [intOf]; omega)
      · obtain rfl : q = ss.length := by omega
        have hrr : wr.heap[w.heap.size + 1]? = some (vpB 0 (.slice none 0 0) (.slice none 0 0)) := (hBr.block _ hsz).trans hr0
        have r0 : wr.cell? ⟨w.heap.size + 1, 0, none⟩ = some (.int .i64 0) := (box_cells hrr).1 0
        have r1 : wr.cell? ⟨w.heap.size + 1, 1, none⟩ = some (.slice none 0 0) := (box_cells hrr).1 1
        have r2 : wr.cell? ⟨w.heap.size + 1, 2, none⟩ = some (.slice none 0 0) := (box_cells hrr).1 2
        have z0 := (box_cells hrr).2 0
        have z1 := (box_cells hrr).2 1
        have z2 := (box_cells hrr).2 2
        go_wp2
        refine bodyPost_ret (v := .agg #[.int .i64 vid, .slice xr rs.length cr, .slice xv ss.length cv]) (by simp [results, Tryz.results51, go_sem, r0, r1, r2]) rfl ?_
        have hQ2 : OSs wr w0.heap.size (.slice xv ss.length cv) ts ts.length := by rw [← hs.1]; exact hQ
        exact ⟨_, _, ts, rfl, (((hR.put hsz).put hsz).put hsz).low hB0.size, hs, (((hQ2.put hsz).put hsz).put hsz).low hB0.size, (((hB0.trans (hBr.mono hB0.size)).setCell (by simp) _).setCell (by simp) _).setCell (by simp) _⟩
end Go.Proofs.YtlalgkjollgcbaaGreat
/- subPlace, facePlace, given's parts of package vpc. -/
namespace Go.Proofs.YtlalgkjollgcbaaGreat
open Go.RowKit Go.Shelf

/-- The first place below n where f holds, or -1. -/
def fstAt (n : Nat) (f : Nat → Bool) : Int := match (List.range n).find? f with | some i => i | none => -1
theorem fstAt_yes {n i : Nat} {f : Nat → Bool} (hi : i < n) (h : f i = true) (hno : ∀ j, j < i → f j = false) : fstAt n f = i := by
  unfold fstAt
  have : (List.range n).find? f = some i := by
    rw [List.find?_range_eq_some]
    exact ⟨h, by simpa using hi, fun j hj => by simp [hno j hj]⟩
  rw [this]
theorem fstAt_no {n : Nat} {f : Nat → Bool} (hno : ∀ j, j < n → f j = false) : fstAt n f = -1 := by
  unfold fstAt
  have : (List.range n).find? f = none := by
    rw [List.find?_eq_none]
    intro j hj
    simp [hno j (by simpa using hj)]
  rw [this]
theorem fstAt_cases (n : Nat) (f : Nat → Bool) : (∃ i : Nat, i < n ∧ f i = true ∧ (∀ j, j < i → f j = false) ∧ fstAt n f = i) ∨ ((∀ j, j < n → f j = false) ∧ fstAt n f = -1) := by
  cases h : (List.range n).find? f with
  | none =>
    refine .inr ⟨fun j hj => ?_, by unfold fstAt; rw [h]⟩
    have := List.find?_eq_none.1 h j (by simpa using hj)
    simpa using this
  | some i =>
    obtain ⟨h1, h2, h3⟩ := List.find?_range_eq_some.1 h
    exact .inl ⟨i, by simpa using h2, h1, fun j hj => by simpa using h3 j hj, by unfold fstAt; rw [h]⟩
theorem fstAt_of {n : Nat} {f : Nat → Bool} {r : Int} (h : (∃ i : Nat, i < n ∧ f i = true ∧ (∀ j, j < i → f j = false) ∧ r = i) ∨ ((∀ j, j < n → f j = false) ∧ r = -1)) : r = fstAt n f := by
  rcases h with ⟨i, hi, hf, hno, rfl⟩ | ⟨hno, rfl⟩
  · exact (fstAt_yes hi hf hno).symm
  · exact (fstAt_no hno).symm

end Go.Proofs.YtlalgkjollgcbaaGreat
/- Grow of package vpc. -/
namespace Go.Proofs.YtlalgkjollgcbaaGreat
open Go.RowKit Go.Shelf

/-- A network in memory, by its numbers. -/
def NV (w : World) (vid : Int) (v : Value) (rs : List Rg) (ss : List Sb) : Prop :=
  ∃ rx rc sx sc, v = .agg #[.int .i64 vid, .slice rx rs.length rc, .slice sx ss.length sc] ∧ Vp w rx rs.length rc rs sx ss.length sc ss ∧ rc ≤ 9223372036854775807 ∧ sc ≤ 9223372036854775807
theorem NV.later {w w' : World} {vid : Int} {v : Value} {rs : List Rg} {ss : List Sb} (h : NV w vid v rs ss) (hb : Below w.heap.size w w') : NV w' vid v rs ss := by
  obtain ⟨rx, rc, sx, sc, h1, h2, h3⟩ := h
  exact ⟨rx, rc, sx, sc, h1, h2.later hb, h3⟩
theorem NV.of {w : World} {base base' : Nat} {vid : Int} {vR vS : Value} {rs : List Rg} {ss : List Sb} (hR : OwnR w base vR rs) (hS : OSs w base' vS ss ss.length) : NV w vid (.agg #[.int .i64 vid, vR, vS]) rs ss := by
  obtain ⟨rx, rc, rfl, h1, h2, h3⟩ := hR.rs
  obtain ⟨sx, sc, rfl, g1, g2, g3⟩ := hS.subs
  exact ⟨rx, rc, sx, sc, rfl, ⟨h2, g2, h1, g1⟩, h3, g3⟩
theorem OwnR.putBox {w : World} {base b o : Nat} {u v : Value} {rs : List Rg} {cs : Array Value} {t : TypeId} (h : OwnR w base v rs) (hb : w.heap[b]? = some (.cells cs t)) (h1 : t ≠ 29) : OwnR (w.setCell ⟨b, o, none⟩ u) base v rs :=
  h.kept (set_grown _ _ _ _) (fun k hk e => by subst e; exact h.ne hb h1 hk)
theorem OSs.putBox {w : World} {base b o : Nat} {u v : Value} {ss : List Sb} {cs : Array Value} {t : TypeId} (h : OSs w base v ss ss.length) (hb : w.heap[b]? = some (.cells cs t)) (h1 : t ≠ 90) (h2 : t ≠ 99) (h3 : t ≠ 3) : OSs (w.setCell ⟨b, o, none⟩ u) base v ss ss.length :=
  ⟨h.row.kept (set_grown _ _ _ _) (fun k hk e => by subst e; exact h.row.ne hb h1 hk), fun i hi => (h.own i hi).kept_of (set_grown _ _ _ _) hb h2 h3, h.apart⟩
/-- The range stands ahead of the first one that begins higher. -/
def PutRg (e : Rg) (qs rs : List Rg) : Prop := ∃ i, i ≤ qs.length ∧ (∀ j, j < i → ¬ e.a < (rgAt qs j).a) ∧ (i < qs.length → e.a < (rgAt qs i).a) ∧ rs = qs.take i ++ [e] ++ qs.drop i
def growE (vid : Int) (rn : Nat) (rs : List Rg) (sn : Nat) (ss : List Sb) (r : Rg) : Int :=
  if chkV vid rn rs sn ss ≠ 0 then chkV vid rn rs sn ss else if rgB r = false then 1 else if anyAt rn (rmB rs r.a r.l) = true then 6 else if rn = 4 then 2 else 0
def GrowPost (vid : Int) (rn : Nat) (rs : List Rg) (sn : Nat) (ss : List Sb) (r : Rg) (w : World) (e : Ending) (w' : World) : Prop :=
  ∃ V, e = .returned (.tuple #[V, .int .i64 (growE vid rn rs sn ss r)]) ∧ Below w.heap.size w w' ∧ (growE vid rn rs sn ss r ≠ 0 → V = .agg #[.int .i64 0, .slice none 0 0, .slice none 0 0]) ∧
    (growE vid rn rs sn ss r = 0 → ∃ rs' ss', NV w' vid V rs' ss' ∧ PutRg r rs rs' ∧ sameSs ss ss')
theorem GrowPost.err {vid : Int} {rn : Nat} {rs : List Rg} {sn : Nat} {ss : List Sb} {r : Rg} {E : Int} {w w' : World} (hE : growE vid rn rs sn ss r = E ∧ E ≠ 0) (hb : Below w.heap.size w w') :
    GrowPost vid rn rs sn ss r w (.returned (.tuple #[.agg #[.int .i64 0, .slice none 0 0, .slice none 0 0], .int .i64 E])) w' :=
  ⟨_, by rw [hE.1], hb, fun _ => rfl, fun h => absurd (hE.1.symm.trans h) hE.2⟩
structure TG (w W : World) (vid : Int) (vR vS : Value) (r : Rg) : Prop where
  hb : W.heap[w.heap.size]? = some (vpB vid vR vS)
  hp : W.heap[w.heap.size + 1]? = some (.cells #[.int .i64 r.a, .int .i64 r.l, .int .i64 r.p] 29)
  hs : W.heap[w.heap.size + 2]? = some (vpB 0 (.slice none 0 0) (.slice none 0 0))
  below : Below w.heap.size w W
theorem TG.later {w W W' : World} {vid : Int} {vR vS : Value} {r : Rg} (h : TG w W vid vR vS r) (hb : Below W.heap.size W W') : TG w W' vid vR vS r :=
  ⟨heap_later hb h.hb, heap_later hb h.hp, heap_later hb h.hs, h.below.trans (hb.mono h.below.size)⟩
theorem chkV_few {vid : Int} {rn : Nat} {rs : List Rg} {sn : Nat} {ss : List Sb} (h : chkV vid rn rs sn ss = 0) : rn ≤ 4 ∧ sn ≤ 6 ∧ (∀ i, i < sn → (sbAt ss i).n ≤ 8) ∧ ∀ i, i < sn → ∀ j, j < (sbAt ss i).n → (fcAt (sbAt ss i).fs j).n ≤ 4 := by
  unfold chkV at h
  cases hm : vmanyB rn sn ss
  · exact few hm
  · rw [hm] at h; simp at h

set_option maxRecDepth 100000 in
set_option maxHeartbeats 3200000 in
theorem vgrow_any (vid : Int) (rx : Option Addr) (rn rc : Nat) (rs : List Rg) (sx : Option Addr) (sn sc : Nat) (ss : List Sb) (r : Rg) (w : World) (hv : Vp w rx rn rc rs sx sn sc ss) (hrn : rn ≤ 9223372036854775807) (hsn : sn ≤ 9223372036854775807) (hrc : rc ≤ 9223372036854775807) :
    Calls Tryz.prog 29 #[.agg #[.int .i64 vid, .slice rx rn rc, .slice sx sn sc], .agg #[.int .i64 r.a, .int .i64 r.l, .int .i64 r.p]] w (GrowPost vid rn rs sn ss r w) := by
  have hrl : Hid (rs.length = rn) := hv.ranges.len
  have hsl : Hid (ss.length = sn) := hv.subs.len
  go_enter Tryz.func29, Tryz.ntmps29
  go_upto_region 1 with fail
  obtain ⟨w0, hw0⟩ : ∃ w0, w0 = ((w.alloc (vpB vid (.slice rx rn rc) (.slice sx sn sc))).alloc (.cells #[.int .i64 r.a, .int .i64 r.l, .int .i64 r.p] 29)).alloc (vpB 0 (.slice none 0 0) (.slice none 0 0)) := ⟨_, rfl⟩
  rw [← hw0]
  have hT0 : TG w w0 vid (.slice rx rn rc) (.slice sx sn sc) r := by
    rw [hw0]
    exact ⟨heap_old _ (heap_old _ (heap_new _ rfl)), heap_old _ (heap_new _ (by simp)), heap_new _ (by simp), (bl2 w _ _).alloc (by simp; omega) _⟩
  clear hw0
  have b0 : w0.cell? ⟨w.heap.size, 0, none⟩ = some (.int .i64 vid) := (box_cells hT0.hb).1 0
  have b1 : w0.cell? ⟨w.heap.size, 1, none⟩ = some (.slice rx rn rc) := (box_cells hT0.hb).1 1
  have b2 : w0.cell? ⟨w.heap.size, 2, none⟩ = some (.slice sx sn sc) := (box_cells hT0.hb).1 2
  have p0 : w0.cell? ⟨w.heap.size + 1, 0, none⟩ = some (.int .i64 r.a) := (box_cells hT0.hp).1 0
  have p1 : w0.cell? ⟨w.heap.size + 1, 1, none⟩ = some (.int .i64 r.l) := (box_cells hT0.hp).1 1
  have p2 : w0.cell? ⟨w.heap.size + 1, 2, none⟩ = some (.int .i64 r.p) := (box_cells hT0.hp).1 2
  have s0 : w0.cell? ⟨w.heap.size + 2, 0, none⟩ = some (.int .i64 0) := (box_cells hT0.hs).1 0
  have s1 : w0.cell? ⟨w.heap.size + 2, 1, none⟩ = some (.slice none 0 0) := (box_cells hT0.hs).1 1
  have s2 : w0.cell? ⟨w.heap.size + 2, 2, none⟩ = some (.slice none 0 0) := (box_cells hT0.hs).1 2
  have zs0 : w0.frozen? ⟨w.heap.size + 2, 0, none⟩ = false := (box_cells hT0.hs).2 0
  have zs1 : w0.frozen? ⟨w.heap.size + 2, 1, none⟩ = false := (box_cells hT0.hs).2 1
  have zs2 : w0.frozen? ⟨w.heap.size + 2, 2, none⟩ = false := (box_cells hT0.hs).2 2
  have hck := checkV_any vid rx rn rc rs sx sn sc ss w0 (hv.later hT0.below) hrn hsn hrc
  by_cases hc0 : chkV vid rn rs sn ss = 0
  · rw [hc0] at hck
    obtain ⟨f1, f2, f3, f4⟩ := chkV_few hc0
    have hE1 : Hid (growE vid rn rs sn ss r = if rgB r = false then 1 else if anyAt rn (rmB rs r.a r.l) = true then 6 else if rn = 4 then 2 else 0) := if_neg (c := chkV vid rn rs sn ss ≠ 0) (by simp [hc0])
    clear hc0
    go_wp2_with fail
    refine (hck).mono ?_
    rintro e w1 ⟨rfl, hbw1⟩
    have hT1 := hT0.later hbw1
    clear b0 b1 b2 p0 p1 p2 s0 s1 s2 zs0 zs1 zs2
    have b0 : w1.cell? ⟨w.heap.size, 0, none⟩ = some (.int .i64 vid) := (box_cells hT1.hb).1 0
    have b1 : w1.cell? ⟨w.heap.size, 1, none⟩ = some (.slice rx rn rc) := (box_cells hT1.hb).1 1
    have b2 : w1.cell? ⟨w.heap.size, 2, none⟩ = some (.slice sx sn sc) := (box_cells hT1.hb).1 2
    have p0 : w1.cell? ⟨w.heap.size + 1, 0, none⟩ = some (.int .i64 r.a) := (box_cells hT1.hp).1 0
    have p1 : w1.cell? ⟨w.heap.size + 1, 1, none⟩ = some (.int .i64 r.l) := (box_cells hT1.hp).1 1
    have p2 : w1.cell? ⟨w.heap.size + 1, 2, none⟩ = some (.int .i64 r.p) := (box_cells hT1.hp).1 2
    have s0 : w1.cell? ⟨w.heap.size + 2, 0, none⟩ = some (.int .i64 0) := (box_cells hT1.hs).1 0
    have s1 : w1.cell? ⟨w.heap.size + 2, 1, none⟩ = some (.slice none 0 0) := (box_cells hT1.hs).1 1
    have s2 : w1.cell? ⟨w.heap.size + 2, 2, none⟩ = some (.slice none 0 0) := (box_cells hT1.hs).1 2
    have zs0 : w1.frozen? ⟨w.heap.size + 2, 0, none⟩ = false := (box_cells hT1.hs).2 0
    have zs1 : w1.frozen? ⟨w.heap.size + 2, 1, none⟩ = false := (box_cells hT1.hs).2 1
    have zs2 : w1.frozen? ⟨w.heap.size + 2, 2, none⟩ = false := (box_cells hT1.hs).2 2
    cases hrg : rgB r with
    | false =>
      have hne : growE vid rn rs sn ss r = 1 ∧ (1 : Int) ≠ 0 := ⟨hE1.out.trans (if_pos hrg), by decide⟩
      go_wp2_with fail
      refine (rangeRight_is r false hrg w1).mono ?_
      rintro e w2 ⟨rfl, hbw2⟩
      have hT2 := hT1.later hbw2
      clear b0 b1 b2 p0 p1 p2 s0 s1 s2 zs0 zs1 zs2
      have b0 : w2.cell? ⟨w.heap.size, 0, none⟩ = some (.int .i64 vid) := (box_cells hT2.hb).1 0
      have b1 : w2.cell? ⟨w.heap.size, 1, none⟩ = some (.slice rx rn rc) := (box_cells hT2.hb).1 1
      have b2 : w2.cell? ⟨w.heap.size, 2, none⟩ = some (.slice sx sn sc) := (box_cells hT2.hb).1 2
      have p0 : w2.cell? ⟨w.heap.size + 1, 0, none⟩ = some (.int .i64 r.a) := (box_cells hT2.hp).1 0
      have p1 : w2.cell? ⟨w.heap.size + 1, 1, none⟩ = some (.int .i64 r.l) := (box_cells hT2.hp).1 1
      have p2 : w2.cell? ⟨w.heap.size + 1, 2, none⟩ = some (.int .i64 r.p) := (box_cells hT2.hp).1 2
      have s0 : w2.cell? ⟨w.heap.size + 2, 0, none⟩ = some (.int .i64 0) := (box_cells hT2.hs).1 0
      have s1 : w2.cell? ⟨w.heap.size + 2, 1, none⟩ = some (.slice none 0 0) := (box_cells hT2.hs).1 1
      have s2 : w2.cell? ⟨w.heap.size + 2, 2, none⟩ = some (.slice none 0 0) := (box_cells hT2.hs).1 2
      have zs0 : w2.frozen? ⟨w.heap.size + 2, 0, none⟩ = false := (box_cells hT2.hs).2 0
      have zs1 : w2.frozen? ⟨w.heap.size + 2, 1, none⟩ = false := (box_cells hT2.hs).2 1
      have zs2 : w2.frozen? ⟨w.heap.size + 2, 2, none⟩ = false := (box_cells hT2.hs).2 2
      go_wp2
      refine bodyPost_ret (v := .tuple #[.agg #[.int .i64 0, .slice none 0 0, .slice none 0 0], .int .i64 1]) (by simp [results, Tryz.results29, go_sem, s0, s1, s2]) rfl ?_
      exact GrowPost.err hne (((hT2.below.setCell (p := ⟨w.heap.size + 2, 0, none⟩) (Nat.le_add_right _ _) _).setCell (p := ⟨w.heap.size + 2, 1, none⟩) (Nat.le_add_right _ _) _).setCell (p := ⟨w.heap.size + 2, 2, none⟩) (Nat.le_add_right _ _) _)
    | true =>
      have hE2 : Hid (growE vid rn rs sn ss r = if anyAt rn (rmB rs r.a r.l) = true then 6 else if rn = 4 then 2 else 0) := hE1.out.trans (if_neg (by simp [hrg]))
      go_wp2_with fail
      refine (rangeRight_is r true hrg w1).mono ?_
      rintro e w2 ⟨rfl, hbw2⟩
      have hT2 := hT1.later hbw2
      clear b0 b1 b2 p0 p1 p2 s0 s1 s2 zs0 zs1 zs2
      have b0 : w2.cell? ⟨w.heap.size, 0, none⟩ = some (.int .i64 vid) := (box_cells hT2.hb).1 0
      have b1 : w2.cell? ⟨w.heap.size, 1, none⟩ = some (.slice rx rn rc) := (box_cells hT2.hb).1 1
      have b2 : w2.cell? ⟨w.heap.size, 2, none⟩ = some (.slice sx sn sc) := (box_cells hT2.hb).1 2
      have p0 : w2.cell? ⟨w.heap.size + 1, 0, none⟩ = some (.int .i64 r.a) := (box_cells hT2.hp).1 0
      have p1 : w2.cell? ⟨w.heap.size + 1, 1, none⟩ = some (.int .i64 r.l) := (box_cells hT2.hp).1 1
      have p2 : w2.cell? ⟨w.heap.size + 1, 2, none⟩ = some (.int .i64 r.p) := (box_cells hT2.hp).1 2
      have s0 : w2.cell? ⟨w.heap.size + 2, 0, none⟩ = some (.int .i64 0) := (box_cells hT2.hs).1 0
      have s1 : w2.cell? ⟨w.heap.size + 2, 1, none⟩ = some (.slice none 0 0) := (box_cells hT2.hs).1 1
      have s2 : w2.cell? ⟨w.heap.size + 2, 2, none⟩ = some (.slice none 0 0) := (box_cells hT2.hs).1 2
      have zs0 : w2.frozen? ⟨w.heap.size + 2, 0, none⟩ = false := (box_cells hT2.hs).2 0
      have zs1 : w2.frozen? ⟨w.heap.size + 2, 1, none⟩ = false := (box_cells hT2.hs).2 1
      have zs2 : w2.frozen? ⟨w.heap.size + 2, 2, none⟩ = false := (box_cells hT2.hs).2 2
      have hmt := meetsRange_any r.a r.l rx rn rc rs w2 (hv.later hT2.below).ranges (by omega)
      cases hany : anyAt rn (rmB rs r.a r.l) with
      | true =>
        rw [hany] at hmt
        have hne : growE vid rn rs sn ss r = 6 ∧ (6 : Int) ≠ 0 := ⟨hE2.out.trans (if_pos hany), by decide⟩
        go_wp2_with fail
        refine (hmt).mono ?_
        rintro e w3 ⟨rfl, hbw3⟩
        have hT3 := hT2.later hbw3
        clear b0 b1 b2 p0 p1 p2 s0 s1 s2 zs0 zs1 zs2
        have b0 : w3.cell? ⟨w.heap.size, 0, none⟩ = some (.int .i64 vid) := (box_cells hT3.hb).1 0
        have b1 : w3.cell? ⟨w.heap.size, 1, none⟩ = some (.slice rx rn rc) := (box_cells hT3.hb).1 1
        have b2 : w3.cell? ⟨w.heap.size, 2, none⟩ = some (.slice sx sn sc) := (box_cells hT3.hb).1 2
        have p0 : w3.cell? ⟨w.heap.size + 1, 0, none⟩ = some (.int .i64 r.a) := (box_cells hT3.hp).1 0
        have p1 : w3.cell? ⟨w.heap.size + 1, 1, none⟩ = some (.int .i64 r.l) := (box_cells hT3.hp).1 1
        have p2 : w3.cell? ⟨w.heap.size + 1, 2, none⟩ = some (.int .i64 r.p) := (box_cells hT3.hp).1 2
        have s0 : w3.cell? ⟨w.heap.size + 2, 0, none⟩ = some (.int .i64 0) := (box_cells hT3.hs).1 0
        have s1 : w3.cell? ⟨w.heap.size + 2, 1, none⟩ = some (.slice none 0 0) := (box_cells hT3.hs).1 1
        have s2 : w3.cell? ⟨w.heap.size + 2, 2, none⟩ = some (.slice none 0 0) := (box_cells hT3.hs).1 2
        have zs0 : w3.frozen? ⟨w.heap.size + 2, 0, none⟩ = false := (box_cells hT3.hs).2 0
        have zs1 : w3.frozen? ⟨w.heap.size + 2, 1, none⟩ = false := (box_cells hT3.hs).2 1
        have zs2 : w3.frozen? ⟨w.heap.size + 2, 2, none⟩ = false := (box_cells hT3.hs).2 2
        go_wp2
        refine bodyPost_ret (v := .tuple #[.agg #[.int .i64 0, .slice none 0 0, .slice none 0 0], .int .i64 6]) (by simp [results, Tryz.results29, go_sem, s0, s1, s2]) rfl ?_
        exact GrowPost.err hne (((hT3.below.setCell (p := ⟨w.heap.size + 2, 0, none⟩) (Nat.le_add_right _ _) _).setCell (p := ⟨w.heap.size + 2, 1, none⟩) (Nat.le_add_right _ _) _).setCell (p := ⟨w.heap.size + 2, 2, none⟩) (Nat.le_add_right _ _) _)
      | false =>
        rw [hany] at hmt
        have hE3 : Hid (growE vid rn rs sn ss r = if rn = 4 then 2 else 0) := hE2.out.trans (if_neg (by simp [hany]))
        by_cases h4 : rn = 4
        · subst h4
          have hne : growE vid 4 rs sn ss r = 2 ∧ (2 : Int) ≠ 0 := ⟨hE3.out.trans (if_pos rfl), by decide⟩
          go_wp2_with fail
          refine (hmt).mono ?_
          rintro e w3 ⟨rfl, hbw3⟩
          have hT3 := hT2.later hbw3
          clear b0 b1 b2 p0 p1 p2 s0 s1 s2 zs0 zs1 zs2
          have b0 : w3.cell? ⟨w.heap.size, 0, none⟩ = some (.int .i64 vid) := (box_cells hT3.hb).1 0
          have b1 : w3.cell? ⟨w.heap.size, 1, none⟩ = some (.slice rx 4 rc) := (box_cells hT3.hb).1 1
          have b2 : w3.cell? ⟨w.heap.size, 2, none⟩ = some (.slice sx sn sc) := (box_cells hT3.hb).1 2
          have p0 : w3.cell? ⟨w.heap.size + 1, 0, none⟩ = some (.int .i64 r.a) := (box_cells hT3.hp).1 0
          have p1 : w3.cell? ⟨w.heap.size + 1, 1, none⟩ = some (.int .i64 r.l) := (box_cells hT3.hp).1 1
          have p2 : w3.cell? ⟨w.heap.size + 1, 2, none⟩ = some (.int .i64 r.p) := (box_cells hT3.hp).1 2
          have s0 : w3.cell? ⟨w.heap.size + 2, 0, none⟩ = some (.int .i64 0) := (box_cells hT3.hs).1 0
          have s1 : w3.cell? ⟨w.heap.size + 2, 1, none⟩ = some (.slice none 0 0) := (box_cells hT3.hs).1 1
          have s2 : w3.cell? ⟨w.heap.size + 2, 2, none⟩ = some (.slice none 0 0) := (box_cells hT3.hs).1 2
          have zs0 : w3.frozen? ⟨w.heap.size + 2, 0, none⟩ = false := (box_cells hT3.hs).2 0
          have zs1 : w3.frozen? ⟨w.heap.size + 2, 1, none⟩ = false := (box_cells hT3.hs).2 1
          have zs2 : w3.frozen? ⟨w.heap.size + 2, 2, none⟩ = false := (box_cells hT3.hs).2 2
          go_wp2
          refine bodyPost_ret (v := .tuple #[.agg #[.int .i64 0, .slice none 0 0, .slice none 0 0], .int .i64 2]) (by simp [results, Tryz.results29, go_sem, s0, s1, s2]) rfl ?_
          exact GrowPost.err hne (((hT3.below.setCell (p := ⟨w.heap.size + 2, 0, none⟩) (Nat.le_add_right _ _) _).setCell (p := ⟨w.heap.size + 2, 1, none⟩) (Nat.le_add_right _ _) _).setCell (p := ⟨w.heap.size + 2, 2, none⟩) (Nat.le_add_right _ _) _)
        · have hE0 : Hid (growE vid rn rs sn ss r = 0) := hE3.out.trans (if_neg h4)
          have hv3 := fun W (hW : Below w.heap.size w W) => freshVpc_any vid rx rn rc rs sx sn sc ss W (hv.later hW) (by omega) (by omega) (fun i hi => by have := f3 i hi; omega) (fun i hi j hj => by have := f4 i hi j hj; omega)
          go_wp2_with fail
          refine (hmt).mono ?_
          rintro e w3 ⟨rfl, hbw3⟩
          have hT3 := hT2.later hbw3
          clear b0 b1 b2 p0 p1 p2 s0 s1 s2 zs0 zs1 zs2
          have b0 : w3.cell? ⟨w.heap.size, 0, none⟩ = some (.int .i64 vid) := (box_cells hT3.hb).1 0
          have b1 : w3.cell? ⟨w.heap.size, 1, none⟩ = some (.slice rx rn rc) := (box_cells hT3.hb).1 1
          have b2 : w3.cell? ⟨w.heap.size, 2, none⟩ = some (.slice sx sn sc) := (box_cells hT3.hb).1 2
          have p0 : w3.cell? ⟨w.heap.size + 1, 0, none⟩ = some (.int .i64 r.a) := (box_cells hT3.hp).1 0
          have p1 : w3.cell? ⟨w.heap.size + 1, 1, none⟩ = some (.int .i64 r.l) := (box_cells hT3.hp).1 1
          have p2 : w3.cell? ⟨w.heap.size + 1, 2, none⟩ = some (.int .i64 r.p) := (box_cells hT3.hp).1 2
          have s0 : w3.cell? ⟨w.heap.size + 2, 0, none⟩ = some (.int .i64 0) := (box_cells hT3.hs).1 0
          have s1 : w3.cell? ⟨w.heap.size + 2, 1, none⟩ = some (.slice none 0 0) := (box_cells hT3.hs).1 1
          have s2 : w3.cell? ⟨w.heap.size + 2, 2, none⟩ = some (.slice none 0 0) := (box_cells hT3.hs).1 2
          have zs0 : w3.frozen? ⟨w.heap.size + 2, 0, none⟩ = false := (box_cells hT3.hs).2 0
          have zs1 : w3.frozen? ⟨w.heap.size + 2, 1, none⟩ = false := (box_cells hT3.hs).2 1
          have zs2 : w3.frozen? ⟨w.heap.size + 2, 2, none⟩ = false := (box_cells hT3.hs).2 2
          go_wp2_with fail
          refine (hv3 _ hT3.below).mono ?_
          rintro e w4 ⟨vR, vS, ts, rfl, hOR, hss, hOS, hb4⟩
          have hT4 := hT3.later hb4
          obtain ⟨xr, cr, rfl, hr1, hr2, hr3⟩ := hOR.rs
          obtain ⟨xt, ct, rfl, -⟩ := hOS.subs
          have hxr : (xr = none ∧ cr = 0) ∨ ∃ b o, xr = some ⟨b, o, none⟩ := by
            rcases hOR.2 with ⟨hv', -⟩ | ⟨g2, cap2, cur2, hv', -⟩
            · simp only [Value.slice.injEq] at hv'; exact .inl ⟨hv'.1, hv'.2.2⟩
            · simp only [Value.slice.injEq] at hv'; exact .inr ⟨_, _, hv'.1⟩
          clear b0 b1 b2 p0 p1 p2 s0 s1 s2 zs0 zs1 zs2
          go_upto_region 12 with fail
          obtain ⟨w5, hw5⟩ : ∃ w5, w5 = w4.alloc (vpB vid (.slice xr rs.length cr) (.slice xt ts.length ct)) := ⟨_, rfl⟩
          rw [← hw5]
          have hb45 : Below w4.heap.size w4 w5 := by rw [hw5]; exact bl1 _ _
          have hn5 : w5.heap[w4.heap.size]? = some (vpB vid (.slice xr rs.length cr) (.slice xt ts.length ct)) := by rw [hw5]; exact heap_new _ rfl
          clear hw5
          have hT5 := hT4.later hb45
          have n1 : w5.cell? ⟨w4.heap.size, 1, none⟩ = some (.slice xr rs.length cr) := (box_cells hn5).1 1
          have n1' : ∀ o, (w5.alloc o).cell? ⟨w4.heap.size, 1, none⟩ = some (.slice xr rs.length cr) := fun o => cell_later_add (bl1 w5 o) n1
          have p0 : w5.cell? ⟨w.heap.size + 1, 0, none⟩ = some (.int .i64 r.a) := (box_cells hT5.hp).1 0
          have p1 : w5.cell? ⟨w.heap.size + 1, 1, none⟩ = some (.int .i64 r.l) := (box_cells hT5.hp).1 1
          have p2 : w5.cell? ⟨w.heap.size + 1, 2, none⟩ = some (.int .i64 r.p) := (box_cells hT5.hp).1 2
          have p0' : ∀ o, (w5.alloc o).cell? ⟨w.heap.size + 1, 0, none⟩ = some (.int .i64 r.a) := fun o => cell_later_add (bl1 w5 o) p0
          have p1' : ∀ o, (w5.alloc o).cell? ⟨w.heap.size + 1, 1, none⟩ = some (.int .i64 r.l) := fun o => cell_later_add (bl1 w5 o) p1
          have p2' : ∀ o, (w5.alloc o).cell? ⟨w.heap.size + 1, 2, none⟩ = some (.int .i64 r.p) := fun o => cell_later_add (bl1 w5 o) p2
          have hput := fun W (hW : Below w5.heap.size w5 W) hby => putR_any r xr rs.length cr rs w5.heap.size 1 W ((hr1.later hb45).later hW) (by rw [hrl.out]; omega) hr2 hr3 hxr hby
          go_wp2_with fail
          refine (hput _ (bl1 w5 _) (by simp)).mono ?_
          rintro e w6 ⟨v6, rfl, hb6, i, hi, hlow, hup, hO6⟩
          obtain ⟨qs, hqs⟩ : ∃ qs, Hid (qs = rs.take i ++ [r] ++ rs.drop i) := ⟨_, rfl⟩
          rw [← hqs.out] at hO6
          obtain ⟨x6, c6, rfl, -⟩ := hO6.mem
          have hb56 : Below w5.heap.size w5 w6 := (bl1 w5 _).trans (hb6.mono (by simp))
          have hT6 := hT5.later hb56
          have hn6 := heap_later hb56 hn5
          have hOS6 := OSs.later (OSs.later hOS hb45) hb56
          clear n1 n1' p0 p1 p2 p0' p1' p2'
          have hsz3 : w.heap.size + 2 < w3.heap.size := (Array.getElem?_eq_some_iff.1 hT3.hs).1
          have hz4 : w.heap.size + 2 < w4.heap.size := Nat.lt_of_lt_of_le hsz3 hb4.size
          have hz5 : w.heap.size + 2 < w5.heap.size := Nat.lt_of_lt_of_le hz4 hb45.size
          have m0 : w6.cell? ⟨w4.heap.size, 0, none⟩ = some (.int .i64 vid) := (box_cells hn6).1 0
          have m1 : w6.cell? ⟨w4.heap.size, 1, none⟩ = some (.slice xr rs.length cr) := (box_cells hn6).1 1
          have m2 : w6.cell? ⟨w4.heap.size, 2, none⟩ = some (.slice xt ts.length ct) := (box_cells hn6).1 2
          have zm : w6.frozen? ⟨w4.heap.size, 1, none⟩ = false := (box_cells hn6).2 1
          have s0 : w6.cell? ⟨w.heap.size + 2, 0, none⟩ = some (.int .i64 0) := (box_cells hT6.hs).1 0
          have s1 : w6.cell? ⟨w.heap.size + 2, 1, none⟩ = some (.slice none 0 0) := (box_cells hT6.hs).1 1
          have s2 : w6.cell? ⟨w.heap.size + 2, 2, none⟩ = some (.slice none 0 0) := (box_cells hT6.hs).1 2
          have zs0 : w6.frozen? ⟨w.heap.size + 2, 0, none⟩ = false := (box_cells hT6.hs).2 0
          have zs1 : w6.frozen? ⟨w.heap.size + 2, 1, none⟩ = false := (box_cells hT6.hs).2 1
          have zs2 : w6.frozen? ⟨w.heap.size + 2, 2, none⟩ = false := (box_cells hT6.hs).2 2
          have ne1 : ¬ w4.heap.size = w.heap.size + 2 := by omega
          have ne2 : ¬ w.heap.size + 2 = w4.heap.size := by omega
          go_wp2
          refine bodyPost_ret (v := .tuple #[.agg #[.int .i64 vid, .slice x6 qs.length c6, .slice xt ts.length ct], .int .i64 0]) (by simp [results, Tryz.results29, go_sem, s0, s1, s2]) rfl ?_
          have hfin := (((hT6.below.setCell (p := ⟨w4.heap.size, 1, none⟩) (by show w.heap.size ≤ w4.heap.size; omega) (.slice x6 qs.length c6)).setCell (p := ⟨w.heap.size + 2, 0, none⟩) (Nat.le_add_right _ _) (.int .i64 vid)).setCell (p := ⟨w.heap.size + 2, 1, none⟩) (Nat.le_add_right _ _) (.slice x6 qs.length c6)).setCell (p := ⟨w.heap.size + 2, 2, none⟩) (Nat.le_add_right _ _) (.slice xt ts.length ct)
          have hos := (((hOS6.putBox (o := 1) (u := .slice x6 qs.length c6) hn6 (by decide) (by decide) (by decide)).put (o := 0) (u := .int .i64 vid) hsz3).put (o := 1) (u := .slice x6 qs.length c6) hsz3).put (o := 2) (u := .slice xt ts.length ct) hsz3
          have hor := ((((hO6.low (base' := w5.heap.size) (by simp)).putBox (o := 1) (u := .slice x6 qs.length c6) hn6 (by decide)).put (o := 0) (u := .int .i64 vid) hz5).put (o := 1) (u := .slice x6 qs.length c6) hz5).put (o := 2) (u := .slice xt ts.length ct) hz5
          exact ⟨_, by rw [hE0.out], hfin, fun h => absurd hE0.out h, fun _ => ⟨qs, ts, NV.of hor hos, ⟨i, hi, fun j hj => by have := hlow j hj; omega, hup, hqs.out⟩, hss⟩⟩
  · have hne : growE vid rn rs sn ss r = chkV vid rn rs sn ss ∧ chkV vid rn rs sn ss ≠ 0 := ⟨if_pos hc0, hc0⟩
    go_wp2_with fail
    refine (hck).mono ?_
    rintro e w1 ⟨rfl, hbw1⟩
    have hT1 := hT0.later hbw1
    clear b0 b1 b2 p0 p1 p2 s0 s1 s2 zs0 zs1 zs2
    have b0 : w1.cell? ⟨w.heap.size, 0, none⟩ = some (.int .i64 vid) := (box_cells hT1.hb).1 0
    have b1 : w1.cell? ⟨w.heap.size, 1, none⟩ = some (.slice rx rn rc) := (box_cells hT1.hb).1 1
    have b2 : w1.cell? ⟨w.heap.size, 2, none⟩ = some (.slice sx sn sc) := (box_cells hT1.hb).1 2
    have p0 : w1.cell? ⟨w.heap.size + 1, 0, none⟩ = some (.int .i64 r.a) := (box_cells hT1.hp).1 0
    have p1 : w1.cell? ⟨w.heap.size + 1, 1, none⟩ = some (.int .i64 r.l) := (box_cells hT1.hp).1 1
    have p2 : w1.cell? ⟨w.heap.size + 1, 2, none⟩ = some (.int .i64 r.p) := (box_cells hT1.hp).1 2
    have s0 : w1.cell? ⟨w.heap.size + 2, 0, none⟩ = some (.int .i64 0) := (box_cells hT1.hs).1 0
    have s1 : w1.cell? ⟨w.heap.size + 2, 1, none⟩ = some (.slice none 0 0) := (box_cells hT1.hs).1 1
    have s2 : w1.cell? ⟨w.heap.size + 2, 2, none⟩ = some (.slice none 0 0) := (box_cells hT1.hs).1 2
    have zs0 : w1.frozen? ⟨w.heap.size + 2, 0, none⟩ = false := (box_cells hT1.hs).2 0
    have zs1 : w1.frozen? ⟨w.heap.size + 2, 1, none⟩ = false := (box_cells hT1.hs).2 1
    have zs2 : w1.frozen? ⟨w.heap.size + 2, 2, none⟩ = false := (box_cells hT1.hs).2 2
    go_wp2
    refine bodyPost_ret (v := .tuple #[.agg #[.int .i64 0, .slice none 0 0, .slice none 0 0], .int .i64 (chkV vid rn rs sn ss)]) (by simp [results, Tryz.results29, go_sem, s0, s1, s2]) rfl ?_
    exact GrowPost.err hne (((hT1.below.setCell (p := ⟨w.heap.size + 2, 0, none⟩) (Nat.le_add_right _ _) _).setCell (p := ⟨w.heap.size + 2, 1, none⟩) (Nat.le_add_right _ _) _).setCell (p := ⟨w.heap.size + 2, 2, none⟩) (Nat.le_add_right _ _) _)
end Go.Proofs.YtlalgkjollgcbaaGreat
/- IndexFunc over subnets and ranges, however many. -/
namespace Go.Proofs.YtlalgkjollgcbaaGreat
open Go.RowKit Go.Shelf

set_option maxRecDepth 20000 in
set_option maxHeartbeats 800000 in
theorem indexFuncSb_big (g : Nat) (cap : Array Value) (x : Option Addr) (n c : Nat) (ps : List Sb) (f : Nat → Bool) (w : World) (hp : SS w x n ps) (hn : n ≤ 9223372036854775807) (hF : FnSbAt g cap n ps f w)
    (hg : ∀ args W, (callFunc g args).run Tryz.prog W = .ok (.enter g args) W) :
    Calls Tryz.prog 116 #[.slice x n c, .func (.func g) #[] cap] w fun e w' => (∃ r : Int, e = .returned (.int .i64 r) ∧ ((∃ i : Nat, i < n ∧ f i = true ∧ (∀ j, j < i → f j = false) ∧ r = i) ∨ ((∀ j, j < n → f j = false) ∧ r = -1))) ∧ Below w.heap.size w w' := by
  have HF : Hid (FnSbAt g cap n ps f w) := hF
  clear hF
  go_enter Tryz.func116, Tryz.ntmps116
  go_wp2
  go_loopw [8] (fun i wr => ∃ k : Nat, k ≤ n ∧ i = .int .i64 k ∧ Below w.heap.size w wr ∧ (∀ j, j < k → f j = false)) (fun i _ => n - (intOf i).toNat)
  case atStart => exact ⟨0, by omega, rfl, Below.refl _ _, fun j hj => by omega⟩
  case round =>
    obtain ⟨k, hk, rfl, hB, hno⟩ := hrel
    by_cases hlt : k < n
    · obtain ⟨b, o, rfl, c0, c1, c2, c3⟩ := hp.cells k hlt
      have d0 := cell_later hB c0
      have d1 := cell_later hB c1
      have d2 := cell_later hB c2
      have d3 := cell_later hB c3
      go_wp2_with fail
      refine (HF.out k hlt _ hB).mono ?_
      rintro e w1 ⟨rfl, hb1⟩
      have hC := hB.trans (hb1.mono hB.size)
      cases hf : f k
      · go_wp2
        go_roundw
        case rel => exact ⟨k + 1, hlt, by go_num, hC, fun j hj => by
          by_cases hj2 : j < k
          · exact hno j hj2
          · obtain rfl : j = k := by omega
            exact hf⟩
        case measure => simp [intOf]; omega
      · go_wp2
        go_ret
        exact ⟨⟨_, rfl, .inl ⟨k, hlt, hf, hno, rfl⟩⟩, hC⟩
    · go_wp2
      go_ret
      exact ⟨⟨_, rfl, .inr ⟨fun j hj => hno j (by omega), rfl⟩⟩, hB⟩
set_option maxRecDepth 20000 in
set_option maxHeartbeats 800000 in
theorem indexFuncRg_big (g : Nat) (cap : Array Value) (x : Option Addr) (n c : Nat) (ps : List Rg) (f : Nat → Bool) (w : World) (hp : RS w x n ps) (hn : n ≤ 9223372036854775807) (hF : FnRgAt g cap n ps f w)
    (hg : ∀ args W, (callFunc g args).run Tryz.prog W = .ok (.enter g args) W) :
    Calls Tryz.prog 89 #[.slice x n c, .func (.func g) #[] cap] w fun e w' => (∃ r : Int, e = .returned (.int .i64 r) ∧ ((∃ i : Nat, i < n ∧ f i = true ∧ (∀ j, j < i → f j = false) ∧ r = i) ∨ ((∀ j, j < n → f j = false) ∧ r = -1))) ∧ Below w.heap.size w w' := by
  have HF : Hid (FnRgAt g cap n ps f w) := hF
  clear hF
  go_enter Tryz.func89, Tryz.ntmps89
  go_wp2
  go_loopw [8] (fun i wr => ∃ k : Nat, k ≤ n ∧ i = .int .i64 k ∧ Below w.heap.size w wr ∧ (∀ j, j < k → f j = false)) (fun i _ => n - (intOf i).toNat)
  case atStart => exact ⟨0, by omega, rfl, Below.refl _ _, fun j hj => by omega⟩
  case round =>
    obtain ⟨k, hk, rfl, hB, hno⟩ := hrel
    by_cases hlt : k < n
    · obtain ⟨b, o, rfl, c0, c1, c2⟩ := hp.cells k hlt
      have d0 := cell_later hB c0
      have d1 := cell_later hB c1
      have d2 := cell_later hB c2
      go_wp2_with fail
      refine (HF.out k hlt _ hB).mono ?_
      rintro e w1 ⟨rfl, hb1⟩
      have hC := hB.trans (hb1.mono hB.size)
      cases hf : f k
      · go_wp2
        go_roundw
        case rel => exact ⟨k + 1, hlt, by go_num, hC, fun j hj => by
          by_cases hj2 : j < k
          · exact hno j hj2
          · obtain rfl : j = k := by omega
            exact hf⟩
        case measure => simp [intOf]; omega
      · go_wp2
        go_ret
        exact ⟨⟨_, rfl, .inl ⟨k, hlt, hf, hno, rfl⟩⟩, hC⟩
    · go_wp2
      go_ret
      exact ⟨⟨_, rfl, .inr ⟨fun j hj => hno j (by omega), rfl⟩⟩, hB⟩
end Go.Proofs.YtlalgkjollgcbaaGreat
/- Sub and Unsub of package vpc. -/
namespace Go.Proofs.YtlalgkjollgcbaaGreat
open Go.RowKit Go.Shelf

/-- What an operation on a network answers: a network and an error; at an error the zero network. -/
def VPost (E : Int) (R : World → Value → Prop) (w : World) (e : Ending) (w' : World) : Prop :=
  ∃ V, e = .returned (.tuple #[V, .int .i64 E]) ∧ Below w.heap.size w w' ∧ (E ≠ 0 → V = .agg #[.int .i64 0, .slice none 0 0, .slice none 0 0]) ∧ (E = 0 → R w' V)
theorem VPost.err {E E' : Int} {R : World → Value → Prop} {w w' : World} (hE : E = E' ∧ E' ≠ 0) (hb : Below w.heap.size w w') :
    VPost E R w (.returned (.tuple #[.agg #[.int .i64 0, .slice none 0 0, .slice none 0 0], .int .i64 E'])) w' :=
  ⟨_, by rw [hE.1], hb, fun _ => rfl, fun h => absurd (hE.1.symm.trans h) hE.2⟩
theorem VPost.ok {E : Int} {R : World → Value → Prop} {w w' : World} {V : Value} (hE : E = 0) (hb : Below w.heap.size w w') (h : R w' V) :
    VPost E R w (.returned (.tuple #[V, .int .i64 0])) w' :=
  ⟨_, by rw [hE], hb, fun h' => absurd hE h', fun _ => h⟩
/-- The subnet's faces stand in memory. -/
def FcB (w : World) (s : Sb) : Prop := s.n ≤ s.c ∧ s.n ≤ 9223372036854775807 ∧ FcS w s.x s.n s.fs
theorem sbAt_mem {ss : List Sb} {i : Nat} (h : i < ss.length) : sbAt ss i ∈ ss := by
  unfold sbAt
  rw [List.getD_eq_getElem?_getD, List.getElem?_eq_getElem h]
  exact List.getElem_mem h
theorem OSs.all {w : World} {base : Nat} {v : Value} {ss : List Sb} (h : OSs w base v ss ss.length) : ∀ s ∈ ss, FcB w s := fun s hs => by
  obtain ⟨i, hi, rfl⟩ := List.getElem_of_mem hs
  have e : sbAt ss i = ss[i] := by unfold sbAt; rw [List.getD_eq_getElem?_getD, List.getElem?_eq_getElem hi]; rfl
  obtain ⟨g1, g2, g3, g4⟩ := (h.own i hi).fcs
  rw [e] at g1 g3 g4
  exact ⟨g3, Nat.le_trans g3 g4, g1⟩
theorem NV.mk {w : World} {base base' : Nat} {vid : Int} {vR vS : Value} {rs : List Rg} {ss : List Sb} (hR : OwnR w base vR rs) (hS : OwnS w base' vS ss) (hF : ∀ s ∈ ss, FcB w s) : NV w vid (.agg #[.int .i64 vid, vR, vS]) rs ss := by
  obtain ⟨rx, rc, rfl, h1, h2, h3⟩ := hR.rs
  obtain ⟨x, c, rfl, g1, g2, -, g4⟩ := hS.mem
  exact ⟨rx, rc, x, c, rfl, ⟨h2, g1, h1, ⟨rfl, g4, fun i hi => hF _ (sbAt_mem hi)⟩⟩, h3, g2⟩
theorem OwnS.put {w : World} {base b o : Nat} {u v : Value} {ss : List Sb} (h : OwnS w base v ss) (hb : b < base) : OwnS (w.setCell ⟨b, o, none⟩ u) base v ss :=
  h.kept (set_grown _ _ _ _) (fun k hk => by have := h.lt k hk; omega)
theorem OwnS.putBox {w : World} {base b o : Nat} {u v : Value} {ss : List Sb} {cs : Array Value} {t : TypeId} (h : OwnS w base v ss) (hb : w.heap[b]? = some (.cells cs t)) (h1 : t ≠ 90) : OwnS (w.setCell ⟨b, o, none⟩ u) base v ss :=
  h.kept (set_grown _ _ _ _) (fun k hk e => by subst e; exact h.ne hb h1 hk)
/-- The subnet stands ahead of the first one whose Id is greater. -/
def PutSb (e : Sb) (qs rs : List Sb) : Prop := ∃ i, i ≤ qs.length ∧ (∀ j, j < i → ¬ e.id < (sbAt qs j).id) ∧ (i < qs.length → e.id < (sbAt qs i).id) ∧ rs = qs.take i ++ [e] ++ qs.drop i
def subE (vid : Int) (rn : Nat) (rs : List Rg) (sn : Nat) (ss : List Sb) (id c m : Int) : Int :=
  if chkV vid rn rs sn ss ≠ 0 then chkV vid rn rs sn ss else if subB rn rs id c m = false then 3 else if 0 ≤ fstAt sn (fun i => (sbAt ss i).id == id) ∨ anyAt sn (smB ss c m) = true then 6 else if sn = 6 then 2 else 0
def SubR (vid : Int) (rs : List Rg) (ss : List Sb) (id c m : Int) (w : World) (V : Value) : Prop := ∃ ts ss', NV w vid V rs ss' ∧ sameSs ss ts ∧ PutSb ⟨id, c, m, none, 0, 0, []⟩ ts ss'
structure TU (w W : World) (vid : Int) (rx : Option Addr) (rn rc : Nat) (sx : Option Addr) (sn sc : Nat) (c m : Int) : Prop where
  hb : W.heap[w.heap.size]? = some (.cells #[.int .i64 vid, .slice rx rn rc, .slice sx sn sc] 52)
  hp : W.heap[w.heap.size + 1]? = some (.cells #[.int .i64 c, .int .i64 m] 27)
  hs : W.heap[w.heap.size + 2]? = some (.cells #[.int .i64 0, .slice none 0 0, .slice none 0 0] 52)
  below : Below w.heap.size w W
theorem TU.later {w W W' : World} {vid : Int} {rx : Option Addr} {rn rc : Nat} {sx : Option Addr} {sn sc : Nat} {c m : Int} (h : TU w W vid rx rn rc sx sn sc c m) (hb : Below W.heap.size W W') : TU w W' vid rx rn rc sx sn sc c m :=
  ⟨heap_later hb h.hb, heap_later hb h.hp, heap_later hb h.hs, h.below.trans (hb.mono h.below.size)⟩

end Go.Proofs.YtlalgkjollgcbaaGreat
/- Unsub of package vpc. -/
namespace Go.Proofs.YtlalgkjollgcbaaGreat
open Go.RowKit Go.Shelf

/-- All these subnets' faces stand in memory of the call's own. -/
def OFa (w : World) (base : Nat) (ss : List Sb) : Prop := ∀ s ∈ ss, OFs w base (.slice s.x s.n s.c) s.fs s.fs.length
theorem OSs.ofa {w : World} {base : Nat} {v : Value} {ss : List Sb} (h : OSs w base v ss ss.length) : OFa w base ss := fun s hs => by
  obtain ⟨i, hi, rfl⟩ := List.getElem_of_mem hs
  have e : sbAt ss i = ss[i] := by unfold sbAt; rw [List.getD_eq_getElem?_getD, List.getElem?_eq_getElem hi]; rfl
  have := h.own i hi
  rw [e] at this
  exact this
theorem OFa.keptOf {w w' : World} {base g : Nat} {ss : List Sb} {cur : Array Value} {t : TypeId} (h : OFa w base ss) (hg : w.grownBy w' (some g)) (hb : w.heap[g]? = some (.cells cur t)) (h1 : t ≠ 99) (h2 : t ≠ 3) : OFa w' base ss := fun s hs => (h s hs).kept_of hg hb h1 h2
theorem OFa.put {w : World} {base b o : Nat} {u : Value} {ss : List Sb} (h : OFa w base ss) (hb : b < base) : OFa (w.setCell ⟨b, o, none⟩ u) base ss := fun s hs =>
  (h s hs).kept (set_grown _ _ _ _) (fun k hk => by have := (h s hs).row.lt k hk; omega) (fun j hj k hk => by have := ((h s hs).own j hj).lt k hk; omega)
theorem OFa.fcb {w : World} {base : Nat} {ss : List Sb} (h : OFa w base ss) : ∀ s ∈ ss, FcB w s := fun s hs => by
  obtain ⟨g1, g2, g3, g4⟩ := (h s hs).fcs
  exact ⟨g3, Nat.le_trans g3 g4, g1⟩
theorem OFa.part {w : World} {base : Nat} {ss ts : List Sb} (h : OFa w base ss) (hs : ∀ s ∈ ts, s ∈ ss) : OFa w base ts := fun s hm => h s (hs s hm)
theorem grown_box {w w' : World} {g b : Nat} {x : Obj} (hg : w.grownBy w' (some g)) (hne : b ≠ g) (hx : w.heap[b]? = some x) : w'.heap[b]? = some x := by
  obtain ⟨-, -, -, -, h⟩ := hg
  exact (h b (Array.getElem?_eq_some_iff.1 hx).1 (fun e => hne (by simpa using e))).trans hx
def unsubE (vid : Int) (rn : Nat) (rs : List Rg) (sn : Nat) (ss : List Sb) (id : Int) : Int :=
  if chkV vid rn rs sn ss ≠ 0 then chkV vid rn rs sn ss else if fstAt sn (fun i => (sbAt ss i).id == id) < 0 then 5 else if 0 < (sbAt ss (fstAt sn (fun i => (sbAt ss i).id == id)).toNat).n then 9 else 0
def UnsubR (vid : Int) (rs : List Rg) (ss : List Sb) (id : Int) (w : World) (V : Value) : Prop := ∃ ts i, sameSs ss ts ∧ i < ts.length ∧ (sbAt ss i).id = id ∧ (∀ j, j < i → (sbAt ss j).id ≠ id) ∧ NV w vid V rs (ts.take i ++ ts.drop (i + 1))
structure TN (w W : World) (vid : Int) (rx : Option Addr) (rn rc : Nat) (sx : Option Addr) (sn sc : Nat) : Prop where
  hb : W.heap[w.heap.size]? = some (.cells #[.int .i64 vid, .slice rx rn rc, .slice sx sn sc] 52)
  hs : W.heap[w.heap.size + 1]? = some (.cells #[.int .i64 0, .slice none 0 0, .slice none 0 0] 52)
  below : Below w.heap.size w W
theorem TN.later {w W W' : World} {vid : Int} {rx : Option Addr} {rn rc : Nat} {sx : Option Addr} {sn sc : Nat} (h : TN w W vid rx rn rc sx sn sc) (hb : Below W.heap.size W W') : TN w W' vid rx rn rc sx sn sc :=
  ⟨heap_later hb h.hb, heap_later hb h.hs, h.below.trans (hb.mono h.below.size)⟩

end Go.Proofs.YtlalgkjollgcbaaGreat
/- What slices.Index at prefixes, and SamePrefixes of package parcelwayref, come to. -/
namespace Go.Proofs.YtlalgkjollgcbaaGreat
open Go.RowKit

theorem prefix_struct : Tryz.prog.underlying 27 = some (.struct (Tryz.prog.fieldsOf 27)) := by kernel_rfl
theorem prefix_held : Tryz.prog.stoodInHeld 27 = false := by kernel_rfl
theorem eq_prefix (a l c m : Int) (w : World) : (binOp .eql 27 (.agg #[.int .i64 a, .int .i64 l]) (.agg #[.int .i64 c, .int .i64 m])).run Tryz.prog w = .ok (.bool (decide (a = c) && decide (l = m))) w := by
  rw [run_eql_struct, show (10000 : Nat) = 9999 + 1 from rfl, run_equalIn_agg w 9999 _ _ _ prefix_struct prefix_held]
  simp only [Program.fieldsOf, Tryz.underlying27]
  go_simp
  by_cases h1 : a = c <;> by_cases h2 : l = m <;> simp [h1, h2]
theorem neq_prefix (a l c m : Int) (w : World) : (binOp .neq 27 (.agg #[.int .i64 a, .int .i64 l]) (.agg #[.int .i64 c, .int .i64 m])).run Tryz.prog w = .ok (.bool (!(decide (a = c) && decide (l = m)))) w := by
  rw [run_neq_struct, show (10000 : Nat) = 9999 + 1 from rfl, run_equalIn_agg w 9999 _ _ _ prefix_struct prefix_held]
  simp only [Program.fieldsOf, Tryz.underlying27]
  go_simp
  by_cases h1 : a = c <;> by_cases h2 : l = m <;> simp [h1, h2]

theorem prefix_guard : Tryz.prog.eqGuardType Tryz.prog.depth 27 = false := by kernel_rfl
theorem guard_prefix (op : BinOp) (x y : Operand) (p q : Array Value) (w : World) : (eqGuard op 27 x y (.agg p) (.agg q)).run Tryz.prog w = .ok () w := by
  have h := prefix_guard
  unfold eqGuard
  cases op <;> simp [go_sem, h]
theorem quiet_eql {ops : Array Oper} {C : World → Prop} {Q : Act → Prop} {A : Act} {o : Oper} {rest : List Oper} (x y : Operand) (t : TypeId) (a l c m : Int) (hop : o.op = .binOp .eql 27 x y t) (hg : o.guard = none)
    (hx : A.eval x = .agg #[.int .i64 a, .int .i64 l]) (hy : A.eval y = .agg #[.int .i64 c, .int .i64 m]) (h : wpQuiet Tryz.prog ops C Q rest (A.put o.dst (.bool (decide (a = c) && decide (l = m))))) : wpQuiet Tryz.prog ops C Q (o :: rest) A := by
  unfold wpQuiet
  rw [if_pos (by simp [Region.wanted, hg])]
  refine ⟨_, fun w _ => ?_, h⟩
  unfold Oper.quietAt execOp
  rw [hop]
  simp only [hx, hy, Sem.run_bind, guard_prefix, eq_prefix, Result.andThen_ok, Sem.run_pure]
  exact ⟨rfl, rfl⟩
theorem quiet_neq {ops : Array Oper} {C : World → Prop} {Q : Act → Prop} {A : Act} {o : Oper} {rest : List Oper} (x y : Operand) (t : TypeId) (a l c m : Int) (hop : o.op = .binOp .neq 27 x y t) (hg : o.guard = none)
    (hx : A.eval x = .agg #[.int .i64 a, .int .i64 l]) (hy : A.eval y = .agg #[.int .i64 c, .int .i64 m]) (h : wpQuiet Tryz.prog ops C Q rest (A.put o.dst (.bool (!(decide (a = c) && decide (l = m)))))) : wpQuiet Tryz.prog ops C Q (o :: rest) A := by
  unfold wpQuiet
  rw [if_pos (by simp [Region.wanted, hg])]
  refine ⟨_, fun w _ => ?_, h⟩
  unfold Oper.quietAt execOp
  rw [hop]
  simp only [hx, hy, Sem.run_bind, guard_prefix, neq_prefix, Result.andThen_ok, Sem.run_pure]
  exact ⟨rfl, rfl⟩

def eqAt (ps : List (Int × Int)) (a l : Int) (i : Nat) : Bool := decide (a = at0 ps i) && decide (l = at1 ps i)

theorem same_of {ps qs : List (Int × Int)} {n : Nat} (h1 : ps.length = n) (h2 : qs.length = n) (h : ∀ j, j < n → at0 ps j = at0 qs j ∧ at1 ps j = at1 qs j) : ps = qs := by
  refine List.ext_getElem (by omega) fun i hi hj => ?_
  have := h i (by omega)
  simp only [at0, at1, List.getD_eq_getElem?_getD, List.getElem?_eq_getElem hi, List.getElem?_eq_getElem hj, Option.getD_some] at this
  exact Prod.ext this.1 this.2

end Go.Proofs.YtlalgkjollgcbaaGreat
/- The closures of vpc.Drop. -/
namespace Go.Proofs.YtlalgkjollgcbaaGreat
open Go.RowKit Go.Shelf
/-- Is the i-th range that prefix? -/
def rpB (rs : List Rg) (c m : Int) (i : Nat) : Bool := decide ((rgAt rs i).a = c) && decide ((rgAt rs i).l = m)
/-- Is the i-th subnet inside of that prefix? -/
def siB (ss : List Sb) (c m : Int) (i : Nat) : Bool := ins (sbAt ss i).a (sbAt ss i).l c m
end Go.Proofs.YtlalgkjollgcbaaGreat
/- Drop of package vpc. -/
namespace Go.Proofs.YtlalgkjollgcbaaGreat
open Go.RowKit Go.Shelf

theorem drew_cell (W : World) (a : Addr) : W.drew.cell? a = W.cell? a := rfl
def dropE (vid : Int) (rn : Nat) (rs : List Rg) (sn : Nat) (ss : List Sb) (c m : Int) : Int :=
  if chkV vid rn rs sn ss ≠ 0 then chkV vid rn rs sn ss else if fstAt rn (rpB rs c m) < 0 then 5 else if anyAt sn (siB ss c m) = true then 9 else 0
def DropPost (vid : Int) (rn : Nat) (rs : List Rg) (sn : Nat) (ss : List Sb) (c m : Int) (w : World) (e : Ending) (w' : World) : Prop :=
  ∃ V r, e = .returned (.tuple #[V, .agg #[.int .i64 (Rg.a r), .int .i64 r.l, .int .i64 r.p], .int .i64 (dropE vid rn rs sn ss c m)]) ∧ Below w.heap.size w w' ∧ (dropE vid rn rs sn ss c m ≠ 0 → V = .agg #[.int .i64 0, .slice none 0 0, .slice none 0 0] ∧ r = ⟨0, 0, 0⟩) ∧
    (dropE vid rn rs sn ss c m = 0 → ∃ ts i, sameSs ss ts ∧ i < rn ∧ rpB rs c m i = true ∧ (∀ j, j < i → rpB rs c m j = false) ∧ r = rgAt rs i ∧ NV w' vid V (rs.take i ++ rs.drop (i + 1)) ts)
theorem DropPost.err {vid : Int} {rn : Nat} {rs : List Rg} {sn : Nat} {ss : List Sb} {c m : Int} {E : Int} {w w' : World} (hE : dropE vid rn rs sn ss c m = E ∧ E ≠ 0) (hb : Below w.heap.size w w') :
    DropPost vid rn rs sn ss c m w (.returned (.tuple #[.agg #[.int .i64 0, .slice none 0 0, .slice none 0 0], .agg #[.int .i64 0, .int .i64 0, .int .i64 0], .int .i64 E])) w' :=
  ⟨_, ⟨0, 0, 0⟩, by rw [hE.1], hb, fun _ => ⟨rfl, rfl⟩, fun h => absurd (hE.1.symm.trans h) hE.2⟩
structure TD (w W : World) (vid : Int) (rx : Option Addr) (rn rc : Nat) (sx : Option Addr) (sn sc : Nat) (c m : Int) : Prop where
  hb : W.heap[w.heap.size]? = some (.cells #[.int .i64 vid, .slice rx rn rc, .slice sx sn sc] 52)
  hp : W.heap[w.heap.size + 1]? = some (.cells #[.int .i64 c, .int .i64 m] 27)
  hs : W.heap[w.heap.size + 2]? = some (.cells #[.int .i64 0, .slice none 0 0, .slice none 0 0] 52)
  hg : W.heap[w.heap.size + 3]? = some (.cells #[.int .i64 0, .int .i64 0, .int .i64 0] 29)
  below : Below w.heap.size w W
theorem TD.later {w W W' : World} {vid : Int} {rx : Option Addr} {rn rc : Nat} {sx : Option Addr} {sn sc : Nat} {c m : Int} (h : TD w W vid rx rn rc sx sn sc c m) (hb : Below W.heap.size W W') : TD w W' vid rx rn rc sx sn sc c m :=
  ⟨heap_later hb h.hb, heap_later hb h.hp, heap_later hb h.hs, heap_later hb h.hg, h.below.trans (hb.mono h.below.size)⟩

end Go.Proofs.YtlalgkjollgcbaaGreat
/- placeOf of package vpc. -/
namespace Go.Proofs.YtlalgkjollgcbaaGreat
open Go.RowKit Go.Shelf

def plE (vid : Int) (rn : Nat) (rs : List Rg) (sn : Nat) (ss : List Sb) (sub id : Int) : Int :=
  if chkV vid rn rs sn ss ≠ 0 then chkV vid rn rs sn ss else if fstAt sn (fun i => (sbAt ss i).id == sub) < 0 then 5 else if fstAt (sbAt ss (fstAt sn (fun i => (sbAt ss i).id == sub)).toNat).n (fun j => (fcAt (sbAt ss (fstAt sn (fun i => (sbAt ss i).id == sub)).toNat).fs j).id == id) < 0 then 5 else 0
/-- There the face stands. -/
structure FaceAt (sn : Nat) (ss : List Sb) (sub id : Int) (i j : Nat) : Prop where
  isn : i < sn
  sid : (sbAt ss i).id = sub
  sno : ∀ k, k < i → (sbAt ss k).id ≠ sub
  jn : j < (sbAt ss i).n
  fid : (fcAt (sbAt ss i).fs j).id = id
  fno : ∀ k, k < j → (fcAt (sbAt ss i).fs k).id ≠ id
def PlPost (vid : Int) (rn : Nat) (rs : List Rg) (sn : Nat) (ss : List Sb) (sub id : Int) (w : World) (e : Ending) (w' : World) : Prop :=
  ∃ i j : Nat, e = .returned (.tuple #[.int .i64 i, .int .i64 j, .int .i64 (plE vid rn rs sn ss sub id)]) ∧ Below w.heap.size w w' ∧ (plE vid rn rs sn ss sub id ≠ 0 → i = 0 ∧ j = 0) ∧ (plE vid rn rs sn ss sub id = 0 → chkV vid rn rs sn ss = 0 ∧ FaceAt sn ss sub id i j)
theorem PlPost.err {vid : Int} {rn : Nat} {rs : List Rg} {sn : Nat} {ss : List Sb} {sub id E : Int} {w w' : World} (hE : plE vid rn rs sn ss sub id = E ∧ E ≠ 0) (hb : Below w.heap.size w w') :
    PlPost vid rn rs sn ss sub id w (.returned (.tuple #[.int .i64 0, .int .i64 0, .int .i64 E])) w' :=
  ⟨0, 0, by rw [hE.1]; rfl, hb, fun _ => ⟨rfl, rfl⟩, fun h => absurd (hE.1.symm.trans h) hE.2⟩
structure TP (w W : World) (vid : Int) (rx : Option Addr) (rn rc : Nat) (sx : Option Addr) (sn sc : Nat) : Prop where
  hb : W.heap[w.heap.size]? = some (.cells #[.int .i64 vid, .slice rx rn rc, .slice sx sn sc] 52)
  below : Below w.heap.size w W
theorem TP.later {w W W' : World} {vid : Int} {rx : Option Addr} {rn rc : Nat} {sx : Option Addr} {sn sc : Nat} (h : TP w W vid rx rn rc sx sn sc) (hb : Below W.heap.size W W') : TP w W' vid rx rn rc sx sn sc :=
  ⟨heap_later hb h.hb, h.below.trans (hb.mono h.below.size)⟩

end Go.Proofs.YtlalgkjollgcbaaGreat
/- Unface of package vpc. -/
namespace Go.Proofs.YtlalgkjollgcbaaGreat
open Go.RowKit Go.Shelf

theorem fcAt_mem {fs : List Fc} {i : Nat} (h : i < fs.length) : fcAt fs i ∈ fs := by
  unfold fcAt
  rw [List.getD_eq_getElem?_getD, List.getElem?_eq_getElem h]
  exact List.getElem_mem h
/-- Faces of the call's own, by their elements. -/
theorem OFs.mk' {w : World} {base : Nat} {v : Value} {fs : List Fc} (h : OwnF w base v fs) (ho : ∀ f ∈ fs, OwnI w base (.slice f.x f.n f.c) f.ns) : OFs w base v fs fs.length :=
  ⟨h, fun i hi => ho _ (fcAt_mem hi), fun i hi hi2 => by omega⟩
theorem OFs.each {w : World} {base : Nat} {v : Value} {fs : List Fc} (h : OFs w base v fs fs.length) : ∀ f ∈ fs, OwnI w base (.slice f.x f.n f.c) f.ns := fun f hf => by
  obtain ⟨i, hi, rfl⟩ := List.getElem_of_mem hf
  have e : fcAt fs i = fs[i] := by unfold fcAt; rw [List.getD_eq_getElem?_getD, List.getElem?_eq_getElem hi]; rfl
  have := h.own i hi
  rw [e] at this
  exact this
/-- One subnet's row of faces changes in its own block: all rows stand, the changed one with what it holds now. -/
theorem OSs.cut {w w' : World} {base i gf kf cf : Nat} {v : Value} {ts : List Sb} {gs : List Fc} {cur : Array Value} (h : OSs w base v ts ts.length) (hi : i < ts.length) (hg : w.grownBy w' (some gf)) (hb : w.heap[gf]? = some (.cells cur 99))
    (hx : (Value.slice (sbAt ts i).x (sbAt ts i).n (sbAt ts i).c).ownBlock = some gf) (hO : OwnF w' base (.slice (some ⟨gf, 0, none⟩) kf cf) gs) (hsub : ∀ f ∈ gs, f ∈ (sbAt ts i).fs) :
    OFa w' base (ts.set i (withF (sbAt ts i) (some ⟨gf, 0, none⟩) kf cf gs)) := fun s hs => by
  have hI : ∀ k, k < ts.length → ∀ f ∈ (sbAt ts k).fs, OwnI w' base (.slice f.x f.n f.c) f.ns := fun k hk f hf => by
    have h1 := (h.own k hk).each f hf
    exact h1.kept hg (fun q hq e => by subst e; exact h1.ne hb (by decide) hq)
  obtain ⟨k, hk, rfl⟩ := List.getElem_of_mem hs
  have hk' : k < ts.length := by simpa using hk
  rw [List.getElem_set]
  by_cases e : i = k
  · rw [if_pos e]
    exact OFs.mk' hO (fun f hf => hI i hi f (hsub f hf))
  · rw [if_neg e]
    have e2 : sbAt ts k = ts[k] := by unfold sbAt; rw [List.getD_eq_getElem?_getD, List.getElem?_eq_getElem hk']; rfl
    rw [← e2]
    exact OFs.mk' ((h.own k hk').row.kept hg (fun q hq e3 => by subst e3; exact h.apart i k hi hk' e _ hx hq)) (hI k hk')
theorem cell_of_heap {w w' : World} {b o : Nat} (h : w'.heap[b]? = w.heap[b]?) : w'.cell? ⟨b, o, none⟩ = w.cell? ⟨b, o, none⟩ := by simp [World.cell?, h]
theorem unface_after {w6 w7 : World} {gf g bx base i k cf cap n : Nat} {vid : Int} {vR : Value} {ts : List Sb} {cur curf : Array Value} (hg7' : w6.drew.grownBy w7 (some gf)) (hn6 : w6.heap[bx]? = some (vpB vid vR (.slice (some ⟨g, 0, none⟩) n cap))) (hrow : OwnS w6 base (.slice (some ⟨g, 0, none⟩) n cap) ts)
    (hgf6 : w6.heap[gf]? = some (.cells curf 99)) (hg6 : w6.heap[g]? = some (.cells cur 90)) (hne1 : g ≠ gf) (hne2 : bx ≠ gf) (d3 : w6.cell? ⟨g, i * 4 + 3, none⟩ = some (.slice (some ⟨gf, 0, none⟩) (k + 1) cf)) :
    w6.grownBy w7 (some gf) ∧ w7.heap[bx]? = some (vpB vid vR (.slice (some ⟨g, 0, none⟩) n cap)) ∧ OwnS w7 base (.slice (some ⟨g, 0, none⟩) n cap) ts ∧ w7.cell? ⟨bx, 2, none⟩ = some (.slice (some ⟨g, 0, none⟩) n cap) ∧ w7.cell? ⟨g, i * 4 + 3, none⟩ = some (.slice (some ⟨gf, 0, none⟩) (k + 1) cf) ∧ w7.frozen? ⟨g, i * 4 + 3, none⟩ = false ∧ w7.heap[g]? = some (.cells cur 90) := by
  have hg7 : w6.grownBy w7 (some gf) := by
    obtain ⟨q1, q2, q3, q4, q5⟩ := hg7'
    exact ⟨q1, q2, q3, q4, q5⟩
  have hn7 := grown_box hg7 hne2 hn6
  have hrow7 := hrow.kept hg7 (fun q hq e => by subst e; exact hrow.ne hgf6 (by decide) hq)
  have hgg7 := grown_box hg7 hne1 hg6
  exact ⟨hg7, hn7, hrow7, (box_cells hn7).1 2, (cell_of_heap (hgg7.trans hg6.symm)).trans d3, hrow7.frozen _, hgg7⟩
def UnfaceR (vid : Int) (rs : List Rg) (sn : Nat) (ss : List Sb) (sub id : Int) (w : World) (V : Value) : Prop := ∃ ts i j x n c, FaceAt sn ss sub id i j ∧ sameSs ss ts ∧ n = ((sbAt ts i).fs.take j ++ (sbAt ts i).fs.drop (j + 1)).length ∧ NV w vid V rs (ts.set i (withF (sbAt ts i) x n c ((sbAt ts i).fs.take j ++ (sbAt ts i).fs.drop (j + 1))))

end Go.Proofs.YtlalgkjollgcbaaGreat
/- CheckVpc of the reference answers as Check of package vpc. -/
namespace Go.Proofs.YtlalgkjollgcbaaGreat
open Go.RowKit Go.Shelf

theorem rchk_eq {w : World} {vid : Int} {rx : Option Addr} {rn rc : Nat} {rs : List Rg} {sx : Option Addr} {sn sc : Nat} {ss : List Sb} (hv : Vp w rx rn rc rs sx sn sc ss) : rchkV vid rn rs sn ss = chkV vid rn rs sn ss := by
  unfold rchkV chkV
  rw [rf_eq hv.ranges.len, sf_eq hv.subs.len (fun i hi => ⟨(hv.subs.faces i hi).2.2.len, fun k hk => ((hv.subs.faces i hi).2.2.addrs k hk).2.2.len⟩)]
theorem checkVpc_is (vid : Int) (rx : Option Addr) (rn rc : Nat) (rs : List Rg) (sx : Option Addr) (sn sc : Nat) (ss : List Sb) (t : Int) (h : chkV vid rn rs sn ss = t) (w : World) (hv : Vp w rx rn rc rs sx sn sc ss) (hrn : rn ≤ 9223372036854775807) (hsn : sn ≤ 9223372036854775807) :
    Calls Tryz.prog 31 #[.agg #[.int .i64 vid, .slice rx rn rc, .slice sx sn sc]] w fun e w' => e = .returned (.int .i64 t) ∧ Below w.heap.size w w' := by
  rw [← h, ← rchk_eq (vid := vid) hv]
  exact checkVpc_any vid rx rn rc rs sx sn sc ss w hv hrn hsn
end Go.Proofs.YtlalgkjollgcbaaGreat
/- Grow, Concat and Put at numbers. -/
namespace Go.Proofs.YtlalgkjollgcbaaGreat
open Go.RowKit Go.Shelf

/-- These lie one behind the other from there on. -/
def RunI (w : World) (x : Option Addr) (n : Nat) (es : List Int) : Prop := es.length = n ∧ (0 < n → x ≠ none) ∧ ∀ ad, x = some ad → ∀ j u, (flatI es)[j]? = some u → w.cell? (ad.add j) = some u
theorem RunI.later {w w' : World} {x : Option Addr} {n : Nat} {es : List Int} (h : RunI w x n es) (hb : Below w.heap.size w w') : RunI w' x n es :=
  ⟨h.1, h.2.1, fun ad hx j u hj => cell_later_add hb (h.2.2 ad hx j u hj)⟩
theorem RunI.empty (w : World) (x : Option Addr) : RunI w x 0 [] := ⟨rfl, fun h => by omega, fun _ _ j u hj => by simp [flatI] at hj⟩
theorem IS.run {w : World} {x : Option Addr} {n : Nat} {es : List Int} (h : IS w x n es) : RunI w x n es :=
  ⟨h.len, (fun h0 e => by obtain ⟨b, o, hx, -⟩ := h.cells 0 h0; rw [e] at hx; cases hx), fun ad hx => by subst hx; exact h.flat_cells⟩
theorem RunI.take {w : World} {x : Option Addr} {n i : Nat} {es : List Int} (h : RunI w x n es) (hi : i ≤ n) : RunI w x i (es.take i) := by
  refine ⟨by rw [List.length_take, h.1]; omega, fun h0 => h.2.1 (by omega), fun ad hx j u hj => h.2.2 ad hx j u ?_⟩
  conv => lhs; rw [← List.take_append_drop i es]
  rw [flatI_app, List.getElem?_append_left (List.getElem?_eq_some_iff.1 hj).1]
  exact hj
theorem RunI.drop {w : World} {b o n i c : Nat} {es : List Int} (h : RunI w (some ⟨b, o, none⟩) n es) (hi : i ≤ n) (hnc : n ≤ c) : RunI w (if c = i then some ⟨b, o, none⟩ else some ⟨b, o + i, none⟩) (n - i) (es.drop i) := by
  refine ⟨by rw [List.length_drop, h.1], fun _ => by split <;> simp, fun ad hx j u hj => ?_⟩
  have hlt : i < n := by
    by_cases e : i < n
    · exact e
    · rw [List.drop_eq_nil_of_le (by rw [h.1]; omega)] at hj
      simp [flatI] at hj
  rw [if_neg (by omega)] at hx
  cases hx
  have h2 := h.2.2 _ rfl (i + j) u (by
    conv => lhs; rw [← List.take_append_drop i es]
    have hm : (flatI (es.take i)).length = i := by rw [flatI_len, List.length_take, h.1, show min i n = i by omega]
    rw [flatI_app, List.getElem?_append_right (by rw [hm]; omega), hm, show i + j - i = j by omega]
    exact hj)
  rw [addr_add] at h2 ⊢
  rw [show o + i + j = o + (i + j) by omega]
  exact h2

def catITo (ql : Nat → List Int) : Nat → List Int
  | 0 => []
  | j + 1 => catITo ql j ++ ql j

/-- What Put answers: it stands ahead of the first one whose number is greater. -/
def PutIPost (e : Int) (n : Nat) (ps : List Int) (w : World) (r : Ending) (w' : World) : Prop :=
  ∃ v, r = .returned v ∧ Below w.heap.size w w' ∧ ∃ i, i ≤ n ∧ (∀ j, j < i → ¬ e < (inAt ps j)) ∧ (i < n → e < (inAt ps i)) ∧ OwnI w' w.heap.size v (ps.take i ++ [e] ++ ps.drop i)

end Go.Proofs.YtlalgkjollgcbaaGreat
/- least of package vpc. -/
namespace Go.Proofs.YtlalgkjollgcbaaGreat
open Go.RowKit Go.Shelf Go.Maps

theorem ownsMap_later {w w' : World} {bm n : Nat} {D : DataW Unit} (h : w.ownsMap Tryz.prog 3 (plainElem Tryz.prog 3) bm n D) (hb : Below w.heap.size w w') : w'.ownsMap Tryz.prog 3 (plainElem Tryz.prog 3) bm n D := by
  obtain ⟨es, cl, h1, h2⟩ := h
  exact ⟨es, cl, heap_later hb h1, h2⟩
/-- The least address that is free, or none. -/
def LeastPost (s : Sb) (w : World) (e : Ending) (w' : World) : Prop :=
  Below w.heap.size w w' ∧ ((∃ y, e = .returned (.tuple #[.int .i64 y, .bool true]) ∧ usB s.a s.l y = true ∧ y ∉ allNs s.fs ∧ ∀ z, s.a < z → z < y → z ∈ allNs s.fs) ∨ (e = .returned (.tuple #[.int .i64 0, .bool false]) ∧ ∀ z, usB s.a s.l z = true → z ∈ allNs s.fs))

end Go.Proofs.YtlalgkjollgcbaaGreat
/- given, faceAddr of package vpc. -/
namespace Go.Proofs.YtlalgkjollgcbaaGreat
open Go.RowKit Go.Shelf Go.Maps

/-- y is the least address that s can give. -/
structure Least (s : Sb) (y : Int) : Prop where
  use : usB s.a s.l y = true
  free : y ∉ allNs s.fs
  first : ∀ z, s.a < z → z < y → z ∈ allNs s.fs
def GivenPost (s : Sb) (w : World) (e : Ending) (w' : World) : Prop :=
  Below w.heap.size w w' ∧ ((∃ y, e = .returned (.tuple #[.int .i64 y, .int .i64 0]) ∧ Least s y) ∨ (e = .returned (.tuple #[.int .i64 0, .int .i64 8]) ∧ ∀ z, usB s.a s.l z = true → z ∈ allNs s.fs))

/-- What a new face of s is told. -/
def FaPost (s : Sb) (id : Int) (w : World) (e : Ending) (w' : World) : Prop :=
  Below w.heap.size w w' ∧ if wth id 1 65536 = false then e = .returned (.tuple #[.int .i64 0, .int .i64 3]) else if 0 ≤ fstAt s.n (fun i => (fcAt s.fs i).id == id) then e = .returned (.tuple #[.int .i64 0, .int .i64 6]) else if s.n = 8 then e = .returned (.tuple #[.int .i64 0, .int .i64 2]) else
    (∃ y, e = .returned (.tuple #[.int .i64 y, .int .i64 0]) ∧ Least s y) ∨ (e = .returned (.tuple #[.int .i64 0, .int .i64 8]) ∧ ∀ z, usB s.a s.l z = true → z ∈ allNs s.fs)
theorem FaPost.c3 {s : Sb} {id : Int} {w w' : World} (h : wth id 1 65536 = false) (hb : Below w.heap.size w w') : FaPost s id w (.returned (.tuple #[.int .i64 0, .int .i64 3])) w' := ⟨hb, by rw [if_pos h]⟩
theorem FaPost.c6 {s : Sb} {id : Int} {w w' : World} (h : wth id 1 65536 = true) (h2 : 0 ≤ fstAt s.n (fun i => (fcAt s.fs i).id == id)) (hb : Below w.heap.size w w') : FaPost s id w (.returned (.tuple #[.int .i64 0, .int .i64 6])) w' := ⟨hb, by rw [if_neg (by simp [h]), if_pos h2]⟩
theorem FaPost.c2 {s : Sb} {id : Int} {w w' : World} (h : wth id 1 65536 = true) (h2 : ¬ 0 ≤ fstAt s.n (fun i => (fcAt s.fs i).id == id)) (h3 : s.n = 8) (hb : Below w.heap.size w w') : FaPost s id w (.returned (.tuple #[.int .i64 0, .int .i64 2])) w' := ⟨hb, by rw [if_neg (by simp [h]), if_neg h2, if_pos h3]⟩
theorem FaPost.c0 {s : Sb} {id : Int} {w w' : World} {e : Ending} (h : wth id 1 65536 = true) (h2 : ¬ 0 ≤ fstAt s.n (fun i => (fcAt s.fs i).id == id)) (h3 : ¬ s.n = 8) (hb : Below w.heap.size w w') (hh : (∃ y, e = .returned (.tuple #[.int .i64 y, .int .i64 0]) ∧ Least s y) ∨ (e = .returned (.tuple #[.int .i64 0, .int .i64 8]) ∧ ∀ z, usB s.a s.l z = true → z ∈ allNs s.fs)) : FaPost s id w e w' := ⟨hb, by rw [if_neg (by simp [h]), if_neg h2, if_neg h3]; exact hh⟩

end Go.Proofs.YtlalgkjollgcbaaGreat
