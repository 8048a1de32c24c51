/- slices.Index and Contains at links; joined of package route. -/
import Derived.Test.YtgealgjeboainaaGreatMR14
import Derived.Lib.MinMax
namespace Go.Proofs.YtgealgjeboainaaGreat
open Go.RowKit Go.Shelf

theorem link_struct : Tryz.prog.underlying 57 = some (.struct (Tryz.prog.fieldsOf 57)) := by kernel_rfl
theorem link_held : Tryz.prog.stoodInHeld 57 = false := by kernel_rfl
theorem eq_link (a l c m : Int) (w : World) : (binOp .eql 57 (.agg #[.int .i64 a, .int .i64 l]) (.agg #[.int .i64 c, .int .i64 m])).run Tryz.prog w = .ok (.bool (decide (a = c) && decide (l = m))) w := by
  rw [run_eql_struct, show (10000 : Nat) = 9999 + 1 from rfl, run_equalIn_agg w 9999 _ _ _ link_struct link_held]
  simp only [Program.fieldsOf, Tryz.underlying57]
  go_simp
  by_cases h1 : a = c <;> by_cases h2 : l = m <;> simp [h1, h2]
theorem link_guard : Tryz.prog.eqGuardType Tryz.prog.depth 57 = false := by kernel_rfl
theorem guard_link (op : BinOp) (x y : Operand) (p q : Array Value) (w : World) : (eqGuard op 57 x y (.agg p) (.agg q)).run Tryz.prog w = .ok () w := by
  have h := link_guard
  unfold eqGuard
  cases op <;> simp [go_sem, h]
theorem quiet_eqlK {ops : Array Oper} {C : World → Prop} {Q : Act → Prop} {A : Act} {o : Oper} {rest : List Oper} (x y : Operand) (t : TypeId) (a l c m : Int) (hop : o.op = .binOp .eql 57 x y t) (hg : o.guard = none)
    (hx : A.eval x = .agg #[.int .i64 a, .int .i64 l]) (hy : A.eval y = .agg #[.int .i64 c, .int .i64 m]) (h : wpQuiet Tryz.prog ops C Q rest (A.put o.dst (.bool (decide (a = c) && decide (l = m))))) : wpQuiet Tryz.prog ops C Q (o :: rest) A := by
  unfold wpQuiet
  rw [if_pos (by simp [Region.wanted, hg])]
  refine ⟨_, fun w _ => ?_, h⟩
  unfold Oper.quietAt execOp
  rw [hop]
  simp only [hx, hy, Sem.run_bind, guard_link, eq_link, Result.andThen_ok, Sem.run_pure]
  exact ⟨rfl, rfl⟩
def eqLk (ps : List (Int × Int)) (a l : Int) (i : Nat) : Bool := decide (a = at0 ps i) && decide (l = at1 ps i)

set_option maxRecDepth 20000 in
set_option maxHeartbeats 800000 in
theorem indexLk_any (a l : Int) (x : Option Addr) (n c : Nat) (ps : List (Int × Int)) (w : World) (hp : PS w x n ps) (hn : n ≤ 64) :
    Calls Tryz.prog 48 #[.slice x n c, .agg #[.int .i64 a, .int .i64 l]] w fun e w' => (∃ r : Int, e = .returned (.int .i64 r) ∧ ((∃ i : Nat, i < n ∧ eqLk ps a l i = true ∧ (∀ j, j < i → eqLk ps a l j = false) ∧ r = i) ∨ ((∀ j, j < n → eqLk ps a l j = false) ∧ r = -1))) ∧ Below w.heap.size w w' := by
  go_enter Tryz.func48, Tryz.ntmps48
  go_wp2
  go_loopw [8] (fun i wr => ∃ k : Nat, k ≤ n ∧ i = .int .i64 k ∧ Below (w.heap.size + 1) (w.alloc (.cells #[.int .i64 a, .int .i64 l] 57)) wr ∧ (∀ j, j < k → eqLk ps a l j = false)) (fun i _ => n - (intOf i).toNat)
  case atStart => exact ⟨0, by omega, rfl, Below.refl _ _, fun j hj => by omega⟩
  case round =>
    obtain ⟨k, hk, rfl, hB, hno⟩ := hrel
    have hz := hB.size
    simp only [World.size_alloc] at hz
    by_cases hlt : k < n
    · have hp2 := (hp.later (bl1 w (.cells #[.int .i64 a, .int .i64 l] 57)))
      obtain ⟨b, o, rfl, c0, c1⟩ := hp2.cells k hlt
      have hbl := block_lt_of_cell c0
      simp only [World.size_alloc] at hbl
      have d0 : wr.cell? ⟨b, o + k * 2, none⟩ = some (.int .i64 (at0 ps k)) := (hB.cell (p := ⟨b, o + k * 2, none⟩) hbl).trans c0
      have d1 : wr.cell? ⟨b, o + k * 2 + 1, none⟩ = some (.int .i64 (at1 ps k)) := (hB.cell (p := ⟨b, o + k * 2 + 1, none⟩) hbl).trans c1
      have e0 : wr.cell? ⟨w.heap.size, 0, none⟩ = some (.int .i64 a) := (hB.cell (p := ⟨w.heap.size, 0, none⟩) (by show w.heap.size < _; omega)).trans (by simp)
      have e1 : wr.cell? ⟨w.heap.size, 1, none⟩ = some (.int .i64 l) := (hB.cell (p := ⟨w.heap.size, 1, none⟩) (by show w.heap.size < _; omega)).trans (by simp)
      have g0 := Ws.here e0
      have g1 := Ws.here e1
      have g2 := Ws.here d0
      have g3 := Ws.here d1
      have hlt' := hlt
      go_upto_region 4 with fail
      clear e0 e1 d0 d1 c0 c1
      refine wp_region_ws wr.heap.size (by kernel_rfl) (by kernel_rfl) ?_
      repeat (go_big_quiet_step (fail))
      refine quiet_eqlK _ _ _ a l (at0 ps k) (at1 ps k) rfl rfl rfl rfl ?_
      refine wpQuiet_nil ?_
      rintro _ ⟨u, rfl⟩
      have hu := hB.trans (u.property.mono hz)
      generalize u.val = wu at hu ⊢
      clear u g0 g1 g2 g3
      cases he : eqLk ps a l k
      all_goals have he' := he
      all_goals unfold eqLk at he'
      all_goals rw [he']
      · go_wp2
        go_roundw
        case rel => exact ⟨k + 1, hlt', by go_num, hu, fun j hj => by
          by_cases hj2 : j < k
          · exact hno j hj2
          · obtain rfl : j = k := by omega
            exact he⟩
        case measure => simp [intOf]; omega
      · go_wp2
        go_ret
        exact ⟨⟨_, rfl, .inl ⟨k, hlt', he, hno, rfl⟩⟩, (bl1 w _).trans (hu.mono (by omega))⟩
    · go_wp2
      go_ret
      exact ⟨⟨_, rfl, .inr ⟨fun j hj => hno j (by omega), rfl⟩⟩, (bl1 w _).trans (hB.mono (by omega))⟩

theorem eqLk_any {n : Nat} {ls : List (Int × Int)} {a b : Int} : anyAt n (eqLk ls a b) = true ↔ ∃ i, i < n ∧ at0 ls i = a ∧ at1 ls i = b := by
  constructor
  · intro h
    obtain ⟨i, hi, hf⟩ := anyAt_ex h
    unfold eqLk at hf
    simp only [Bool.and_eq_true, decide_eq_true_eq] at hf
    exact ⟨i, hi, hf.1.symm, hf.2.symm⟩
  · rintro ⟨i, hi, h1, h2⟩
    exact any_yes hi (by unfold eqLk; simp [h1, h2])
set_option maxRecDepth 20000 in
set_option maxHeartbeats 800000 in
theorem containsLk_any (a l : Int) (x : Option Addr) (n c : Nat) (ps : List (Int × Int)) (w : World) (hp : PS w x n ps) (hn : n ≤ 64) :
    Calls Tryz.prog 30 #[.slice x n c, .agg #[.int .i64 a, .int .i64 l]] w fun e w' => e = .returned (.bool (anyAt n (eqLk ps a l))) ∧ Below w.heap.size w w' := by
  have H := indexLk_any a l x n c ps (w.alloc (.cells #[.int .i64 a, .int .i64 l] 57)) (hp.later (bl1 w _)) hn
  have H' : Hid (Calls Tryz.prog 48 #[.slice x n c, .agg #[.int .i64 a, .int .i64 l]] (w.alloc (.cells #[.int .i64 a, .int .i64 l] 57)) fun e w' => (∃ r : Int, e = .returned (.int .i64 r) ∧ decide (r ≥ 0) = anyAt n (eqLk ps a l)) ∧ Below (w.alloc (.cells #[.int .i64 a, .int .i64 l] 57)).heap.size (w.alloc (.cells #[.int .i64 a, .int .i64 l] 57)) w') := (H.mono fun e w' h => by
    obtain ⟨⟨r, rfl, hr⟩, hb⟩ := h
    refine ⟨⟨r, rfl, ?_⟩, hb⟩
    rcases hr with ⟨i, hi, hfi, _, rfl⟩ | ⟨hno, rfl⟩
    · rw [any_yes hi hfi]; simp
    · rw [any_no hno]; rfl)
  clear H
  go_enter Tryz.func30, Tryz.ntmps30
  go_wp2_with fail
  refine H'.out.mono ?_
  rintro e w1 ⟨⟨r, rfl, hr⟩, hb1⟩
  go_wp2
  go_ret
  exact ⟨rfl, (bl1 w _).trans (hb1.mono (by simp))⟩
/-- Does a link join these? -/
def jnB (ln : Nat) (ls : List (Int × Int)) (a b : Int) : Bool := anyAt ln (eqLk ls (min a b) (max a b))
set_option maxRecDepth 20000 in
set_option maxHeartbeats 800000 in
theorem joined_any (x : Option Addr) (n c : Nat) (lx : Option Addr) (ln lc : Nat) (ls : List (Int × Int)) (a b : Int) (w : World) (hl : PS w lx ln ls) (hln : ln ≤ 64) :
    Calls Tryz.prog 14 #[.agg #[.slice x n c, .slice lx ln lc], .int .i64 a, .int .i64 b] w fun e w' => e = .returned (.bool (jnB ln ls a b)) ∧ Below w.heap.size w w' := by
  have hbd : Hid (jnB ln ls a b = anyAt ln (eqLk ls (min a b) (max a b))) := rfl
  go_enter Tryz.func14, Tryz.ntmps14
  go_wp2_with fail
  refine (containsLk_any (min a b) (max a b) lx ln lc ls _ (hl.later (bl1 w _)) hln).mono ?_
  rintro e w1 ⟨rfl, hb1⟩
  go_wp2
  go_ret
  exact ⟨ret_bool hbd.out.symm, (bl1 w _).trans (hb1.mono (by simp))⟩
theorem joined_is (x : Option Addr) (n c : Nat) (lx : Option Addr) (ln lc : Nat) (ls : List (Int × Int)) (a b : Int) (t : Bool) (h : jnB ln ls a b = t) (w : World) (hl : PS w lx ln ls) (hln : ln ≤ 64) :
    Calls Tryz.prog 14 #[.agg #[.slice x n c, .slice lx ln lc], .int .i64 a, .int .i64 b] w fun e w' => e = .returned (.bool t) ∧ Below w.heap.size w w' := by
  subst h
  exact joined_any x n c lx ln lc ls a b w hl hln
end Go.Proofs.YtgealgjeboainaaGreat
/- Table of package route. -/
namespace Go.Proofs.YtgealgjeboainaaGreat
open Go.RowKit Go.Shelf

/-- The routes to a network. -/
def vT (v : Vn) : List Rg := v.rs.map fun r => ⟨r.a, r.l, v.id⟩
theorem vT_len (v : Vn) : (vT v).length = v.rs.length := by simp [vT]
theorem vT_take {v : Vn} {q : Nat} (h : q < v.rs.length) : (vT v).take (q + 1) = (vT v).take q ++ [⟨(rgAt v.rs q).a, (rgAt v.rs q).l, v.id⟩] := by
  rw [List.take_add_one, List.getElem?_eq_getElem (by rw [vT_len]; exact h), Option.toList_some, rgAt_get h]
  simp [vT]
/-- Does the table of id lead to v? -/
def nearB (ln : Nat) (ls : List (Int × Int)) (id : Int) (v : Vn) : Bool := (v.id == id) || jnB ln ls v.id id
/-- The routes, as they are gathered. -/
def rawT (ln : Nat) (ls : List (Int × Int)) (id : Int) (vs : List Vn) : List Rg := vs.flatMap fun v => if nearB ln ls id v = true then vT v else []
theorem rawT_take {ln : Nat} {ls : List (Int × Int)} {id : Int} {vs : List Vn} {k : Nat} (h : k < vs.length) : rawT ln ls id (vs.take (k + 1)) = rawT ln ls id (vs.take k) ++ (if nearB ln ls id (vnAt vs k) = true then vT (vnAt vs k) else []) := by
  unfold rawT
  rw [List.take_add_one, List.getElem?_eq_getElem h, vnAt_get h, Option.toList_some, List.flatMap_append]
  simp only [List.flatMap_cons, List.flatMap_nil, List.append_nil]
theorem rawT_len {ln : Nat} {ls : List (Int × Int)} {id : Int} : ∀ {vs : List Vn}, (∀ v ∈ vs, v.rs.length ≤ 64) → (rawT ln ls id vs).length ≤ vs.length * 64
  | [], _ => by simp [rawT]
  | v :: vs, h => by
    have h1 := rawT_len (ln := ln) (ls := ls) (id := id) (vs := vs) (fun u hu => h u (by simp [hu]))
    have h2 := h v (by simp)
    unfold rawT at h1 ⊢
    rw [List.flatMap_cons, List.length_append, List.length_cons]
    have h3 : (if nearB ln ls id v = true then vT v else []).length ≤ 64 := by
      split
      · rw [vT_len]; exact h2
      · simp
    omega
/-- One list is the other, sorted. -/
def SortOf (L L' : List Rg) : Prop := L'.Perm L ∧ L'.Pairwise fun r s => r.a ≤ s.a
/-- SortFunc sorts that list. -/
def Sorts (L : List Rg) : Prop := ∀ (W : World) (base : Nat) (v : Value), OwnT W base v L → base ≤ W.heap.size → Calls Tryz.prog 15 #[v, .func (.func 16) #[] #[]] W fun e w' => e = .returned (.tuple #[]) ∧ ∃ L', OwnT w' base v L' ∧ SortOf L L' ∧ Below base W w'
def TabPost (n : Nat) (vs : List Vn) (ln : Nat) (ls : List (Int × Int)) (id : Int) (w : World) (e : Ending) (w' : World) : Prop :=
  ∃ v L, e = .returned (.tuple #[v, .int .i64 (grpE n vs ln ls id)]) ∧ OwnT w' w.heap.size v L ∧ (grpE n vs ln ls id = 0 → SortOf (rawT ln ls id vs) L) ∧ (grpE n vs ln ls id ≠ 0 → L = []) ∧ Below w.heap.size w w'

/-- What chkN = 0 says. -/
theorem chkN_zero {n : Nat} {vs : List Vn} {ln : Nat} {ls : List (Int × Int)} (h : chkN n vs ln ls = 0) : n ≤ 6 ∧ ln ≤ 12 ∧ vpcsB n vs = true ∧ linksB n vs ln ls = true ∧ apB ls n vs = true := by
  unfold chkN at h
  split at h
  · omega
  · rename_i hm
    simp only [Bool.or_eq_true, decide_eq_true_eq] at hm
    split at h
    · rename_i hw
      simp only [Bool.and_eq_true] at hw
      exact ⟨by omega, by omega, hw.1.1, hw.1.2, hw.2⟩
    · omega
theorem grpE_zero {n : Nat} {vs : List Vn} {ln : Nat} {ls : List (Int × Int)} {id : Int} (h : grpE n vs ln ls id = 0) : chkN n vs ln ls = 0 ∧ ¬ vplace n vs id < 0 := by
  unfold grpE at h
  split at h
  · rename_i hz
    split at h
    · omega
    · exact ⟨hz, by assumption⟩
  · rename_i hz
    exact absurd h hz
set_option maxRecDepth 100000 in
set_option maxHeartbeats 6400000 in
theorem table_any (x : Option Addr) (n c : Nat) (vs : List Vn) (lx : Option Addr) (ln lc : Nat) (ls : List (Int × Int)) (id : Int) (w : World) (hp : VS w x n vs) (hn : n ≤ 9223372036854775807) (hnc : n ≤ c) (hl : PS w lx ln ls) (hln : ln ≤ 9223372036854775807) (hS : grpE n vs ln ls id = 0 → Sorts (rawT ln ls id vs)) :
    Calls Tryz.prog 5 #[.agg #[.slice x n c, .slice lx ln lc], .int .i64 id] w (TabPost n vs ln ls id w) := by
  have hvl : Hid (vs.length = n) := hp.len
  go_enter Tryz.func5, Tryz.ntmps5
  go_upto_region 1 with fail
  obtain ⟨w2, hw2⟩ : ∃ w2, w2 = w.alloc (netO x n c lx ln lc) := ⟨_, rfl⟩
  rw [← hw2]
  have h02 : Below w.heap.size w w2 := by rw [hw2]; exact bl1 w _
  have hbox : w2.heap[w.heap.size]? = some (netO x n c lx ln lc) := by rw [hw2]; exact heap_new _ rfl
  clear hw2
  obtain ⟨hcl, -⟩ := box_cells hbox
  have q0 : w2.cell? ⟨w.heap.size, 0, none⟩ = some (.slice x n c) := hcl 0
  have q1 : w2.cell? ⟨w.heap.size, 1, none⟩ = some (.slice lx ln lc) := hcl 1
  clear hcl hbox
  have hp2 := hp.later h02
  have hl2 := hl.later h02
  have hsz : Hid (w.heap.size ≤ w2.heap.size) := h02.size
  have hG := group_any x n c vs lx ln lc ls id w2 hp2 hn hnc hl2 hln
  generalize hbk : w.heap.size = bk at *
  go_wp2_with fail
  refine hG.mono ?_
  rintro e w3 ⟨gv, rfl, -, hb3⟩
  clear hG
  by_cases hz : grpE n vs ln ls id = 0
  · obtain ⟨hn6, hl12, hvb, -, -⟩ := chkN_zero (grpE_zero hz).1
    have hfw := vpcs_few hvb
    have hlen : Hid (∀ k, (rawT ln ls id (vs.take k)).length ≤ 64 * 64) := fun k => by
      have h1 := rawT_len (ln := ln) (ls := ls) (id := id) (vs := vs.take k) (fun v hv => by
        obtain ⟨i, hi, rfl⟩ := List.getElem_of_mem (List.mem_of_mem_take hv)
        rw [← vnAt_get hi]
        rw [((hp.vps i (by rw [← hvl.out]; exact hi)).2.2.2).ranges.len]
        exact (hfw i (by rw [← hvl.out]; exact hi)).2)
      have h2 : (vs.take k).length ≤ n := by rw [List.length_take, hvl.out]; omega
      exact Nat.le_trans h1 (by omega)
    have hz' : Hid (grpE n vs ln ls id = 0) := hz
    rw [hz]
    have hS' := hS hz
    clear hS hz
    have r3 := cell_later hb3 q0
    go_wp2
    clear r3
    go_loopw [8, 25] (fun u i wr => ∃ k : Nat, k ≤ n ∧ i = .int .i64 k ∧ Below w2.heap.size w2 wr ∧ OwnT wr w2.heap.size u (rawT ln ls id (vs.take k))) (fun _ i _ => n - (intOf i).toNat)
    case atStart => exact ⟨0, by omega, rfl, hb3, World.ownsRow_nil _ _ _ _⟩
    case round =>
      obtain ⟨k, hk, rfl, hB, hO⟩ := hrel
      by_cases hlt : k < n
      · have hlt' : Hid (k < n) := hlt
        have hrk := (hp2.vps k hlt).2.2.2.ranges
        have hrn6 := (hfw k hlt).2
        obtain ⟨b, o, hxo, c0, c1, c2⟩ := (hp2.later hB).cells k hlt
        rw [hxo]
        have r0 := cell_later hB q0
        have r1 := cell_later hB q1
        rw [hxo] at r0
        go_upto_region 8 with fail
        obtain ⟨w4, hw4⟩ : ∃ w4, w4 = wr.alloc (vnO (vnAt vs k)) := ⟨_, rfl⟩
        rw [← hw4]
        have h34 : Below wr.heap.size wr w4 := by rw [hw4]; exact bl1 wr _
        have hbv : w4.heap[wr.heap.size]? = some (vnO (vnAt vs k)) := by rw [hw4]; exact heap_new _ rfl
        clear hw4 c0 c1 c2
        have s0 := cell_later h34 r0
        have s1 := cell_later h34 r1
        clear r0 r1
        have hO4 := hO.later h34
        have hB4 := hB.trans (h34.mono hB.size)
        generalize wr.heap.size = bv at *
        clear h34 hB hO
        clear wr
        have hbvc := (box_cells hbv).1
        have t0 : w4.cell? ⟨bv, 0, none⟩ = some (.int .i64 (vnAt vs k).id) := hbvc 0
        have t1 : w4.cell? ⟨bv, 1, none⟩ = some (.slice (vnAt vs k).rx (vnAt vs k).rn (vnAt vs k).rc) := hbvc 1
        have t2 : w4.cell? ⟨bv, 2, none⟩ = some (.slice (vnAt vs k).sx (vnAt vs k).sn (vnAt vs k).sc) := hbvc 2
        clear hbvc
        cases hid : ((vnAt vs k).id == id)
        · have hne : ((vnAt vs k).id != id) = true := by simp [bne, hid]
          cases hj : jnB ln ls (vnAt vs k).id id
          · have hnear : Hid (¬ nearB ln ls id (vnAt vs k) = true) := by show ¬ _; unfold nearB; rw [hid, hj]; simp
            go_wp2_with (go_at_call 14; refine (joined_is _ _ _ _ _ _ _ _ _ _ hj _ (hl2.later hB4) (by omega)).mono ?_; rintro e w5 ⟨rfl, hb5⟩)
            go_roundw
            case rel => exact ⟨k + 1, hlt'.out, by go_num, hB4.trans (hb5.mono hB4.size), by rw [rawT_take (by rw [hvl.out]; exact hlt'.out), if_neg hnear.out, List.append_nil]; exact hO4.later hb5⟩
            case measure => simp [intOf]; have := hlt'.out; omega
          · have hnear : Hid (nearB ln ls id (vnAt vs k) = true) := by show _ = _; unfold nearB; rw [hj]; simp
            go_wp2_with fail
            refine (joined_is _ _ _ _ _ _ _ _ _ _ hj _ (hl2.later hB4) (by omega)).mono ?_
            rintro e wr ⟨rfl, hb5⟩
            have hB5 := hB4.trans (hb5.mono hB4.size)
            have hbv5 := heap_later hb5 hbv
            have hO5 := hO4.later hb5
            have x1 := cell_later hb5 t1
            clear s0 s1 t0 t1 t2 hb5 hbv hO4 hB4
            go_wp2
            obtain ⟨wo, rfl⟩ : ∃ wo, wo = wr := ⟨_, rfl⟩
            go_loopw [8, 44] (fun u i wr => ∃ q : Nat, q ≤ (vnAt vs k).rn ∧ i = .int .i64 q ∧ Below w2.heap.size w2 wr ∧ wr.heap[bv]? = some (vnO (vnAt vs k)) ∧ OwnT wr w2.heap.size u (rawT ln ls id (vs.take k) ++ (vT (vnAt vs k)).take q)) (fun _ i _ => (vnAt vs k).rn - (intOf i).toNat)
            case atStart => exact ⟨0, by omega, rfl, hB5, hbv5, by simpa using hO5⟩
            case round =>
              obtain ⟨q, hq, rfl, hBq, hbvq, hOq⟩ := hrel
              by_cases hq2 : q < (vnAt vs k).rn
              · have hq' : Hid (q < (vnAt vs k).rn) := hq2
                obtain ⟨br, or, hxr, d0, d1, d2⟩ := ((hrk.later hBq)).cells q hq2
                rw [hxr]
                have hbvc := (box_cells hbvq).1
                have t0 : wr.cell? ⟨bv, 0, none⟩ = some (.int .i64 (vnAt vs k).id) := hbvc 0
                clear hbvc
                have t0' : ∀ o, (wr.alloc o).cell? ⟨bv, 0, none⟩ = some (.int .i64 (vnAt vs k).id) := fun o => cell_later (bl1 wr o) t0
                have hszq : Hid (w2.heap.size ≤ wr.heap.size) := hBq.size
                generalize hrg : rgAt (vnAt vs k).rs q = rg at *
                go_wp2_with (at_builtin; refine Hid.out ?_)
                unfold Hid
                refine wpList_append_T rfl _ _ rfl w2.heap.size _ _ rfl (hOq.later (bl2 wr _ _)) _ 1 1 [⟨rg.a, rg.l, (vnAt vs k).id⟩] rfl rfl ?_ ?_ ?_ ?_
                · intro j u hj
                  have hn := heap_new (W := wr.alloc (.cells #[.int .i64 rg.a, .int .i64 rg.l, .int .i64 rg.p] 48)) (.cells #[.int .i64 rg.a, .int .i64 rg.l, .int .i64 (vnAt vs k).id] 36) rfl
                  rw [addr_add, Nat.zero_add]
                  simp only [World.size_alloc] at hn ⊢
                  exact ((box_cells hn).1 j).trans (by rw [List.getElem?_toArray]; exact hj)
                · have h1 := hlen.out k
                  rw [List.length_append, List.length_take]
                  omega
                · have := hszq.out
                  simp
                  omega
                intro v8 w8 hT8 hg8
                have hOa := hOq.later (bl2 wr (.cells #[.int .i64 rg.a, .int .i64 rg.l, .int .i64 rg.p] 48) (.cells #[.int .i64 rg.a, .int .i64 rg.l, .int .i64 (vnAt vs k).id] 36))
                have hba := heap_later (bl2 wr (.cells #[.int .i64 rg.a, .int .i64 rg.l, .int .i64 rg.p] 48) (.cells #[.int .i64 rg.a, .int .i64 rg.l, .int .i64 (vnAt vs k).id] 36)) hbvq
                have hbv8 : w8.heap[bv]? = some (vnO (vnAt vs k)) := (hg8.block bv (Array.getElem?_eq_some_iff.1 hba).1 (fun e => OwnT.ne hOa hba (by decide) e.symm)).trans hba
                have hB8 : Below w2.heap.size w2 w8 := below_grownr (hBq.trans ((bl2 wr _ _).mono hszq.out)) hg8 (fun k e => (hOa.lt k e).1)
                have hT8' : Hid (OwnT w8 w2.heap.size v8 (rawT ln ls id (vs.take k) ++ (vT (vnAt vs k)).take (q + 1))) := by
                  show OwnT _ _ _ _
                  rw [vT_take (by rw [hrk.len]; exact hq'.out), hrg, ← List.append_assoc]
                  exact hT8
                clear hOa hba hg8 hT8 hOq hBq hbvq t0 t0' d0 d1 d2
                go_wp2
                go_roundw
                case rel => exact ⟨q + 1, hq'.out, by go_num, hB8, hbv8, hT8'.out⟩
                case measure => simp [intOf]; have := hq'.out; omega
              · obtain rfl : q = (vnAt vs k).rn := by omega
                have hTk : Hid (OwnT wr w2.heap.size u8 (rawT ln ls id (vs.take (k + 1)))) := by
                  show OwnT _ _ _ _
                  rw [rawT_take (by rw [hvl.out]; exact hlt'.out), if_pos hnear.out]
                  have e : (vT (vnAt vs k)).take (vnAt vs k).rn = vT (vnAt vs k) := List.take_of_length_le (by rw [vT_len, hrk.len]; exact Nat.le_refl _)
                  rw [e] at hOq
                  exact hOq
                go_wp2
                go_roundw
                case rel => exact ⟨k + 1, hlt'.out, by go_num, hBq, hTk.out⟩
                case measure => simp [intOf]; have := hlt'.out; omega
        · have hne : ((vnAt vs k).id != id) = false := by simp [bne, hid]
          have hnear : Hid (nearB ln ls id (vnAt vs k) = true) := by show _ = _; unfold nearB; rw [hid]; simp
          generalize w4 = wr at *
          have hB5 := hB4
          have hbv5 := hbv
          have hO5 := hO4
          clear hB4 hbv hO4
          go_wp2
          obtain ⟨wo, rfl⟩ : ∃ wo, wo = wr := ⟨_, rfl⟩
          go_loopw [8, 44] (fun u i wr => ∃ q : Nat, q ≤ (vnAt vs k).rn ∧ i = .int .i64 q ∧ Below w2.heap.size w2 wr ∧ wr.heap[bv]? = some (vnO (vnAt vs k)) ∧ OwnT wr w2.heap.size u (rawT ln ls id (vs.take k) ++ (vT (vnAt vs k)).take q)) (fun _ i _ => (vnAt vs k).rn - (intOf i).toNat)
          case atStart => exact ⟨0, by omega, rfl, hB5, hbv5, by simpa using hO5⟩
          case round =>
            obtain ⟨q, hq, rfl, hBq, hbvq, hOq⟩ := hrel
            by_cases hq2 : q < (vnAt vs k).rn
            · have hq' : Hid (q < (vnAt vs k).rn) := hq2
              obtain ⟨br, or, hxr, d0, d1, d2⟩ := ((hrk.later hBq)).cells q hq2
              rw [hxr]
              have hbvc := (box_cells hbvq).1
              have t0 : wr.cell? ⟨bv, 0, none⟩ = some (.int .i64 (vnAt vs k).id) := hbvc 0
              clear hbvc
              have t0' : ∀ o, (wr.alloc o).cell? ⟨bv, 0, none⟩ = some (.int .i64 (vnAt vs k).id) := fun o => cell_later (bl1 wr o) t0
              have hszq : Hid (w2.heap.size ≤ wr.heap.size) := hBq.size
              generalize hrg : rgAt (vnAt vs k).rs q = rg at *
              go_wp2_with (at_builtin; refine Hid.out ?_)
              unfold Hid
              refine wpList_append_T rfl _ _ rfl w2.heap.size _ _ rfl (hOq.later (bl2 wr _ _)) _ 1 1 [⟨rg.a, rg.l, (vnAt vs k).id⟩] rfl rfl ?_ ?_ ?_ ?_
              · intro j u hj
                have hn := heap_new (W := wr.alloc (.cells #[.int .i64 rg.a, .int .i64 rg.l, .int .i64 rg.p] 48)) (.cells #[.int .i64 rg.a, .int .i64 rg.l, .int .i64 (vnAt vs k).id] 36) rfl
                rw [addr_add, Nat.zero_add]
                simp only [World.size_alloc] at hn ⊢
                exact ((box_cells hn).1 j).trans (by rw [List.getElem?_toArray]; exact hj)
              · have h1 := hlen.out k
                rw [List.length_append, List.length_take]
                omega
              · have := hszq.out
                simp
                omega
              intro v8 w8 hT8 hg8
              have hOa := hOq.later (bl2 wr (.cells #[.int .i64 rg.a, .int .i64 rg.l, .int .i64 rg.p] 48) (.cells #[.int .i64 rg.a, .int .i64 rg.l, .int .i64 (vnAt vs k).id] 36))
              have hba := heap_later (bl2 wr (.cells #[.int .i64 rg.a, .int .i64 rg.l, .int .i64 rg.p] 48) (.cells #[.int .i64 rg.a, .int .i64 rg.l, .int .i64 (vnAt vs k).id] 36)) hbvq
              have hbv8 : w8.heap[bv]? = some (vnO (vnAt vs k)) := (hg8.block bv (Array.getElem?_eq_some_iff.1 hba).1 (fun e => OwnT.ne hOa hba (by decide) e.symm)).trans hba
              have hB8 : Below w2.heap.size w2 w8 := below_grownr (hBq.trans ((bl2 wr _ _).mono hszq.out)) hg8 (fun k e => (hOa.lt k e).1)
              have hT8' : Hid (OwnT w8 w2.heap.size v8 (rawT ln ls id (vs.take k) ++ (vT (vnAt vs k)).take (q + 1))) := by
                show OwnT _ _ _ _
                rw [vT_take (by rw [hrk.len]; exact hq'.out), hrg, ← List.append_assoc]
                exact hT8
              clear hOa hba hg8 hT8 hOq hBq hbvq t0 t0' d0 d1 d2
              go_wp2
              go_roundw
              case rel => exact ⟨q + 1, hq'.out, by go_num, hB8, hbv8, hT8'.out⟩
              case measure => simp [intOf]; have := hq'.out; omega
            · obtain rfl : q = (vnAt vs k).rn := by omega
              have hTk : Hid (OwnT wr w2.heap.size u8 (rawT ln ls id (vs.take (k + 1)))) := by
                show OwnT _ _ _ _
                rw [rawT_take (by rw [hvl.out]; exact hlt'.out), if_pos hnear.out]
                have e : (vT (vnAt vs k)).take (vnAt vs k).rn = vT (vnAt vs k) := List.take_of_length_le (by rw [vT_len, hrk.len]; exact Nat.le_refl _)
                rw [e] at hOq
                exact hOq
              go_wp2
              go_roundw
              case rel => exact ⟨k + 1, hlt'.out, by go_num, hBq, hTk.out⟩
              case measure => simp [intOf]; have := hlt'.out; omega
      · obtain rfl : k = n := by omega
        have e : vs.take k = vs := by rw [← hvl.out, List.take_length]
        rw [e] at hO
        go_wp2_with fail
        refine (hS' wr w2.heap.size _ hO hB.size).mono ?_
        rintro e w9 ⟨rfl, L', hO9, hSo, hb9⟩
        go_wp2
        refine bodyPost_ret (v := .tuple #[u8, .int .i64 0]) (by simp [results, Tryz.results5, go_sem]) rfl ⟨_, L', by rw [hz'.out], ?_, fun _ => hSo, fun h => absurd hz'.out h, ?_⟩
        · rw [hbk]
          exact hO9.low hsz.out
        · rw [hbk]
          exact h02.trans ((hB.trans hb9).mono hsz.out)
  · have h2 : (grpE n vs ln ls id != 0) = true := by simpa using hz
    go_wp2
    refine bodyPost_ret (v := .tuple #[.slice none 0 0, .int .i64 (grpE n vs ln ls id)]) (by simp [results, Tryz.results5, go_sem]) rfl ⟨_, [], rfl, World.ownsRow_nil _ _ _ _, fun h => absurd h hz, fun _ => rfl, ?_⟩
    rw [hbk]
    exact h02.trans (hb3.mono hsz.out)
end Go.Proofs.YtgealgjeboainaaGreat
