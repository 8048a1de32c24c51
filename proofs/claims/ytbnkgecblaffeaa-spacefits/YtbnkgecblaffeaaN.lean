/- What slices.Index at prefixes, and SamePrefixes of package parcelwayref, come to. -/
import Derived.Test.YtbnkgecblaffeaaS
import Derived.Laws.StructEq
namespace Go.Proofs.Ytbnkgecblaffeaa
open Go.RowKit

theorem prefix_struct : Try.prog.underlying 23 = some (.struct (Try.prog.fieldsOf 23)) := by kernel_rfl
theorem prefix_held : Try.prog.stoodInHeld 23 = false := by kernel_rfl
theorem eq_prefix (a l c m : Int) (w : World) : (binOp .eql 23 (.agg #[.int .i64 a, .int .i64 l]) (.agg #[.int .i64 c, .int .i64 m])).run Try.prog w = .ok (.bool (decide (a = c) && decide (l = m))) w := by
  rw [run_eql_struct, show (10000 : Nat) = 9999 + 1 from rfl, run_equalIn_agg w 9999 _ _ _ prefix_struct prefix_held]
  simp only [Program.fieldsOf, Try.underlying23]
  go_simp
  by_cases h1 : a = c <;> by_cases h2 : l = m <;> simp [h1, h2]
theorem neq_prefix (a l c m : Int) (w : World) : (binOp .neq 23 (.agg #[.int .i64 a, .int .i64 l]) (.agg #[.int .i64 c, .int .i64 m])).run Try.prog w = .ok (.bool (!(decide (a = c) && decide (l = m)))) w := by
  rw [run_neq_struct, show (10000 : Nat) = 9999 + 1 from rfl, run_equalIn_agg w 9999 _ _ _ prefix_struct prefix_held]
  simp only [Program.fieldsOf, Try.underlying23]
  go_simp
  by_cases h1 : a = c <;> by_cases h2 : l = m <;> simp [h1, h2]

theorem prefix_guard : Try.prog.eqGuardType Try.prog.depth 23 = false := by kernel_rfl
theorem guard_prefix (op : BinOp) (x y : Operand) (p q : Array Value) (w : World) : (eqGuard op 23 x y (.agg p) (.agg q)).run Try.prog w = .ok () w := by
  have h := prefix_guard
  unfold eqGuard
  cases op <;> simp [go_sem, h]
theorem quiet_eql {ops : Array Oper} {C : World → Prop} {Q : Act → Prop} {A : Act} {o : Oper} {rest : List Oper} (x y : Operand) (t : TypeId) (a l c m : Int) (hop : o.op = .binOp .eql 23 x y t) (hg : o.guard = none)
    (hx : A.eval x = .agg #[.int .i64 a, .int .i64 l]) (hy : A.eval y = .agg #[.int .i64 c, .int .i64 m]) (h : wpQuiet Try.prog ops C Q rest (A.put o.dst (.bool (decide (a = c) && decide (l = m))))) : wpQuiet Try.prog ops C Q (o :: rest) A := by
  unfold wpQuiet
  rw [if_pos (by simp [Region.wanted, hg])]
  refine ⟨_, fun w _ => ?_, h⟩
  unfold Oper.quietAt execOp
  rw [hop]
  simp only [hx, hy, Sem.run_bind, guard_prefix, eq_prefix, Result.andThen_ok, Sem.run_pure]
  exact ⟨rfl, rfl⟩
theorem quiet_neq {ops : Array Oper} {C : World → Prop} {Q : Act → Prop} {A : Act} {o : Oper} {rest : List Oper} (x y : Operand) (t : TypeId) (a l c m : Int) (hop : o.op = .binOp .neq 23 x y t) (hg : o.guard = none)
    (hx : A.eval x = .agg #[.int .i64 a, .int .i64 l]) (hy : A.eval y = .agg #[.int .i64 c, .int .i64 m]) (h : wpQuiet Try.prog ops C Q rest (A.put o.dst (.bool (!(decide (a = c) && decide (l = m)))))) : wpQuiet Try.prog ops C Q (o :: rest) A := by
  unfold wpQuiet
  rw [if_pos (by simp [Region.wanted, hg])]
  refine ⟨_, fun w _ => ?_, h⟩
  unfold Oper.quietAt execOp
  rw [hop]
  simp only [hx, hy, Sem.run_bind, guard_prefix, neq_prefix, Result.andThen_ok, Sem.run_pure]
  exact ⟨rfl, rfl⟩

def eqAt (ps : List (Int × Int)) (a l : Int) (i : Nat) : Bool := decide (a = at0 ps i) && decide (l = at1 ps i)

set_option maxRecDepth 20000 in
set_option maxHeartbeats 800000 in
theorem index_any (a l : Int) (x : Option Addr) (n c : Nat) (ps : List (Int × Int)) (w : World) (hp : PS w x n ps) (hn : n ≤ 64) :
    Calls Try.prog 41 #[.slice x n c, .agg #[.int .i64 a, .int .i64 l]] w fun e w' => (∃ r : Int, e = .returned (.int .i64 r) ∧ ((∃ i : Nat, i < n ∧ eqAt ps a l i = true ∧ (∀ j, j < i → eqAt ps a l j = false) ∧ r = i) ∨ ((∀ j, j < n → eqAt ps a l j = false) ∧ r = -1))) ∧ Below w.heap.size w w' := by
  go_enter Try.func41, Try.ntmps41
  go_wp2
  go_loopw [8] (fun i wr => ∃ k : Nat, k ≤ n ∧ i = .int .i64 k ∧ Below (w.heap.size + 1) (w.alloc (.cells #[.int .i64 a, .int .i64 l] 23)) wr ∧ (∀ j, j < k → eqAt ps a l j = false)) (fun i _ => n - (intOf i).toNat)
  case atStart => exact ⟨0, by omega, rfl, Below.refl _ _, fun j hj => by omega⟩
  case round =>
    obtain ⟨k, hk, rfl, hB, hno⟩ := hrel
    have hz := hB.size
    simp only [World.size_alloc] at hz
    by_cases hlt : k < n
    · have hp2 := (hp.later (bl1 w (.cells #[.int .i64 a, .int .i64 l] 23)))
      obtain ⟨b, o, rfl, c0, c1⟩ := hp2.cells k hlt
      have hbl := block_lt_of_cell c0
      simp only [World.size_alloc] at hbl
      have d0 : wr.cell? ⟨b, o + k * 2, none⟩ = some (.int .i64 (at0 ps k)) := (hB.cell (p := ⟨b, o + k * 2, none⟩) hbl).trans c0
      have d1 : wr.cell? ⟨b, o + k * 2 + 1, none⟩ = some (.int .i64 (at1 ps k)) := (hB.cell (p := ⟨b, o + k * 2 + 1, none⟩) hbl).trans c1
      have e0 : wr.cell? ⟨w.heap.size, 0, none⟩ = some (.int .i64 a) := (hB.cell (p := ⟨w.heap.size, 0, none⟩) (by show w.heap.size < _; omega)).trans (by simp)
      have e1 : wr.cell? ⟨w.heap.size, 1, none⟩ = some (.int .i64 l) := (hB.cell (p := ⟨w.heap.size, 1, none⟩) (by show w.heap.size < _; omega)).trans (by simp)
      have g0 := Ws.here e0
      have g1 := Ws.here e1
      have g2 := Ws.here d0
      have g3 := Ws.here d1
      have hlt' := hlt
      go_upto_region 4 with fail
      clear e0 e1 d0 d1 c0 c1
      refine wp_region_ws wr.heap.size (by kernel_rfl) (by kernel_rfl) ?_
      repeat (go_big_quiet_step (fail))
      refine quiet_eql _ _ _ a l (at0 ps k) (at1 ps k) rfl rfl rfl rfl ?_
      refine wpQuiet_nil ?_
      rintro _ ⟨u, rfl⟩
      have hu := hB.trans (u.property.mono hz)
      generalize u.val = wu at hu ⊢
      clear u g0 g1 g2 g3
      cases he : eqAt ps a l k
      all_goals have he' := he
      all_goals unfold eqAt at he'
      all_goals rw [he']
      · go_wp2
        go_roundw
        case rel => exact ⟨k + 1, hlt', by go_num, hu, fun j hj => by
          by_cases hj2 : j < k
          · exact hno j hj2
          · obtain rfl : j = k := by omega
            exact he⟩
        case measure => simp [intOf]; omega
      · go_wp2
        go_ret
        exact ⟨⟨_, rfl, .inl ⟨k, hlt', he, hno, rfl⟩⟩, (bl1 w _).trans (hu.mono (by omega))⟩
    · go_wp2
      go_ret
      exact ⟨⟨_, rfl, .inr ⟨fun j hj => hno j (by omega), rfl⟩⟩, (bl1 w _).trans (hB.mono (by omega))⟩

theorem same_of {ps qs : List (Int × Int)} {n : Nat} (h1 : ps.length = n) (h2 : qs.length = n) (h : ∀ j, j < n → at0 ps j = at0 qs j ∧ at1 ps j = at1 qs j) : ps = qs := by
  refine List.ext_getElem (by omega) fun i hi hj => ?_
  have := h i (by omega)
  simp only [at0, at1, List.getD_eq_getElem?_getD, List.getElem?_eq_getElem hi, List.getElem?_eq_getElem hj, Option.getD_some] at this
  exact Prod.ext this.1 this.2

set_option maxRecDepth 20000 in
set_option maxHeartbeats 800000 in
theorem samePrefixes_any (x y : Option Addr) (n m c d : Nat) (ps qs : List (Int × Int)) (w : World) (hp : PS w x n ps) (hq : PS w y m qs) (hn : n ≤ 100000) (hm : m ≤ 100000) :
    Calls Try.prog 14 #[.slice x n c, .slice y m d] w fun e w' => e = .returned (.bool (decide (ps = qs))) ∧ Below w.heap.size w w' := by
  by_cases hnm : n = m
  · subst hnm
    go_enter Try.func14, Try.ntmps14
    go_wp2
    go_loopw [5] (fun i wr => ∃ k : Nat, k ≤ n ∧ i = .int .i64 k ∧ Below w.heap.size w wr ∧ (∀ j, j < k → at0 ps j = at0 qs j ∧ at1 ps j = at1 qs j)) (fun i _ => n - (intOf i).toNat)
    case atStart => exact ⟨0, by omega, rfl, Below.refl _ _, fun j hj => by omega⟩
    case round =>
      obtain ⟨k, hk, rfl, hB, hok⟩ := hrel
      have hz := hB.size
      by_cases hlt : k < n
      · obtain ⟨b, o, rfl, c0, c1⟩ := (hp.later hB).cells k hlt
        obtain ⟨b2, o2, rfl, c2, c3⟩ := (hq.later hB).cells k hlt
        have g0 := Ws.here c0
        have g1 := Ws.here c1
        have g2 := Ws.here c2
        have g3 := Ws.here c3
        have hlt' := hlt
        go_upto_region 6 with fail
        clear c0 c1 c2 c3
        refine wp_region_ws wr.heap.size (by kernel_rfl) (by kernel_rfl) ?_
        repeat (go_big_quiet_step (fail))
        refine quiet_neq _ _ _ (at0 ps k) (at1 ps k) (at0 qs k) (at1 qs k) rfl rfl rfl rfl ?_
        refine wpQuiet_nil ?_
        rintro _ ⟨u, rfl⟩
        have hu := hB.trans (u.property.mono hz)
        generalize u.val = wu at hu ⊢
        clear u g0 g1 g2 g3
        cases he : (decide (at0 ps k = at0 qs k) && decide (at1 ps k = at1 qs k))
        · go_wp2
          go_ret
          refine ⟨ret_bool (Eq.symm (decide_eq_false fun e => ?_)), hu⟩
          rw [e] at he
          simp at he
        · have he' : at0 ps k = at0 qs k ∧ at1 ps k = at1 qs k := by simpa using he
          go_wp2
          go_roundw
          case rel => exact ⟨k + 1, hlt', by go_num, hu, fun j hj => by
            by_cases hj2 : j < k
            · exact hok j hj2
            · obtain rfl : j = k := by omega
              exact he'⟩
          case measure => simp [intOf]; omega
      · have heq : ps = qs := same_of hp.len hq.len (fun j hj => hok j (by omega))
        go_wp2
        go_ret
        exact ⟨ret_bool (decide_eq_true heq).symm, hB⟩
  · have hne : ((n : Int) != (m : Int)) = true := by simp; omega
    go_enter Try.func14, Try.ntmps14
    go_wp2
    go_ret
    refine ⟨ret_bool (Eq.symm (decide_eq_false fun e => hnm ?_)), Below.refl _ _⟩
    rw [← hp.len, ← hq.len, e]
end Go.Proofs.Ytbnkgecblaffeaa
