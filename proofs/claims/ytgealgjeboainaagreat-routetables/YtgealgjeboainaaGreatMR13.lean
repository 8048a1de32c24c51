/- The law RouteFinds. -/
import Derived.Test.YtgealgjeboainaaGreatMR12
import Derived.Laws.StructEq
namespace Go.Proofs.YtgealgjeboainaaGreat
open Go.RowKit Go.Shelf

theorem route_struct : Tryz.prog.underlying 36 = some (.struct (Tryz.prog.fieldsOf 36)) := by kernel_rfl
theorem route_held : Tryz.prog.stoodInHeld 36 = false := by kernel_rfl
theorem route_guard : Tryz.prog.eqGuardType Tryz.prog.depth 36 = false := by kernel_rfl
theorem guard_route (op : BinOp) (x y : Operand) (p q : Array Value) (w : World) : (eqGuard op 36 x y (.agg p) (.agg q)).run Tryz.prog w = .ok () w := by
  have h := route_guard
  unfold eqGuard
  cases op <;> simp [go_sem, h]
theorem eql_route_same (a l k : Int) (w : World) : (binOp .eql 36 (.agg #[.int .i64 a, .int .i64 l, .int .i64 k]) (.agg #[.int .i64 a, .int .i64 l, .int .i64 k])).run Tryz.prog w = .ok (.bool true) w := by
  rw [run_eql_struct, show (10000 : Nat) = 9999 + 1 from rfl, run_equalIn_agg w 9999 _ _ _ route_struct route_held]
  simp only [Program.fieldsOf, Tryz.underlying36]
  go_simp
theorem quiet_eqlR {ops : Array Oper} {C : World → Prop} {Q : Act → Prop} {A : Act} {o : Oper} {rest : List Oper} (x y : Operand) (t : TypeId) (a l k : Int) (hop : o.op = .binOp .eql 36 x y t) (hg : Region.wanted o (yielded ops A.tmps) = true)
    (hx : A.eval x = .agg #[.int .i64 a, .int .i64 l, .int .i64 k]) (hy : A.eval y = .agg #[.int .i64 a, .int .i64 l, .int .i64 k]) (h : wpQuiet Tryz.prog ops C Q rest (A.put o.dst (.bool true))) : wpQuiet Tryz.prog ops C Q (o :: rest) A := by
  unfold wpQuiet
  rw [if_pos hg]
  refine ⟨_, fun w _ => ?_, h⟩
  unfold Oper.quietAt execOp
  rw [hop]
  simp only [hx, hy, Sem.run_bind, guard_route, eql_route_same, Result.andThen_ok, Sem.run_pure]
  exact ⟨rfl, rfl⟩
theorem fndV_is (n : Nat) (ls : List Rg) (y : Int) : ∃ (a l p : Int) (t : Bool) (e : Int), fndV n ls y = .tuple #[.agg #[.int .i64 a, .int .i64 l, .int .i64 p], .bool t, .int .i64 e] := by
  unfold fndV
  split
  · exact ⟨_, _, _, _, _, rfl⟩
  · exact ⟨_, _, _, _, _, rfl⟩

end Go.Proofs.YtgealgjeboainaaGreat
