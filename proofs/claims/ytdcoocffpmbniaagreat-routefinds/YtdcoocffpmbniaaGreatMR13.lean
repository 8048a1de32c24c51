/- The law RouteFinds. -/
import Derived.Test.YtdcoocffpmbniaaGreatMR12
import Derived.Laws.StructEq
namespace Go.Proofs.YtdcoocffpmbniaaGreat
open Go.RowKit Go.Shelf

theorem route_struct : Tryz.prog.underlying 26 = some (.struct (Tryz.prog.fieldsOf 26)) := by kernel_rfl
theorem route_held : Tryz.prog.stoodInHeld 26 = false := by kernel_rfl
theorem route_guard : Tryz.prog.eqGuardType Tryz.prog.depth 26 = false := by kernel_rfl
theorem guard_route (op : BinOp) (x y : Operand) (p q : Array Value) (w : World) : (eqGuard op 26 x y (.agg p) (.agg q)).run Tryz.prog w = .ok () w := by
  have h := route_guard
  unfold eqGuard
  cases op <;> simp [go_sem, h]
theorem eql_route_same (a l k : Int) (w : World) : (binOp .eql 26 (.agg #[.int .i64 a, .int .i64 l, .int .i64 k]) (.agg #[.int .i64 a, .int .i64 l, .int .i64 k])).run Tryz.prog w = .ok (.bool true) w := by
  rw [run_eql_struct, show (10000 : Nat) = 9999 + 1 from rfl, run_equalIn_agg w 9999 _ _ _ route_struct route_held]
  simp only [Program.fieldsOf, Tryz.underlying26]
  go_simp
theorem quiet_eqlR {ops : Array Oper} {C : World → Prop} {Q : Act → Prop} {A : Act} {o : Oper} {rest : List Oper} (x y : Operand) (t : TypeId) (a l k : Int) (hop : o.op = .binOp .eql 26 x y t) (hg : Region.wanted o (yielded ops A.tmps) = true)
    (hx : A.eval x = .agg #[.int .i64 a, .int .i64 l, .int .i64 k]) (hy : A.eval y = .agg #[.int .i64 a, .int .i64 l, .int .i64 k]) (h : wpQuiet Tryz.prog ops C Q rest (A.put o.dst (.bool true))) : wpQuiet Tryz.prog ops C Q (o :: rest) A := by
  unfold wpQuiet
  rw [if_pos hg]
  refine ⟨_, fun w _ => ?_, h⟩
  unfold Oper.quietAt execOp
  rw [hop]
  simp only [hx, hy, Sem.run_bind, guard_route, eql_route_same, Result.andThen_ok, Sem.run_pure]
  exact ⟨rfl, rfl⟩
theorem fndV_is (n : Nat) (ls : List Rg) (y : Int) : ∃ (a l p : Int) (t : Bool) (e : Int), fndV n ls y = .tuple #[.agg #[.int .i64 a, .int .i64 l, .int .i64 p], .bool t, .int .i64 e] := by
  unfold fndV
  split
  · exact ⟨_, _, _, _, _, rfl⟩
  · exact ⟨_, _, _, _, _, rfl⟩

set_option maxRecDepth 100000 in
set_option maxHeartbeats 1600000 in
theorem routeFinds_any (x : Option Addr) (n c : Nat) (ls : List Rg) (y : Int) (w : World) (hp : RS w x n ls) (hn : n ≤ 9223372036854775807) :
    Calls Tryz.prog 3 #[.slice x n c, .int .i64 y] w fun e w' => e = .returned (.bool true) ∧ Below w.heap.size w w' := by
  obtain ⟨a, l, p, t, er, hf⟩ := fndV_is n ls y
  have hF : ∀ W, RS W x n ls → Calls Tryz.prog 4 #[.slice x n c, .int .i64 y] W fun e w' => e = .returned (.tuple #[.agg #[.int .i64 a, .int .i64 l, .int .i64 p], .bool t, .int .i64 er]) ∧ Below W.heap.size W w' := fun W h => by
    have := find_any x n c ls y W h hn
    rw [hf] at this
    exact this
  have hG : ∀ W, RS W x n ls → Calls Tryz.prog 5 #[.slice x n c, .int .i64 y] W fun e w' => e = .returned (.tuple #[.agg #[.int .i64 a, .int .i64 l, .int .i64 p], .bool t, .int .i64 er]) ∧ Below W.heap.size W w' := fun W h => by
    have := findOf_any x n c ls y W h hn
    rw [hf] at this
    exact this
  go_enter Tryz.func3, Tryz.ntmps3
  go_wp2_with fail
  refine (hF w hp).mono ?_
  rintro e w1 ⟨rfl, hb1⟩
  go_upto_region 2 with fail
  obtain ⟨w2, hw2⟩ : ∃ w2, w2 = w1.alloc (rtO a l p) := ⟨_, rfl⟩
  rw [← hw2]
  have h12 : Below w1.heap.size w1 w2 := by rw [hw2]; exact bl1 w1 _
  have hbox1 : w2.heap[w1.heap.size]? = some (rtO a l p) := by rw [hw2]; exact heap_new _ rfl
  clear hw2
  have hB2 := hb1.trans (h12.mono hb1.size)
  clear h12 hb1
  generalize w1.heap.size = k1 at *
  clear w1
  go_wp2_with fail
  refine (hG w2 (hp.later hB2)).mono ?_
  rintro e w3 ⟨rfl, hb3⟩
  go_upto_region 3 with fail
  obtain ⟨w4, hw4⟩ : ∃ w4, w4 = w3.alloc (rtO a l p) := ⟨_, rfl⟩
  rw [← hw4]
  have h34 : Below w3.heap.size w3 w4 := by rw [hw4]; exact bl1 w3 _
  have hbox2 : w4.heap[w3.heap.size]? = some (rtO a l p) := by rw [hw4]; exact heap_new _ rfl
  clear hw4
  have hbox14 := heap_later h34 (heap_later hb3 hbox1)
  have hB3 := hB2.trans (hb3.mono hB2.size)
  have hB4 := hB3.trans (h34.mono hB3.size)
  clear h34 hb3 hbox1 hB3 hB2
  generalize w3.heap.size = k2 at *
  clear w3
  have u1 := (box_cells hbox14).1
  have u2 := (box_cells hbox2).1
  have g0 := Ws.here (v := .int .i64 a) (u1 0)
  have g1 := Ws.here (v := .int .i64 l) (u1 1)
  have g2 := Ws.here (v := .int .i64 p) (u1 2)
  have j0 := Ws.here (v := .int .i64 a) (u2 0)
  have j1 := Ws.here (v := .int .i64 l) (u2 1)
  have j2 := Ws.here (v := .int .i64 p) (u2 2)
  clear u1 u2 hF hG
  have hs4 : Hid (w.heap.size ≤ w4.heap.size) := hB4.size
  refine wp_region_wf w4.heap.size ?_
  repeat (go_big_quiet_step ((go_at_call 6; exact Calls.in_ws (Nat.le_refl _) (routeBegun_any _))))
  refine wpQuiet_nil ?_
  rintro _ ⟨u, rfl⟩
  have hu := hB4.trans (u.property.mono hs4.out)
  generalize u.val = wu at hu ⊢
  clear u g0 g1 g2 j0 j1 j2
  go_wp2
  go_ret
  exact ⟨rfl, hu⟩
end Go.Proofs.YtdcoocffpmbniaaGreat
