/- The law WireWrites answers true, whatever it is handed. -/
import Derived.Test.YtlledongbfjkiaaWp
namespace Go.Proofs.Ytlledongbfjkiaa
open Go.RowKit

theorem eql_same (c : Cm) (w : World) : (binOp .eql 27 (cmV c) (cmV c)).run Try.prog w = .ok (.bool true) w := by
  have : DecidableEq Cm := fun a b => Classical.propDecidable (a = b)
  rw [eql_cmd, decide_eq_true (rfl : c = c)]
theorem eqv_same (c : Cm) (op : BinOp) (x y : Operand) (w : World) : (eqGuard op 27 x y (cmV c) (cmV c)).run Try.prog w = .ok () w := guard_cmd op x y _ _ w

set_option maxRecDepth 20000 in
set_option maxHeartbeats 1600000 in
theorem writes_111 (hbeg : BegunAny) (c d : Cm) (s t r : ByteArray) (w : World)
    (h1 : ∀ W, Calls Try.prog 6 #[cmV c] W fun e w' => e = .returned (.tuple #[.string t, .int .i64 0]) ∧ Below W.heap.size W w')
    (h2 : ∀ W, Calls Try.prog 7 #[cmV c] W fun e w' => e = .returned (.int .i64 0) ∧ Below W.heap.size W w')
    (h3 : ∀ W, Calls Try.prog 8 #[cmV c] W fun e w' => e = .returned (.string t) ∧ Below W.heap.size W w')
    (h4 : ∀ W, Calls Try.prog 9 #[.string s] W fun e w' => e = .returned (.tuple #[cmV d, .int .i64 0]) ∧ Below W.heap.size W w')
    (h5 : ∀ W, Calls Try.prog 10 #[.string s] W fun e w' => e = .returned (.tuple #[cmV d, .bool true]) ∧ Below W.heap.size W w')
    (h6 : ∀ W, Calls Try.prog 11 #[.string s] W fun e w' => e = .returned (.tuple #[.string r, .int .i64 0]) ∧ Below W.heap.size W w')
    (h7 : ∀ W, Calls Try.prog 12 #[.string s] W fun e w' => e = .returned (.string r) ∧ Below W.heap.size W w')
    (hs : s.size ≤ 255) :
    Calls Try.prog 3 #[cmV c, .string s] w fun e w' => e = .returned (.bool true) ∧ Below w.heap.size w w' := by
  have hq := eql_same d
  have hg := eqv_same d
  have hbx0 : (w.alloc (.cells #[.int .i64 c.op, .int .i64 c.a, .int .i64 c.b, .int .i64 c.c, .int .i64 c.p, .int .i64 c.l, .int .i64 c.mn, .int .i64 c.mx, .int .i64 c.us, .int .i64 c.co] 27)).heap[w.heap.size]? = some (.cells #[.int .i64 c.op, .int .i64 c.a, .int .i64 c.b, .int .i64 c.c, .int .i64 c.p, .int .i64 c.l, .int .i64 c.mn, .int .i64 c.mx, .int .i64 c.us, .int .i64 c.co] 27) := heap_new _ rfl
  have hB0 := bl1 w (.cells #[.int .i64 c.op, .int .i64 c.a, .int .i64 c.b, .int .i64 c.c, .int .i64 c.p, .int .i64 c.l, .int .i64 c.mn, .int .i64 c.mx, .int .i64 c.us, .int .i64 c.co] 27)
  obtain ⟨w0, hw0⟩ : ∃ w0, w0 = w.alloc (.cells #[.int .i64 c.op, .int .i64 c.a, .int .i64 c.b, .int .i64 c.c, .int .i64 c.p, .int .i64 c.l, .int .i64 c.mn, .int .i64 c.mx, .int .i64 c.us, .int .i64 c.co] 27) := ⟨_, rfl⟩
  rw [← hw0] at hbx0 hB0
  go_enter Try.func3, Try.ntmps3
  go_upto_region 1 with fail
  rw [← hw0]
  clear hw0
  obtain ⟨k0, -⟩ := box_cells hbx0
  go_wp2_with fail
  refine (h1 _).mono ?_
  rintro e w1 ⟨rfl, hb⟩
  have hB1 := hB0.trans (hb.mono hB0.size)
  have hbx1 := heap_later hb hbx0
  clear hb hbx0 hB0 k0
  obtain ⟨k0, -⟩ := box_cells hbx1
  go_wp2_with fail
  refine (h2 _).mono ?_
  rintro e w2 ⟨rfl, hb⟩
  have hB2 := hB1.trans (hb.mono hB1.size)
  have hbx2 := heap_later hb hbx1
  clear hb hbx1 hB1 k0
  obtain ⟨k0, -⟩ := box_cells hbx2
  go_wp2_with fail
  refine (h3 _).mono ?_
  rintro e w3 ⟨rfl, hb⟩
  have hB3 := hB2.trans (hb.mono hB2.size)
  clear hb hB2 hbx2 k0
  go_wp2_with fail
  refine (h4 _).mono ?_
  rintro e w4 ⟨rfl, hb⟩
  have hB4 := hB3.trans (hb.mono hB3.size)
  have hbx4 : (w4.alloc (.cells #[.int .i64 d.op, .int .i64 d.a, .int .i64 d.b, .int .i64 d.c, .int .i64 d.p, .int .i64 d.l, .int .i64 d.mn, .int .i64 d.mx, .int .i64 d.us, .int .i64 d.co] 27)).heap[w4.heap.size]? = some (.cells #[.int .i64 d.op, .int .i64 d.a, .int .i64 d.b, .int .i64 d.c, .int .i64 d.p, .int .i64 d.l, .int .i64 d.mn, .int .i64 d.mx, .int .i64 d.us, .int .i64 d.co] 27) := heap_new _ rfl
  have hB4' := hB4.alloc hB4.size (.cells #[.int .i64 d.op, .int .i64 d.a, .int .i64 d.b, .int .i64 d.c, .int .i64 d.p, .int .i64 d.l, .int .i64 d.mn, .int .i64 d.mx, .int .i64 d.us, .int .i64 d.co] 27)
  clear hb
  go_wp2_with fail
  refine (h5 _).mono ?_
  rintro e w5 ⟨rfl, hb⟩
  have hB5 := hB4'.trans (hb.mono hB4'.size)
  have hbx5 := heap_old (.cells #[.int .i64 d.op, .int .i64 d.a, .int .i64 d.b, .int .i64 d.c, .int .i64 d.p, .int .i64 d.l, .int .i64 d.mn, .int .i64 d.mx, .int .i64 d.us, .int .i64 d.co] 27) (heap_later hb hbx4)
  have hby5 : (w5.alloc (.cells #[.int .i64 d.op, .int .i64 d.a, .int .i64 d.b, .int .i64 d.c, .int .i64 d.p, .int .i64 d.l, .int .i64 d.mn, .int .i64 d.mx, .int .i64 d.us, .int .i64 d.co] 27)).heap[w5.heap.size]? = some (.cells #[.int .i64 d.op, .int .i64 d.a, .int .i64 d.b, .int .i64 d.c, .int .i64 d.p, .int .i64 d.l, .int .i64 d.mn, .int .i64 d.mx, .int .i64 d.us, .int .i64 d.co] 27) := heap_new _ rfl
  have hB5' := hB5.alloc hB5.size (.cells #[.int .i64 d.op, .int .i64 d.a, .int .i64 d.b, .int .i64 d.c, .int .i64 d.p, .int .i64 d.l, .int .i64 d.mn, .int .i64 d.mx, .int .i64 d.us, .int .i64 d.co] 27)
  clear hb hbx4
  go_wp2_with fail
  refine (h6 _).mono ?_
  rintro e w6 ⟨rfl, hb⟩
  have hB6 := hB5'.trans (hb.mono hB5'.size)
  have hbx6 := heap_later hb hbx5
  have hby6 := heap_later hb hby5
  clear hb hbx5 hby5
  go_wp2_with fail
  refine (h7 _).mono ?_
  rintro e w7 ⟨rfl, hb⟩
  have hB7 := hB6.trans (hb.mono hB6.size)
  have hbx7 := heap_later hb hbx6
  have hby7 := heap_later hb hby6
  clear hb hbx6 hby6
  go_wp2_with fail
  refine (hbeg _).mono ?_
  rintro e w8 ⟨rfl, hb⟩
  have hB8 := hB7.trans (hb.mono hB7.size)
  obtain ⟨k1, -⟩ := box_cells (heap_later hb hbx7)
  obtain ⟨k2, -⟩ := box_cells (heap_later hb hby7)
  clear hb
  go_wp2
  go_ret
  exact ⟨rfl, hB8⟩
set_option maxRecDepth 20000 in
set_option maxHeartbeats 1600000 in
theorem writes_101 (hbeg : BegunAny) (c d : Cm) (s t r : ByteArray) (w : World)
    (h1 : ∀ W, Calls Try.prog 6 #[cmV c] W fun e w' => e = .returned (.tuple #[.string t, .int .i64 0]) ∧ Below W.heap.size W w')
    (h2 : ∀ W, Calls Try.prog 7 #[cmV c] W fun e w' => e = .returned (.int .i64 0) ∧ Below W.heap.size W w')
    (h3 : ∀ W, Calls Try.prog 8 #[cmV c] W fun e w' => e = .returned (.string t) ∧ Below W.heap.size W w')
    (h4 : ∀ W, Calls Try.prog 9 #[.string s] W fun e w' => e = .returned (.tuple #[cmV d, .int .i64 1]) ∧ Below W.heap.size W w')
    (h5 : ∀ W, Calls Try.prog 10 #[.string s] W fun e w' => e = .returned (.tuple #[cmV d, .bool false]) ∧ Below W.heap.size W w')
    (h6 : ∀ W, Calls Try.prog 11 #[.string s] W fun e w' => e = .returned (.tuple #[.string r, .int .i64 0]) ∧ Below W.heap.size W w')
    (h7 : ∀ W, Calls Try.prog 12 #[.string s] W fun e w' => e = .returned (.string r) ∧ Below W.heap.size W w')
    (hs : s.size ≤ 255) :
    Calls Try.prog 3 #[cmV c, .string s] w fun e w' => e = .returned (.bool true) ∧ Below w.heap.size w w' := by
  have hq := eql_same d
  have hg := eqv_same d
  have hbx0 : (w.alloc (.cells #[.int .i64 c.op, .int .i64 c.a, .int .i64 c.b, .int .i64 c.c, .int .i64 c.p, .int .i64 c.l, .int .i64 c.mn, .int .i64 c.mx, .int .i64 c.us, .int .i64 c.co] 27)).heap[w.heap.size]? = some (.cells #[.int .i64 c.op, .int .i64 c.a, .int .i64 c.b, .int .i64 c.c, .int .i64 c.p, .int .i64 c.l, .int .i64 c.mn, .int .i64 c.mx, .int .i64 c.us, .int .i64 c.co] 27) := heap_new _ rfl
  have hB0 := bl1 w (.cells #[.int .i64 c.op, .int .i64 c.a, .int .i64 c.b, .int .i64 c.c, .int .i64 c.p, .int .i64 c.l, .int .i64 c.mn, .int .i64 c.mx, .int .i64 c.us, .int .i64 c.co] 27)
  obtain ⟨w0, hw0⟩ : ∃ w0, w0 = w.alloc (.cells #[.int .i64 c.op, .int .i64 c.a, .int .i64 c.b, .int .i64 c.c, .int .i64 c.p, .int .i64 c.l, .int .i64 c.mn, .int .i64 c.mx, .int .i64 c.us, .int .i64 c.co] 27) := ⟨_, rfl⟩
  rw [← hw0] at hbx0 hB0
  go_enter Try.func3, Try.ntmps3
  go_upto_region 1 with fail
  rw [← hw0]
  clear hw0
  obtain ⟨k0, -⟩ := box_cells hbx0
  go_wp2_with fail
  refine (h1 _).mono ?_
  rintro e w1 ⟨rfl, hb⟩
  have hB1 := hB0.trans (hb.mono hB0.size)
  have hbx1 := heap_later hb hbx0
  clear hb hbx0 hB0 k0
  obtain ⟨k0, -⟩ := box_cells hbx1
  go_wp2_with fail
  refine (h2 _).mono ?_
  rintro e w2 ⟨rfl, hb⟩
  have hB2 := hB1.trans (hb.mono hB1.size)
  have hbx2 := heap_later hb hbx1
  clear hb hbx1 hB1 k0
  obtain ⟨k0, -⟩ := box_cells hbx2
  go_wp2_with fail
  refine (h3 _).mono ?_
  rintro e w3 ⟨rfl, hb⟩
  have hB3 := hB2.trans (hb.mono hB2.size)
  clear hb hB2 hbx2 k0
  go_wp2_with fail
  refine (h4 _).mono ?_
  rintro e w4 ⟨rfl, hb⟩
  have hB4 := hB3.trans (hb.mono hB3.size)
  have hbx4 : (w4.alloc (.cells #[.int .i64 d.op, .int .i64 d.a, .int .i64 d.b, .int .i64 d.c, .int .i64 d.p, .int .i64 d.l, .int .i64 d.mn, .int .i64 d.mx, .int .i64 d.us, .int .i64 d.co] 27)).heap[w4.heap.size]? = some (.cells #[.int .i64 d.op, .int .i64 d.a, .int .i64 d.b, .int .i64 d.c, .int .i64 d.p, .int .i64 d.l, .int .i64 d.mn, .int .i64 d.mx, .int .i64 d.us, .int .i64 d.co] 27) := heap_new _ rfl
  have hB4' := hB4.alloc hB4.size (.cells #[.int .i64 d.op, .int .i64 d.a, .int .i64 d.b, .int .i64 d.c, .int .i64 d.p, .int .i64 d.l, .int .i64 d.mn, .int .i64 d.mx, .int .i64 d.us, .int .i64 d.co] 27)
  clear hb
  go_wp2_with fail
  refine (h5 _).mono ?_
  rintro e w5 ⟨rfl, hb⟩
  have hB5 := hB4'.trans (hb.mono hB4'.size)
  have hbx5 := heap_old (.cells #[.int .i64 d.op, .int .i64 d.a, .int .i64 d.b, .int .i64 d.c, .int .i64 d.p, .int .i64 d.l, .int .i64 d.mn, .int .i64 d.mx, .int .i64 d.us, .int .i64 d.co] 27) (heap_later hb hbx4)
  have hby5 : (w5.alloc (.cells #[.int .i64 d.op, .int .i64 d.a, .int .i64 d.b, .int .i64 d.c, .int .i64 d.p, .int .i64 d.l, .int .i64 d.mn, .int .i64 d.mx, .int .i64 d.us, .int .i64 d.co] 27)).heap[w5.heap.size]? = some (.cells #[.int .i64 d.op, .int .i64 d.a, .int .i64 d.b, .int .i64 d.c, .int .i64 d.p, .int .i64 d.l, .int .i64 d.mn, .int .i64 d.mx, .int .i64 d.us, .int .i64 d.co] 27) := heap_new _ rfl
  have hB5' := hB5.alloc hB5.size (.cells #[.int .i64 d.op, .int .i64 d.a, .int .i64 d.b, .int .i64 d.c, .int .i64 d.p, .int .i64 d.l, .int .i64 d.mn, .int .i64 d.mx, .int .i64 d.us, .int .i64 d.co] 27)
  clear hb hbx4
  go_wp2_with fail
  refine (h6 _).mono ?_
  rintro e w6 ⟨rfl, hb⟩
  have hB6 := hB5'.trans (hb.mono hB5'.size)
  have hbx6 := heap_later hb hbx5
  have hby6 := heap_later hb hby5
  clear hb hbx5 hby5
  go_wp2_with fail
  refine (h7 _).mono ?_
  rintro e w7 ⟨rfl, hb⟩
  have hB7 := hB6.trans (hb.mono hB6.size)
  have hbx7 := heap_later hb hbx6
  have hby7 := heap_later hb hby6
  clear hb hbx6 hby6
  go_wp2_with fail
  refine (hbeg _).mono ?_
  rintro e w8 ⟨rfl, hb⟩
  have hB8 := hB7.trans (hb.mono hB7.size)
  obtain ⟨k1, -⟩ := box_cells (heap_later hb hbx7)
  obtain ⟨k2, -⟩ := box_cells (heap_later hb hby7)
  clear hb
  go_wp2
  go_ret
  exact ⟨rfl, hB8⟩
set_option maxRecDepth 20000 in
set_option maxHeartbeats 1600000 in
theorem writes_100 (hbeg : BegunAny) (c d : Cm) (s t : ByteArray) (w : World)
    (h1 : ∀ W, Calls Try.prog 6 #[cmV c] W fun e w' => e = .returned (.tuple #[.string t, .int .i64 0]) ∧ Below W.heap.size W w')
    (h2 : ∀ W, Calls Try.prog 7 #[cmV c] W fun e w' => e = .returned (.int .i64 0) ∧ Below W.heap.size W w')
    (h3 : ∀ W, Calls Try.prog 8 #[cmV c] W fun e w' => e = .returned (.string t) ∧ Below W.heap.size W w')
    (h4 : ∀ W, Calls Try.prog 9 #[.string s] W fun e w' => e = .returned (.tuple #[cmV d, .int .i64 1]) ∧ Below W.heap.size W w')
    (h5 : ∀ W, Calls Try.prog 10 #[.string s] W fun e w' => e = .returned (.tuple #[cmV d, .bool false]) ∧ Below W.heap.size W w')
    (h6 : ∀ W, Calls Try.prog 11 #[.string s] W fun e w' => e = .returned (.tuple #[.string ⟨#[]⟩, .int .i64 2]) ∧ Below W.heap.size W w')
    (hs : 255 < s.size) :
    Calls Try.prog 3 #[cmV c, .string s] w fun e w' => e = .returned (.bool true) ∧ Below w.heap.size w w' := by
  have hq := eql_same d
  have hg := eqv_same d
  have hbx0 : (w.alloc (.cells #[.int .i64 c.op, .int .i64 c.a, .int .i64 c.b, .int .i64 c.c, .int .i64 c.p, .int .i64 c.l, .int .i64 c.mn, .int .i64 c.mx, .int .i64 c.us, .int .i64 c.co] 27)).heap[w.heap.size]? = some (.cells #[.int .i64 c.op, .int .i64 c.a, .int .i64 c.b, .int .i64 c.c, .int .i64 c.p, .int .i64 c.l, .int .i64 c.mn, .int .i64 c.mx, .int .i64 c.us, .int .i64 c.co] 27) := heap_new _ rfl
  have hB0 := bl1 w (.cells #[.int .i64 c.op, .int .i64 c.a, .int .i64 c.b, .int .i64 c.c, .int .i64 c.p, .int .i64 c.l, .int .i64 c.mn, .int .i64 c.mx, .int .i64 c.us, .int .i64 c.co] 27)
  obtain ⟨w0, hw0⟩ : ∃ w0, w0 = w.alloc (.cells #[.int .i64 c.op, .int .i64 c.a, .int .i64 c.b, .int .i64 c.c, .int .i64 c.p, .int .i64 c.l, .int .i64 c.mn, .int .i64 c.mx, .int .i64 c.us, .int .i64 c.co] 27) := ⟨_, rfl⟩
  rw [← hw0] at hbx0 hB0
  go_enter Try.func3, Try.ntmps3
  go_upto_region 1 with fail
  rw [← hw0]
  clear hw0
  obtain ⟨k0, -⟩ := box_cells hbx0
  go_wp2_with fail
  refine (h1 _).mono ?_
  rintro e w1 ⟨rfl, hb⟩
  have hB1 := hB0.trans (hb.mono hB0.size)
  have hbx1 := heap_later hb hbx0
  clear hb hbx0 hB0 k0
  obtain ⟨k0, -⟩ := box_cells hbx1
  go_wp2_with fail
  refine (h2 _).mono ?_
  rintro e w2 ⟨rfl, hb⟩
  have hB2 := hB1.trans (hb.mono hB1.size)
  have hbx2 := heap_later hb hbx1
  clear hb hbx1 hB1 k0
  obtain ⟨k0, -⟩ := box_cells hbx2
  go_wp2_with fail
  refine (h3 _).mono ?_
  rintro e w3 ⟨rfl, hb⟩
  have hB3 := hB2.trans (hb.mono hB2.size)
  clear hb hB2 hbx2 k0
  go_wp2_with fail
  refine (h4 _).mono ?_
  rintro e w4 ⟨rfl, hb⟩
  have hB4 := hB3.trans (hb.mono hB3.size)
  have hbx4 : (w4.alloc (.cells #[.int .i64 d.op, .int .i64 d.a, .int .i64 d.b, .int .i64 d.c, .int .i64 d.p, .int .i64 d.l, .int .i64 d.mn, .int .i64 d.mx, .int .i64 d.us, .int .i64 d.co] 27)).heap[w4.heap.size]? = some (.cells #[.int .i64 d.op, .int .i64 d.a, .int .i64 d.b, .int .i64 d.c, .int .i64 d.p, .int .i64 d.l, .int .i64 d.mn, .int .i64 d.mx, .int .i64 d.us, .int .i64 d.co] 27) := heap_new _ rfl
  have hB4' := hB4.alloc hB4.size (.cells #[.int .i64 d.op, .int .i64 d.a, .int .i64 d.b, .int .i64 d.c, .int .i64 d.p, .int .i64 d.l, .int .i64 d.mn, .int .i64 d.mx, .int .i64 d.us, .int .i64 d.co] 27)
  clear hb
  go_wp2_with fail
  refine (h5 _).mono ?_
  rintro e w5 ⟨rfl, hb⟩
  have hB5 := hB4'.trans (hb.mono hB4'.size)
  have hbx5 := heap_old (.cells #[.int .i64 d.op, .int .i64 d.a, .int .i64 d.b, .int .i64 d.c, .int .i64 d.p, .int .i64 d.l, .int .i64 d.mn, .int .i64 d.mx, .int .i64 d.us, .int .i64 d.co] 27) (heap_later hb hbx4)
  have hby5 : (w5.alloc (.cells #[.int .i64 d.op, .int .i64 d.a, .int .i64 d.b, .int .i64 d.c, .int .i64 d.p, .int .i64 d.l, .int .i64 d.mn, .int .i64 d.mx, .int .i64 d.us, .int .i64 d.co] 27)).heap[w5.heap.size]? = some (.cells #[.int .i64 d.op, .int .i64 d.a, .int .i64 d.b, .int .i64 d.c, .int .i64 d.p, .int .i64 d.l, .int .i64 d.mn, .int .i64 d.mx, .int .i64 d.us, .int .i64 d.co] 27) := heap_new _ rfl
  have hB5' := hB5.alloc hB5.size (.cells #[.int .i64 d.op, .int .i64 d.a, .int .i64 d.b, .int .i64 d.c, .int .i64 d.p, .int .i64 d.l, .int .i64 d.mn, .int .i64 d.mx, .int .i64 d.us, .int .i64 d.co] 27)
  clear hb hbx4
  go_wp2_with fail
  refine (h6 _).mono ?_
  rintro e w6 ⟨rfl, hb⟩
  have hB6 := hB5'.trans (hb.mono hB5'.size)
  have hbx6 := heap_later hb hbx5
  have hby6 := heap_later hb hby5
  clear hb hbx5 hby5
  go_wp2_with fail
  refine (hbeg _).mono ?_
  rintro e w8 ⟨rfl, hb⟩
  have hB8 := hB6.trans (hb.mono hB6.size)
  obtain ⟨k1, -⟩ := box_cells (heap_later hb hbx6)
  obtain ⟨k2, -⟩ := box_cells (heap_later hb hby6)
  clear hb
  go_wp2
  go_ret
  exact ⟨rfl, hB8⟩
set_option maxRecDepth 20000 in
set_option maxHeartbeats 1600000 in
theorem writes_011 (hbeg : BegunAny) (c d : Cm) (s r : ByteArray) (w : World)
    (h1 : ∀ W, Calls Try.prog 6 #[cmV c] W fun e w' => e = .returned (.tuple #[.string ⟨#[]⟩, .int .i64 3]) ∧ Below W.heap.size W w')
    (h2 : ∀ W, Calls Try.prog 7 #[cmV c] W fun e w' => e = .returned (.int .i64 3) ∧ Below W.heap.size W w')
    (h4 : ∀ W, Calls Try.prog 9 #[.string s] W fun e w' => e = .returned (.tuple #[cmV d, .int .i64 0]) ∧ Below W.heap.size W w')
    (h5 : ∀ W, Calls Try.prog 10 #[.string s] W fun e w' => e = .returned (.tuple #[cmV d, .bool true]) ∧ Below W.heap.size W w')
    (h6 : ∀ W, Calls Try.prog 11 #[.string s] W fun e w' => e = .returned (.tuple #[.string r, .int .i64 0]) ∧ Below W.heap.size W w')
    (h7 : ∀ W, Calls Try.prog 12 #[.string s] W fun e w' => e = .returned (.string r) ∧ Below W.heap.size W w')
    (hs : s.size ≤ 255) :
    Calls Try.prog 3 #[cmV c, .string s] w fun e w' => e = .returned (.bool true) ∧ Below w.heap.size w w' := by
  have hq := eql_same d
  have hg := eqv_same d
  have hbx0 : (w.alloc (.cells #[.int .i64 c.op, .int .i64 c.a, .int .i64 c.b, .int .i64 c.c, .int .i64 c.p, .int .i64 c.l, .int .i64 c.mn, .int .i64 c.mx, .int .i64 c.us, .int .i64 c.co] 27)).heap[w.heap.size]? = some (.cells #[.int .i64 c.op, .int .i64 c.a, .int .i64 c.b, .int .i64 c.c, .int .i64 c.p, .int .i64 c.l, .int .i64 c.mn, .int .i64 c.mx, .int .i64 c.us, .int .i64 c.co] 27) := heap_new _ rfl
  have hB0 := bl1 w (.cells #[.int .i64 c.op, .int .i64 c.a, .int .i64 c.b, .int .i64 c.c, .int .i64 c.p, .int .i64 c.l, .int .i64 c.mn, .int .i64 c.mx, .int .i64 c.us, .int .i64 c.co] 27)
  obtain ⟨w0, hw0⟩ : ∃ w0, w0 = w.alloc (.cells #[.int .i64 c.op, .int .i64 c.a, .int .i64 c.b, .int .i64 c.c, .int .i64 c.p, .int .i64 c.l, .int .i64 c.mn, .int .i64 c.mx, .int .i64 c.us, .int .i64 c.co] 27) := ⟨_, rfl⟩
  rw [← hw0] at hbx0 hB0
  go_enter Try.func3, Try.ntmps3
  go_upto_region 1 with fail
  rw [← hw0]
  clear hw0
  obtain ⟨k0, -⟩ := box_cells hbx0
  go_wp2_with fail
  refine (h1 _).mono ?_
  rintro e w1 ⟨rfl, hb⟩
  have hB1 := hB0.trans (hb.mono hB0.size)
  have hbx1 := heap_later hb hbx0
  clear hb hbx0 hB0 k0
  obtain ⟨k0, -⟩ := box_cells hbx1
  go_wp2_with fail
  refine (h2 _).mono ?_
  rintro e w2 ⟨rfl, hb⟩
  have hB2 := hB1.trans (hb.mono hB1.size)
  have hbx2 := heap_later hb hbx1
  clear hb hbx1 hB1 k0
  obtain ⟨k0, -⟩ := box_cells hbx2
  go_wp2_with fail
  clear k0
  refine (h4 _).mono ?_
  rintro e w4 ⟨rfl, hb⟩
  have hB4 := hB2.trans (hb.mono hB2.size)
  have hbx4 : (w4.alloc (.cells #[.int .i64 d.op, .int .i64 d.a, .int .i64 d.b, .int .i64 d.c, .int .i64 d.p, .int .i64 d.l, .int .i64 d.mn, .int .i64 d.mx, .int .i64 d.us, .int .i64 d.co] 27)).heap[w4.heap.size]? = some (.cells #[.int .i64 d.op, .int .i64 d.a, .int .i64 d.b, .int .i64 d.c, .int .i64 d.p, .int .i64 d.l, .int .i64 d.mn, .int .i64 d.mx, .int .i64 d.us, .int .i64 d.co] 27) := heap_new _ rfl
  have hB4' := hB4.alloc hB4.size (.cells #[.int .i64 d.op, .int .i64 d.a, .int .i64 d.b, .int .i64 d.c, .int .i64 d.p, .int .i64 d.l, .int .i64 d.mn, .int .i64 d.mx, .int .i64 d.us, .int .i64 d.co] 27)
  clear hb
  go_wp2_with fail
  refine (h5 _).mono ?_
  rintro e w5 ⟨rfl, hb⟩
  have hB5 := hB4'.trans (hb.mono hB4'.size)
  have hbx5 := heap_old (.cells #[.int .i64 d.op, .int .i64 d.a, .int .i64 d.b, .int .i64 d.c, .int .i64 d.p, .int .i64 d.l, .int .i64 d.mn, .int .i64 d.mx, .int .i64 d.us, .int .i64 d.co] 27) (heap_later hb hbx4)
  have hby5 : (w5.alloc (.cells #[.int .i64 d.op, .int .i64 d.a, .int .i64 d.b, .int .i64 d.c, .int .i64 d.p, .int .i64 d.l, .int .i64 d.mn, .int .i64 d.mx, .int .i64 d.us, .int .i64 d.co] 27)).heap[w5.heap.size]? = some (.cells #[.int .i64 d.op, .int .i64 d.a, .int .i64 d.b, .int .i64 d.c, .int .i64 d.p, .int .i64 d.l, .int .i64 d.mn, .int .i64 d.mx, .int .i64 d.us, .int .i64 d.co] 27) := heap_new _ rfl
  have hB5' := hB5.alloc hB5.size (.cells #[.int .i64 d.op, .int .i64 d.a, .int .i64 d.b, .int .i64 d.c, .int .i64 d.p, .int .i64 d.l, .int .i64 d.mn, .int .i64 d.mx, .int .i64 d.us, .int .i64 d.co] 27)
  clear hb hbx4
  go_wp2_with fail
  refine (h6 _).mono ?_
  rintro e w6 ⟨rfl, hb⟩
  have hB6 := hB5'.trans (hb.mono hB5'.size)
  have hbx6 := heap_later hb hbx5
  have hby6 := heap_later hb hby5
  clear hb hbx5 hby5
  go_wp2_with fail
  refine (h7 _).mono ?_
  rintro e w7 ⟨rfl, hb⟩
  have hB7 := hB6.trans (hb.mono hB6.size)
  have hbx7 := heap_later hb hbx6
  have hby7 := heap_later hb hby6
  clear hb hbx6 hby6
  go_wp2_with fail
  refine (hbeg _).mono ?_
  rintro e w8 ⟨rfl, hb⟩
  have hB8 := hB7.trans (hb.mono hB7.size)
  obtain ⟨k1, -⟩ := box_cells (heap_later hb hbx7)
  obtain ⟨k2, -⟩ := box_cells (heap_later hb hby7)
  clear hb
  go_wp2
  go_ret
  exact ⟨rfl, hB8⟩
set_option maxRecDepth 20000 in
set_option maxHeartbeats 1600000 in
theorem writes_001 (hbeg : BegunAny) (c d : Cm) (s r : ByteArray) (w : World)
    (h1 : ∀ W, Calls Try.prog 6 #[cmV c] W fun e w' => e = .returned (.tuple #[.string ⟨#[]⟩, .int .i64 3]) ∧ Below W.heap.size W w')
    (h2 : ∀ W, Calls Try.prog 7 #[cmV c] W fun e w' => e = .returned (.int .i64 3) ∧ Below W.heap.size W w')
    (h4 : ∀ W, Calls Try.prog 9 #[.string s] W fun e w' => e = .returned (.tuple #[cmV d, .int .i64 1]) ∧ Below W.heap.size W w')
    (h5 : ∀ W, Calls Try.prog 10 #[.string s] W fun e w' => e = .returned (.tuple #[cmV d, .bool false]) ∧ Below W.heap.size W w')
    (h6 : ∀ W, Calls Try.prog 11 #[.string s] W fun e w' => e = .returned (.tuple #[.string r, .int .i64 0]) ∧ Below W.heap.size W w')
    (h7 : ∀ W, Calls Try.prog 12 #[.string s] W fun e w' => e = .returned (.string r) ∧ Below W.heap.size W w')
    (hs : s.size ≤ 255) :
    Calls Try.prog 3 #[cmV c, .string s] w fun e w' => e = .returned (.bool true) ∧ Below w.heap.size w w' := by
  have hq := eql_same d
  have hg := eqv_same d
  have hbx0 : (w.alloc (.cells #[.int .i64 c.op, .int .i64 c.a, .int .i64 c.b, .int .i64 c.c, .int .i64 c.p, .int .i64 c.l, .int .i64 c.mn, .int .i64 c.mx, .int .i64 c.us, .int .i64 c.co] 27)).heap[w.heap.size]? = some (.cells #[.int .i64 c.op, .int .i64 c.a, .int .i64 c.b, .int .i64 c.c, .int .i64 c.p, .int .i64 c.l, .int .i64 c.mn, .int .i64 c.mx, .int .i64 c.us, .int .i64 c.co] 27) := heap_new _ rfl
  have hB0 := bl1 w (.cells #[.int .i64 c.op, .int .i64 c.a, .int .i64 c.b, .int .i64 c.c, .int .i64 c.p, .int .i64 c.l, .int .i64 c.mn, .int .i64 c.mx, .int .i64 c.us, .int .i64 c.co] 27)
  obtain ⟨w0, hw0⟩ : ∃ w0, w0 = w.alloc (.cells #[.int .i64 c.op, .int .i64 c.a, .int .i64 c.b, .int .i64 c.c, .int .i64 c.p, .int .i64 c.l, .int .i64 c.mn, .int .i64 c.mx, .int .i64 c.us, .int .i64 c.co] 27) := ⟨_, rfl⟩
  rw [← hw0] at hbx0 hB0
  go_enter Try.func3, Try.ntmps3
  go_upto_region 1 with fail
  rw [← hw0]
  clear hw0
  obtain ⟨k0, -⟩ := box_cells hbx0
  go_wp2_with fail
  refine (h1 _).mono ?_
  rintro e w1 ⟨rfl, hb⟩
  have hB1 := hB0.trans (hb.mono hB0.size)
  have hbx1 := heap_later hb hbx0
  clear hb hbx0 hB0 k0
  obtain ⟨k0, -⟩ := box_cells hbx1
  go_wp2_with fail
  refine (h2 _).mono ?_
  rintro e w2 ⟨rfl, hb⟩
  have hB2 := hB1.trans (hb.mono hB1.size)
  have hbx2 := heap_later hb hbx1
  clear hb hbx1 hB1 k0
  obtain ⟨k0, -⟩ := box_cells hbx2
  go_wp2_with fail
  clear k0
  refine (h4 _).mono ?_
  rintro e w4 ⟨rfl, hb⟩
  have hB4 := hB2.trans (hb.mono hB2.size)
  have hbx4 : (w4.alloc (.cells #[.int .i64 d.op, .int .i64 d.a, .int .i64 d.b, .int .i64 d.c, .int .i64 d.p, .int .i64 d.l, .int .i64 d.mn, .int .i64 d.mx, .int .i64 d.us, .int .i64 d.co] 27)).heap[w4.heap.size]? = some (.cells #[.int .i64 d.op, .int .i64 d.a, .int .i64 d.b, .int .i64 d.c, .int .i64 d.p, .int .i64 d.l, .int .i64 d.mn, .int .i64 d.mx, .int .i64 d.us, .int .i64 d.co] 27) := heap_new _ rfl
  have hB4' := hB4.alloc hB4.size (.cells #[.int .i64 d.op, .int .i64 d.a, .int .i64 d.b, .int .i64 d.c, .int .i64 d.p, .int .i64 d.l, .int .i64 d.mn, .int .i64 d.mx, .int .i64 d.us, .int .i64 d.co] 27)
  clear hb
  go_wp2_with fail
  refine (h5 _).mono ?_
  rintro e w5 ⟨rfl, hb⟩
  have hB5 := hB4'.trans (hb.mono hB4'.size)
  have hbx5 := heap_old (.cells #[.int .i64 d.op, .int .i64 d.a, .int .i64 d.b, .int .i64 d.c, .int .i64 d.p, .int .i64 d.l, .int .i64 d.mn, .int .i64 d.mx, .int .i64 d.us, .int .i64 d.co] 27) (heap_later hb hbx4)
  have hby5 : (w5.alloc (.cells #[.int .i64 d.op, .int .i64 d.a, .int .i64 d.b, .int .i64 d.c, .int .i64 d.p, .int .i64 d.l, .int .i64 d.mn, .int .i64 d.mx, .int .i64 d.us, .int .i64 d.co] 27)).heap[w5.heap.size]? = some (.cells #[.int .i64 d.op, .int .i64 d.a, .int .i64 d.b, .int .i64 d.c, .int .i64 d.p, .int .i64 d.l, .int .i64 d.mn, .int .i64 d.mx, .int .i64 d.us, .int .i64 d.co] 27) := heap_new _ rfl
  have hB5' := hB5.alloc hB5.size (.cells #[.int .i64 d.op, .int .i64 d.a, .int .i64 d.b, .int .i64 d.c, .int .i64 d.p, .int .i64 d.l, .int .i64 d.mn, .int .i64 d.mx, .int .i64 d.us, .int .i64 d.co] 27)
  clear hb hbx4
  go_wp2_with fail
  refine (h6 _).mono ?_
  rintro e w6 ⟨rfl, hb⟩
  have hB6 := hB5'.trans (hb.mono hB5'.size)
  have hbx6 := heap_later hb hbx5
  have hby6 := heap_later hb hby5
  clear hb hbx5 hby5
  go_wp2_with fail
  refine (h7 _).mono ?_
  rintro e w7 ⟨rfl, hb⟩
  have hB7 := hB6.trans (hb.mono hB6.size)
  have hbx7 := heap_later hb hbx6
  have hby7 := heap_later hb hby6
  clear hb hbx6 hby6
  go_wp2_with fail
  refine (hbeg _).mono ?_
  rintro e w8 ⟨rfl, hb⟩
  have hB8 := hB7.trans (hb.mono hB7.size)
  obtain ⟨k1, -⟩ := box_cells (heap_later hb hbx7)
  obtain ⟨k2, -⟩ := box_cells (heap_later hb hby7)
  clear hb
  go_wp2
  go_ret
  exact ⟨rfl, hB8⟩
set_option maxRecDepth 20000 in
set_option maxHeartbeats 1600000 in
theorem writes_000 (hbeg : BegunAny) (c d : Cm) (s : ByteArray) (w : World)
    (h1 : ∀ W, Calls Try.prog 6 #[cmV c] W fun e w' => e = .returned (.tuple #[.string ⟨#[]⟩, .int .i64 3]) ∧ Below W.heap.size W w')
    (h2 : ∀ W, Calls Try.prog 7 #[cmV c] W fun e w' => e = .returned (.int .i64 3) ∧ Below W.heap.size W w')
    (h4 : ∀ W, Calls Try.prog 9 #[.string s] W fun e w' => e = .returned (.tuple #[cmV d, .int .i64 1]) ∧ Below W.heap.size W w')
    (h5 : ∀ W, Calls Try.prog 10 #[.string s] W fun e w' => e = .returned (.tuple #[cmV d, .bool false]) ∧ Below W.heap.size W w')
    (h6 : ∀ W, Calls Try.prog 11 #[.string s] W fun e w' => e = .returned (.tuple #[.string ⟨#[]⟩, .int .i64 2]) ∧ Below W.heap.size W w')
    (hs : 255 < s.size) :
    Calls Try.prog 3 #[cmV c, .string s] w fun e w' => e = .returned (.bool true) ∧ Below w.heap.size w w' := by
  have hq := eql_same d
  have hg := eqv_same d
  have hbx0 : (w.alloc (.cells #[.int .i64 c.op, .int .i64 c.a, .int .i64 c.b, .int .i64 c.c, .int .i64 c.p, .int .i64 c.l, .int .i64 c.mn, .int .i64 c.mx, .int .i64 c.us, .int .i64 c.co] 27)).heap[w.heap.size]? = some (.cells #[.int .i64 c.op, .int .i64 c.a, .int .i64 c.b, .int .i64 c.c, .int .i64 c.p, .int .i64 c.l, .int .i64 c.mn, .int .i64 c.mx, .int .i64 c.us, .int .i64 c.co] 27) := heap_new _ rfl
  have hB0 := bl1 w (.cells #[.int .i64 c.op, .int .i64 c.a, .int .i64 c.b, .int .i64 c.c, .int .i64 c.p, .int .i64 c.l, .int .i64 c.mn, .int .i64 c.mx, .int .i64 c.us, .int .i64 c.co] 27)
  obtain ⟨w0, hw0⟩ : ∃ w0, w0 = w.alloc (.cells #[.int .i64 c.op, .int .i64 c.a, .int .i64 c.b, .int .i64 c.c, .int .i64 c.p, .int .i64 c.l, .int .i64 c.mn, .int .i64 c.mx, .int .i64 c.us, .int .i64 c.co] 27) := ⟨_, rfl⟩
  rw [← hw0] at hbx0 hB0
  go_enter Try.func3, Try.ntmps3
  go_upto_region 1 with fail
  rw [← hw0]
  clear hw0
  obtain ⟨k0, -⟩ := box_cells hbx0
  go_wp2_with fail
  refine (h1 _).mono ?_
  rintro e w1 ⟨rfl, hb⟩
  have hB1 := hB0.trans (hb.mono hB0.size)
  have hbx1 := heap_later hb hbx0
  clear hb hbx0 hB0 k0
  obtain ⟨k0, -⟩ := box_cells hbx1
  go_wp2_with fail
  refine (h2 _).mono ?_
  rintro e w2 ⟨rfl, hb⟩
  have hB2 := hB1.trans (hb.mono hB1.size)
  have hbx2 := heap_later hb hbx1
  clear hb hbx1 hB1 k0
  obtain ⟨k0, -⟩ := box_cells hbx2
  go_wp2_with fail
  clear k0
  refine (h4 _).mono ?_
  rintro e w4 ⟨rfl, hb⟩
  have hB4 := hB2.trans (hb.mono hB2.size)
  have hbx4 : (w4.alloc (.cells #[.int .i64 d.op, .int .i64 d.a, .int .i64 d.b, .int .i64 d.c, .int .i64 d.p, .int .i64 d.l, .int .i64 d.mn, .int .i64 d.mx, .int .i64 d.us, .int .i64 d.co] 27)).heap[w4.heap.size]? = some (.cells #[.int .i64 d.op, .int .i64 d.a, .int .i64 d.b, .int .i64 d.c, .int .i64 d.p, .int .i64 d.l, .int .i64 d.mn, .int .i64 d.mx, .int .i64 d.us, .int .i64 d.co] 27) := heap_new _ rfl
  have hB4' := hB4.alloc hB4.size (.cells #[.int .i64 d.op, .int .i64 d.a, .int .i64 d.b, .int .i64 d.c, .int .i64 d.p, .int .i64 d.l, .int .i64 d.mn, .int .i64 d.mx, .int .i64 d.us, .int .i64 d.co] 27)
  clear hb
  go_wp2_with fail
  refine (h5 _).mono ?_
  rintro e w5 ⟨rfl, hb⟩
  have hB5 := hB4'.trans (hb.mono hB4'.size)
  have hbx5 := heap_old (.cells #[.int .i64 d.op, .int .i64 d.a, .int .i64 d.b, .int .i64 d.c, .int .i64 d.p, .int .i64 d.l, .int .i64 d.mn, .int .i64 d.mx, .int .i64 d.us, .int .i64 d.co] 27) (heap_later hb hbx4)
  have hby5 : (w5.alloc (.cells #[.int .i64 d.op, .int .i64 d.a, .int .i64 d.b, .int .i64 d.c, .int .i64 d.p, .int .i64 d.l, .int .i64 d.mn, .int .i64 d.mx, .int .i64 d.us, .int .i64 d.co] 27)).heap[w5.heap.size]? = some (.cells #[.int .i64 d.op, .int .i64 d.a, .int .i64 d.b, .int .i64 d.c, .int .i64 d.p, .int .i64 d.l, .int .i64 d.mn, .int .i64 d.mx, .int .i64 d.us, .int .i64 d.co] 27) := heap_new _ rfl
  have hB5' := hB5.alloc hB5.size (.cells #[.int .i64 d.op, .int .i64 d.a, .int .i64 d.b, .int .i64 d.c, .int .i64 d.p, .int .i64 d.l, .int .i64 d.mn, .int .i64 d.mx, .int .i64 d.us, .int .i64 d.co] 27)
  clear hb hbx4
  go_wp2_with fail
  refine (h6 _).mono ?_
  rintro e w6 ⟨rfl, hb⟩
  have hB6 := hB5'.trans (hb.mono hB5'.size)
  have hbx6 := heap_later hb hbx5
  have hby6 := heap_later hb hby5
  clear hb hbx5 hby5
  go_wp2_with fail
  refine (hbeg _).mono ?_
  rintro e w8 ⟨rfl, hb⟩
  have hB8 := hB6.trans (hb.mono hB6.size)
  obtain ⟨k1, -⟩ := box_cells (heap_later hb hbx6)
  obtain ⟨k2, -⟩ := box_cells (heap_later hb hby6)
  clear hb
  go_wp2
  go_ret
  exact ⟨rfl, hB8⟩
theorem writes_any (hbeg : BegunAny) (c : Cm) (s : ByteArray) (w : World) :
    Calls Try.prog 3 #[cmV c, .string s] w fun e w' => e = .returned (.bool true) ∧ Below w.heap.size w w' := by
  cases h : okCm c
  · have hw := fun W => write_bad h W
    have he := fun W => writeE_is h W
    by_cases hs : s.size = 37
    · exact writes_011 hbeg c _ s _ w hw he (fun W => read_yes s W hs) (fun W => cmdFrom_yes s W hs) (fun W => frame_yes s W (by omega)) (fun W => frameOf_any s W (by omega)) (by omega)
    · by_cases hs2 : s.size ≤ 255
      · exact writes_001 hbeg c _ s _ w hw he (fun W => read_no s W hs) (fun W => cmdFrom_no s W hs) (fun W => frame_yes s W (by omega)) (fun W => frameOf_any s W (by omega)) (by omega)
      · exact writes_000 hbeg c _ s w hw he (fun W => read_no s W hs) (fun W => cmdFrom_no s W hs) (fun W => frame_no s W (by omega)) (by omega)
  · have hw := fun W => write_ok h W
    have he := fun W => writeE_is h W
    have hc := fun W => cmdBytes_any c W
    by_cases hs : s.size = 37
    · exact writes_111 hbeg c _ s _ _ w hw he hc (fun W => read_yes s W hs) (fun W => cmdFrom_yes s W hs) (fun W => frame_yes s W (by omega)) (fun W => frameOf_any s W (by omega)) (by omega)
    · by_cases hs2 : s.size ≤ 255
      · exact writes_101 hbeg c _ s _ _ w hw he hc (fun W => read_no s W hs) (fun W => cmdFrom_no s W hs) (fun W => frame_yes s W (by omega)) (fun W => frameOf_any s W (by omega)) (by omega)
      · exact writes_100 hbeg c _ s _ w hw he hc (fun W => read_no s W hs) (fun W => cmdFrom_no s W hs) (fun W => frame_no s W (by omega)) (by omega)
end Go.Proofs.Ytlledongbfjkiaa
