/- What Replay of package wire comes to. -/
import Derived.Test.YtlledongbfjkiaaWi
import Derived.WalkMore
import Derived.ScopeJumps
namespace Go.Proofs.Ytlledongbfjkiaa
open Go.RowKit

/-- The cells of commands. -/
def cellsC (c : Cm) : List Value := [.int .i64 c.op, .int .i64 c.a, .int .i64 c.b, .int .i64 c.c, .int .i64 c.p, .int .i64 c.l, .int .i64 c.mn, .int .i64 c.mx, .int .i64 c.us, .int .i64 c.co]
def flatC (cs : List Cm) : List Value := cs.flatMap cellsC
theorem cellsC_len (c : Cm) : (cellsC c).length = 10 := rfl
theorem flatC_len : ∀ cs : List Cm, (flatC cs).length = cs.length * 10
  | [] => rfl
  | c :: cs => by
    have := flatC_len cs
    unfold flatC at this ⊢
    rw [List.flatMap_cons, List.length_append, this, cellsC_len, List.length_cons]
    omega
theorem flatC_snoc (cs : List Cm) (c : Cm) : flatC (cs ++ [c]) = flatC cs ++ cellsC c := by simp [flatC]
theorem flatC_at : ∀ (cs : List Cm) (i j : Nat), i < cs.length → j < 10 → (flatC cs)[i * 10 + j]? = (cellsC (cmAt cs i))[j]?
  | [], i, j, hi, _ => by simp at hi
  | c :: cs, 0, j, _, hj => by
    unfold flatC
    rw [List.flatMap_cons, List.getElem?_append_left (by rw [cellsC_len]; omega)]
    simp [cmAt]
  | c :: cs, i + 1, j, hi, hj => by
    have := flatC_at cs i j (by simpa using hi) hj
    unfold flatC at this ⊢
    rw [List.flatMap_cons, List.getElem?_append_right (by rw [cellsC_len]; omega), cellsC_len, show (i + 1) * 10 + j - 10 = i * 10 + j by omega, this]
    simp [cmAt]
/-- Commands that lie in memory of the call's own. -/
def OC (w : World) (base : Nat) (v : Value) (cs : List Cm) : Prop := w.ownsRow base 27 10 v cs.length (flatC cs)
theorem OC.nil (w : World) (base : Nat) : OC w base (.slice none 0 0) [] := World.ownsRow_nil _ _ _ _
theorem OC.later {w w' : World} {base : Nat} {v : Value} {xs : List Cm} (h : OC w base v xs) (hb : Below w.heap.size w w') : OC w' base v xs := by
  refine World.ownsRow.kept h (grown_of_below hb) ?_
  cases hv : v.ownBlock
  · exact .inl rfl
  · exact .inr (by simp)
theorem OC.alloc {w : World} {base : Nat} {v : Value} {xs : List Cm} (h : OC w base v xs) (o : Obj) : OC (w.alloc o) base v xs := World.ownsRow.alloc h o
theorem OC.lt {w : World} {base : Nat} {v : Value} {xs : List Cm} (h : OC w base v xs) : ∀ k, v.ownBlock = some k → base ≤ k ∧ k < w.heap.size := World.ownsRow.lt h
theorem OC.shape {w : World} {base : Nat} {v : Value} {xs : List Cm} (h : OC w base v xs) : ∃ x cap, v = .slice x xs.length cap ∧ xs.length ≤ cap ∧ cap ≤ 9223372036854775807 ∧ CS w x xs.length xs := by
  rcases h.2 with ⟨rfl, h0⟩ | ⟨g, cap, cur, rfl, -, -, h4, h5, -⟩
  · exact ⟨none, 0, by rw [h0], by omega, by omega, ⟨rfl, fun i hi => by omega⟩⟩
  · refine ⟨some ⟨g, 0, none⟩, cap, rfl, h4, by unfold maxLen at h5; omega, ⟨rfl, fun i hi => ⟨g, 0, rfl, ?_⟩⟩⟩
    have e : ∀ j, j < 10 → ∀ u, (cellsC (cmAt xs i))[j]? = some u → w.cell? ⟨g, 0 + i * 10 + j, none⟩ = some u := fun j hj u hu => by
      have := World.ownsRow.cells h (g := g) rfl (i * 10 + j) u ((flatC_at xs i j hi hj).trans hu)
      rw [Addr.add_lit] at this
      rw [Nat.add_assoc]
      exact this
    exact ⟨e 0 (by omega) _ rfl, e 1 (by omega) _ rfl, e 2 (by omega) _ rfl, e 3 (by omega) _ rfl, e 4 (by omega) _ rfl, e 5 (by omega) _ rfl, e 6 (by omega) _ rfl, e 7 (by omega) _ rfl, e 8 (by omega) _ rfl, e 9 (by omega) _ rfl⟩
theorem info_cmd : (Try.prog.info? 27).map (fun i => (i.zero, i.size, i.bytes)) = some (some (.agg #[.int .i64 0, .int .i64 0, .int .i64 0, .int .i64 0, .int .i64 0, .int .i64 0, .int .i64 0, .int .i64 0, .int .i64 0, .int .i64 0]), 10, 80) := by kernel_rfl
theorem info_cmd' : ∃ i, Try.prog.info? 27 = some i ∧ i.zero = some (.agg #[.int .i64 0, .int .i64 0, .int .i64 0, .int .i64 0, .int .i64 0, .int .i64 0, .int .i64 0, .int .i64 0, .int .i64 0, .int .i64 0]) ∧ i.size = 10 ∧ i.bytes = 80 := by
  obtain ⟨i, hi, h⟩ := Option.map_eq_some_iff.1 info_cmd
  simp only [Prod.mk.injEq] at h
  exact ⟨i, hi, h.1, h.2.1, h.2.2⟩
theorem under_cmds : Try.prog.underlying 41 = some (.slice 27) := by kernel_rfl
/-- append of a command to commands of the call's own. -/
theorem wpList_append_oc {w : World} {ops : Array Oper} {rest : List Oper} {o : Oper} {a : Act} {Q : Exit → Act → World → Prop} (hgd : o.guard = none) (s x : Operand)
    (ho : o.op = .call { callee := .builtin .append, args := #[s, x], argTypes := #[41, 41] }) (base : Nat) (v : Value) (cs : List Cm) (hs : a.eval s = v) (hO : OC w base v cs)
    (g k : Nat) (c : Cm) (hx : a.eval x = .slice (some ⟨g, 0, none⟩) 1 k) (hy : ∀ j, w.cell? ⟨g, j, none⟩ = (cellsC c)[j]?)
    (hlen : cs.length ≤ 1000000) (hbase : base ≤ w.heap.size)
    (h : ∀ v' w', OC w' base v' (cs ++ [c]) → w.grownBy w' v.ownBlock → wpList Try.prog ops Q rest (a.put o.dst v') w') : wpList Try.prog ops Q (o :: rest) a w := by
  obtain ⟨i0, hi, hz0, hz1, hz2⟩ := info_cmd'
  refine wpList_append_own w hgd s x 41 ho base 27 i0 _ 10 80 under_cmds hi hz0 hz1 hz2 rfl (by decide) v cs.length (flatC cs) hs hO ⟨g, 0, none⟩ 1 k (cellsC c) hx rfl ?_ ?_ (by unfold maxLen; omega) (by omega) hbase ?_
  · intro j u hj
    rw [Addr.add_lit, Nat.zero_add, hy j]
    exact hj
  · intro u hu
    simp only [cellsC, List.mem_cons, List.not_mem_nil, or_false] at hu
    rcases hu with rfl | rfl | rfl | rfl | rfl | rfl | rfl | rfl | rfl | rfl <;> rfl
  · intro v' w' h1 h2 _
    refine h v' w' ?_ h2
    unfold OC
    rw [flatC_snoc, List.length_append]
    exact h1

theorem bs_from (s : ByteArray) (a : Nat) : bs (s.extract a s.size) = (bs s).drop a := by
  rw [bs_extract, List.take_of_length_le (by rw [List.length_drop, bs_len]; omega)]
theorem first_at (s : ByteArray) (a : Nat) (t : Bool) (h : okF ((bs s).drop a) = t) (w : World) :
    Calls Try.prog 29 #[.string (s.extract a s.size)] w fun e w' => e = .returned (.tuple #[cmV (fiC ((bs s).drop a)), .int .i64 (if t = true then 0 else 1)]) ∧ Below w.heap.size w w' := by
  have := first_any (s.extract a s.size) w
  rw [bs_from] at this
  unfold fiE at this
  rw [h] at this
  exact this
theorem rp_yes {xs : List Int} {f : Nat} (h : okF xs = true) : rp (f + 1) xs = fiC xs :: rp f (xs.drop 42) := by
  rw [(fi_yes h).1]
  show (if okF xs = true then _ else _) = _
  rw [if_pos h]
theorem rp_no {xs : List Int} {f : Nat} (h : okF xs = false) : rp f xs = [] := by
  cases f with
  | zero => rfl
  | succ f =>
    show (if okF xs = true then _ else _) = _
    rw [h]
    rfl
theorem okF_len {xs : List Int} (h : okF xs = true) : 42 ≤ xs.length := by
  unfold okF at h
  simp only [Bool.and_eq_true, decide_eq_true_eq] at h
  exact h.1

/-- What Replay answers. -/
def RpPost (s : ByteArray) (w : World) (e : Ending) (w' : World) : Prop :=
  ∃ x cap, e = .returned (.tuple #[.slice x (rp 200 (bs s)).length cap, .int .i64 (42 * (rp 200 (bs s)).length : Nat), .int .i64 0]) ∧ Below w.heap.size w w' ∧ (rp 200 (bs s)).length ≤ cap ∧ cap ≤ 9223372036854775807 ∧ CS w' x (rp 200 (bs s)).length (rp 200 (bs s))
theorem rpPost_of {s : ByteArray} {w w' : World} {cs : List Cm} {x : Option Addr} {k cap : Nat} (hk : cs.length = k) (h : rp 200 (bs s) = cs) (hb : Below w.heap.size w w') (h1 : k ≤ cap) (h2 : cap ≤ 9223372036854775807) (hc : CS w' x k cs) :
    RpPost s w (.returned (.tuple #[.slice x k cap, .int .i64 (42 * (k : Int)), .int .i64 0])) w' := by
  subst hk
  unfold RpPost
  rw [h]
  exact ⟨x, cap, by rw [show ((42 * cs.length : Nat) : Int) = 42 * (cs.length : Int) by omega], hb, h1, h2, hc⟩
theorem replay_many (s : ByteArray) (w : World) (hs : 16384 < s.size) :
    Calls Try.prog 16 #[.string s] w fun e w' => e = .returned (.tuple #[.slice none 0 0, .int .i64 0, .int .i64 2]) ∧ Below w.heap.size w w' := by
  go_enter Try.func16, Try.ntmps16
  go_wp2
  go_step3
  go_wp2
  rw [Exit.noGoto_ret]
  exact bodyPost_ret (v := .tuple #[.slice none 0 0, .int .i64 0, .int .i64 2]) (by simp [results, Try.results16, go_sem]) rfl ⟨rfl, Below.refl _ _⟩
set_option maxRecDepth 20000 in
set_option maxHeartbeats 1600000 in
theorem replay_few (s : ByteArray) (w : World) (hs : s.size ≤ 16384) :
    Calls Try.prog 16 #[.string s] w (RpPost s w) := by
  have hbl := bs_len s
  have hbl' : Hid ((bs s).length = s.size) := hbl
  clear hbl
  go_enter Try.func16, Try.ntmps16
  go_wp2
  go_step3
  go_wp2
  go_step3
  go_wp2
  go_loopw [5, 6] (fun v i wr => ∃ cs : List Cm, cs.length ≤ 200 ∧ 42 * cs.length ≤ s.size ∧ i = .int .i64 (42 * cs.length : Nat) ∧ Hid (rp 200 (bs s) = cs ++ rp (200 - cs.length) ((bs s).drop (42 * cs.length))) ∧ OC wr w.heap.size v cs ∧ Below w.heap.size w wr) (fun _ i _ => 10000 - (intOf i).toNat)
  case atStart => exact ⟨[], by simp, by simp, rfl, by unfold Hid; simp, OC.nil _ _, Below.refl _ _⟩
  case round =>
    obtain ⟨cs, h200, hsz, rfl, hrp, hO, hB⟩ := hrel
    obtain ⟨x, cap, rfl, hcap, hcap2, hCS⟩ := hO.shape
    generalize hk : cs.length = k at h200 hsz hcap hCS ⊢
    have hk' : Hid (cs.length = k) := hk
    clear hk
    by_cases hlt : k < 200
    · have hlt' := hlt
      cases hf : okF ((bs s).drop (42 * k))
      · go_wp2_with (go_at_call 29; refine (first_at s (42 * k) _ hf _).mono ?_; rintro e w1 ⟨rfl, hb1⟩)
        rw [Exit.noGoto_ret]
        have h01 : Below wr.heap.size wr (w1.alloc _) := hb1.alloc hb1.size (.cells (cellsC (fiC ((bs s).drop (42 * k)))).toArray 27)
        refine bodyPost_ret (v := .tuple #[.slice x k cap, .int .i64 (42 * (k : Int)), .int .i64 0]) (by simp [results, Try.results16, go_sem]) rfl ?_
        exact rpPost_of hk'.out (by rw [hrp.out, hk'.out, rp_no hf, List.append_nil]) (hB.trans (h01.mono hB.size)) hcap hcap2 (hCS.later h01)
      · go_wp2_with (first | (go_at_call 29; refine (first_at s (42 * k) _ hf _).mono ?_; rintro e w1 ⟨rfl, hb1⟩) | (at_builtin; refine Hid.out ?_))
        unfold Hid
        have hl42 := okF_len hf
        rw [List.length_drop, hbl'.out] at hl42
        have h01 : Below wr.heap.size wr (w1.alloc _) := hb1.alloc hb1.size (.cells (cellsC (fiC ((bs s).drop (42 * k)))).toArray 27)
        have h02 : Below wr.heap.size wr ((w1.alloc _).alloc _) := h01.alloc h01.size (.cells (cellsC (fiC ((bs s).drop (42 * k)))).toArray 27)
        have hO2 := hO.later h02
        rw [hk'.out] at hO2
        refine wpList_append_oc rfl _ _ rfl w.heap.size _ cs rfl hO2 (w1.heap.size + 1) 1 (fiC ((bs s).drop (42 * k))) rfl (fun j => ?_) (by rw [hk'.out]; omega) (Nat.le_trans hB.size h02.size) ?_
        · have hnew : ((w1.alloc (.cells (cellsC (fiC ((bs s).drop (42 * k)))).toArray 27)).alloc (.cells (cellsC (fiC ((bs s).drop (42 * k)))).toArray 27)).heap[w1.heap.size + 1]? = some (.cells (cellsC (fiC ((bs s).drop (42 * k)))).toArray 27) := heap_new _ (by simp)
          exact ((box_cells hnew).1 j).trans (by simp)
        · intro v' w' hO' hg'
          have hB' := below_grown (hB.trans (h02.mono hB.size)) hg' (fun j e => (hO2.lt j e).1)
          go_wp2
          go_roundw
          case rel => exact ⟨cs ++ [fiC ((bs s).drop (42 * k))], by simp; rw [hk'.out]; omega, by simp; rw [hk'.out]; omega, by simp; rw [hk'.out]; omega, by
            unfold Hid
            rw [hrp.out, hk'.out, List.length_append, hk'.out, show 200 - k = (200 - (k + 1)) + 1 by omega, rp_yes hf, List.drop_drop]
            simp
            rw [show 42 * k + 42 = 42 * (k + 1) by omega], hO', hB'⟩
          case measure => simp [intOf]; omega
    · obtain rfl : k = 200 := by omega
      go_wp2
      rw [Exit.noGoto_ret]
      refine bodyPost_ret (v := .tuple #[.slice x 200 cap, .int .i64 (42 * ((200 : Nat) : Int)), .int .i64 0]) (by simp [results, Try.results16, go_sem]) rfl ?_
      exact rpPost_of hk'.out (by rw [hrp.out, hk'.out, show 200 - 200 = 0 from rfl]; simp [rp]) hB hcap hcap2 hCS
end Go.Proofs.Ytlledongbfjkiaa
