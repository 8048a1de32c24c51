/- Bytes in memory of the call's own; what lowFirst of package wire comes to. -/
import Derived.Test.YtlledongbfjkiaaRows
import Derived.Test.YtlledongbfjkiaaK
import Derived.Test.YtlledongbfjkiaaWm
import Derived.Laws.AppendOwn
import Derived.Lib.AppendStr
import Derived.Deep.RegionHeld3
import Derived.Deep.DeepCutAuto
namespace Go.Proofs.Ytlledongbfjkiaa
open Go.RowKit

theorem bl1 (w : World) (o : Obj) : Below w.heap.size w (w.alloc o) := (Below.refl _ _).alloc (Nat.le_refl _) _
theorem bl2 (w : World) (o p : Obj) : Below w.heap.size w ((w.alloc o).alloc p) := (bl1 w o).alloc (by simp) _
theorem heap_old {W : World} {k : Nat} {v : Obj} (o : Obj) (h : W.heap[k]? = some v) : (W.alloc o).heap[k]? = some v := (Below.heap_alloc _ _ _ (Array.getElem?_eq_some_iff.1 h).1).trans h
theorem heap_new {W : World} {k : Nat} (o : Obj) (h : k = W.heap.size) : (W.alloc o).heap[k]? = some o := by subst h; exact heap_alloc_new W o
theorem heap_later {V V' : World} {b : Nat} {o : Obj} (hb : Below V.heap.size V V') (h : V.heap[b]? = some o) : V'.heap[b]? = some o := (hb.block _ (Array.getElem?_eq_some_iff.1 h).1).trans h
theorem grown_of_below {X Y : World} (h : Below X.heap.size X Y) : X.grownBy Y none := ⟨h.os, h.tape, h.output, h.size, fun k hk _ => h.block k hk⟩
theorem below_grown {w V V' : World} {r : Option Nat} (h : Below w.heap.size w V) (g : V.grownBy V' r) (hr : ∀ k, r = some k → w.heap.size ≤ k) : Below w.heap.size w V' :=
  ⟨g.os.trans h.os, g.tape.trans h.tape, g.output.trans h.output, Nat.le_trans h.size g.size, fun j hj => (g.block j (Nat.lt_of_lt_of_le hj h.size) (fun e => by have := hr j e.symm; omega)).trans (h.block j hj)⟩

theorem info_u8 : (Try.prog.info? 5).map (fun i => (i.zero, i.size, i.bytes)) = some (some (.int .u8 0), 1, 1) := by kernel_rfl
theorem info_u8' : ∃ i, Try.prog.info? 5 = some i ∧ i.zero = some (.int .u8 0) ∧ i.size = 1 ∧ i.bytes = 1 := by
  obtain ⟨i, hi, h⟩ := Option.map_eq_some_iff.1 info_u8
  simp only [Prod.mk.injEq] at h
  exact ⟨i, hi, h.1, h.2.1, h.2.2⟩
theorem under_bytes : Try.prog.underlying 49 = some (.slice 5) := by kernel_rfl
theorem under_u8 : Try.prog.underlying 5 = some (.int .u8) := by kernel_rfl
theorem under_str : Try.prog.underlying 9 = some .string := by kernel_rfl

/-- Bytes that lie in memory of the call's own. -/
def OB (w : World) (base : Nat) (v : Value) (xs : List Int) : Prop := w.ownsRow base 5 1 v xs.length (xs.map (Value.int .u8))
theorem OB.nil (w : World) (base : Nat) : OB w base (.slice none 0 0) [] := World.ownsRow_nil _ _ _ _
theorem OB.later {w w' : World} {base : Nat} {v : Value} {xs : List Int} (h : OB w base v xs) (hb : Below w.heap.size w w') : OB w' base v xs := by
  refine World.ownsRow.kept h (grown_of_below hb) ?_
  cases hv : v.ownBlock
  · exact .inl rfl
  · exact .inr (by simp)
theorem OB.kept {w w' : World} {base g : Nat} {v : Value} {xs : List Int} (h : OB w base v xs) (hg : w.grownBy w' (some g)) (hne : ∀ k, v.ownBlock = some k → k ≠ g) : OB w' base v xs := by
  refine World.ownsRow.kept h hg ?_
  cases hv : v.ownBlock
  · exact .inl rfl
  · rename_i k
    exact .inr fun e => hne k hv (Option.some.inj e)
theorem OB.alloc {w : World} {base : Nat} {v : Value} {xs : List Int} (h : OB w base v xs) (o : Obj) : OB (w.alloc o) base v xs := World.ownsRow.alloc h o
theorem OB.low {w : World} {base base' : Nat} {v : Value} {xs : List Int} (h : OB w base v xs) (hb : base' ≤ base) : OB w base' v xs := by
  refine ⟨h.1, ?_⟩
  rcases h.2 with h | ⟨g, cap, cur, h1, h2, h3⟩
  · exact .inl h
  · exact .inr ⟨g, cap, cur, h1, Nat.le_trans hb h2, h3⟩
theorem OB.one (w : World) (base k : Nat) (x : Int) (hk : k = w.heap.size) (hb : base ≤ k) : OB (w.alloc (.cells #[.int .u8 x] 5)) base (.slice (some ⟨k, 0, none⟩) 1 1) [x] := by
  subst hk
  exact ⟨by simp, .inr ⟨w.heap.size, 1, #[.int .u8 x], rfl, hb, heap_alloc_new w _, by simp, by unfold maxLen; simp, by simp, by simp⟩⟩
/-- What there is of it. -/
theorem OB.shape {w : World} {base : Nat} {v : Value} {xs : List Int} (h : OB w base v xs) (h0 : xs ≠ []) : ∃ g cap cur, v = .slice (some ⟨g, 0, none⟩) xs.length cap ∧ base ≤ g ∧ w.heap[g]? = some (.cells cur 5 (0, 0)) ∧ xs.length ≤ cap ∧ cur.size = cap ∧ cur.toList.take xs.length = xs.map (Value.int .u8) := by
  rcases h.2 with ⟨_, h1⟩ | ⟨g, cap, cur, h1, h2, h3, h4, _, h6, h7⟩
  · exact absurd (List.eq_nil_of_length_eq_zero h1) h0
  · exact ⟨g, cap, cur, h1, h2, h3, h4, by simpa using h6, by simpa using h7⟩
theorem OB.cell {w : World} {base g n cap : Nat} {xs : List Int} (h : OB w base (.slice (some ⟨g, 0, none⟩) n cap) xs) (i : Nat) (hi : i < xs.length) : w.cell? ⟨g, i, none⟩ = some (.int .u8 (byt xs i)) := by
  have := World.ownsRow.cells h (g := g) rfl i (.int .u8 (byt xs i)) (by simp [byt, hi])
  rw [Addr.add_lit] at this
  simpa using this
theorem OB.lt {w : World} {base : Nat} {v : Value} {xs : List Int} (h : OB w base v xs) : ∀ k, v.ownBlock = some k → base ≤ k ∧ k < w.heap.size := World.ownsRow.lt h

theorem OB.cells {w : World} {base g n cap : Nat} {xs : List Int} (h : OB w base (.slice (some ⟨g, 0, none⟩) n cap) xs) : ∀ i, i < xs.length → w.cell? ⟨g, i, none⟩ = some (.int .u8 (byt xs i)) := fun i hi => h.cell i hi

/-- append of bytes to bytes of the call's own. -/
theorem wpList_append_ob {w : World} {ops : Array Oper} {rest : List Oper} {o : Oper} {a : Act} {Q : Exit → Act → World → Prop} (hgd : o.guard = none) (s x : Operand)
    (ho : o.op = .call { callee := .builtin .append, args := #[s, x], argTypes := #[49, 49] }) (base : Nat) (v : Value) (xs : List Int) (hs : a.eval s = v) (hO : OB w base v xs)
    (g m c : Nat) (ys : List Int) (hx : a.eval x = .slice (some ⟨g, 0, none⟩) m c) (hm : ys.length = m) (hy : ∀ i, i < ys.length → w.cell? ⟨g, i, none⟩ = some (.int .u8 (byt ys i)))
    (hlen : xs.length + m ≤ 140737488355328) (hbase : base ≤ w.heap.size)
    (h : ∀ v' w', OB w' base v' (xs ++ ys) → w.grownBy w' v.ownBlock → wpList Try.prog ops Q rest (a.put o.dst v') w') : wpList Try.prog ops Q (o :: rest) a w := by
  obtain ⟨i0, hi, hz0, hz1, hz2⟩ := info_u8'
  subst hm
  refine wpList_append_own w hgd s x 49 ho base 5 i0 (.int .u8 0) 1 1 under_bytes hi hz0 hz1 hz2 rfl (by decide) v xs.length (xs.map (Value.int .u8)) hs hO ⟨g, 0, none⟩ ys.length c (ys.map (Value.int .u8)) hx (by simp) ?_ ?_ (by unfold maxLen; omega) (by omega) hbase ?_
  · intro j u hj
    have hjl : j < ys.length := by
      by_cases h : j < ys.length
      · exact h
      · rw [List.getElem?_eq_none (by simpa using h)] at hj; cases hj
    rw [Addr.add_lit, Nat.zero_add, hy j hjl]
    rw [List.getElem?_map, List.getElem?_eq_getElem hjl] at hj
    simp only [Option.map_some, Option.some.injEq] at hj
    rw [← hj]
    simp [byt, hjl]
  · intro u hu
    obtain ⟨_, _, rfl⟩ := List.mem_map.1 hu
    rfl
  · intro v' w' h1 h2 _
    refine h v' w' ?_ h2
    unfold OB
    rw [List.map_append, List.length_append]
    exact h1
/-- What a string's bytes are. -/
def bs (s : ByteArray) : List Int := s.data.toList.map fun b => (b.toNat : Int)
theorem bs_len (s : ByteArray) : (bs s).length = s.size := by unfold bs; rw [List.length_map, Array.length_toList]; rfl
theorem isB_bs (s : ByteArray) : isB (bs s) := fun x hx => by
  obtain ⟨b, _, rfl⟩ := List.mem_map.1 hx
  have := b.toNat_lt
  omega
theorem strCells_bs (s : ByteArray) : Lib.strCells s = (bs s).map (Value.int .u8) := by unfold Lib.strCells bs; rw [List.map_map]; rfl
theorem str_bs (s : ByteArray) : strOfNums (bs s) = s := by
  unfold strOfNums bs
  rw [List.map_map]
  have : (s.data.toList.map ((fun n : Int => UInt8.ofNat n.toNat) ∘ fun b : UInt8 => (b.toNat : Int))) = s.data.toList := by
    rw [List.map_congr_left (g := id) (fun b _ => by simp), List.map_id]
  rw [this]
theorem bs_str {xs : List Int} (h : isB xs) : bs (strOfNums xs) = xs := by
  unfold bs
  rw [strOfNums_data, List.map_map]
  rw [List.map_congr_left (g := id) (fun x hx => ?_), List.map_id]
  have := h x hx
  simp only [Function.comp, id]
  have e : (UInt8.ofNat x.toNat).toNat = x.toNat := by rw [UInt8.toNat_ofNat']; omega
  rw [e]
  omega
/-- append of a string to bytes of the call's own. -/
theorem wpList_append_obs {w : World} {ops : Array Oper} {rest : List Oper} {o : Oper} {a : Act} {Q : Exit → Act → World → Prop} (hgd : o.guard = none) (s x : Operand)
    (ho : o.op = .call { callee := .builtin .append, args := #[s, x], argTypes := #[49, 9] }) (base : Nat) (v : Value) (xs : List Int) (hs : a.eval s = v) (hO : OB w base v xs)
    (t : ByteArray) (hx : a.eval x = .string t) (hlen : xs.length + t.size ≤ 140737488355328) (hbase : base ≤ w.heap.size)
    (h : ∀ v' w', OB w' base v' (xs ++ bs t) → w.grownBy w' v.ownBlock → wpList Try.prog ops Q rest (a.put o.dst v') w') : wpList Try.prog ops Q (o :: rest) a w := by
  obtain ⟨i0, hi, hz0, hz1, hz2⟩ := info_u8'
  obtain ⟨v', w', hrun, r1, r2, _⟩ := Lib.run_append_own_string (P := Try.prog) w base 49 9 o.type 5 i0 under_bytes under_str hi hz0 hz1 hz2 v xs.length (xs.map (Value.int .u8)) hO t (by unfold maxLen; omega) (by omega) hbase
  refine wpList_plain hgd fun K hK => ?_
  unfold Oper.wp
  simp only [execOp, ho, resolve, invoke, builtin, Sem.run_bind, Sem.run_pure, Result.andThen_ok, List.map_toArray, List.map_cons, List.map_nil, hs, hx, hrun]
  refine hK _ _ (h v' w' ?_ r2)
  unfold OB
  rw [List.map_append, List.length_append, bs_len, ← strCells_bs]
  exact r1

theorem OB.four {w : World} {base : Nat} {v : Value} {n : Int} (h : OB w base v (le4 n)) : ∃ g cap, v = .slice (some ⟨g, 0, none⟩) 4 cap ∧ base ≤ g := by
  obtain ⟨g, cap, -, h1, h2, -⟩ := h.shape (by simp [le4])
  exact ⟨g, cap, h1, h2⟩
def sh (n : Int) : Nat → Int
  | 0 => n
  | k + 1 => sh n k / 256
def lows (n : Int) : Nat → List Int
  | 0 => []
  | k + 1 => lows n k ++ [sh n k % 256]
theorem lows_4 (n : Int) : lows n 4 = le4 n := by
  have h2 : n / 256 / 256 = n / 65536 := by omega
  have h3 : n / 65536 / 256 = n / 16777216 := by omega
  simp only [lows, sh, List.nil_append, List.cons_append, h2, h3]
  rfl
theorem lows_len (n : Int) : ∀ k, (lows n k).length = k
  | 0 => rfl
  | k + 1 => by simp [lows, lows_len n k]
theorem sh_range {n : Int} (h0 : 0 ≤ n) (h1 : n < 4294967296) : ∀ k, 0 ≤ sh n k ∧ sh n k < 4294967296
  | 0 => ⟨h0, h1⟩
  | k + 1 => by
    have := sh_range h0 h1 k
    simp only [sh]
    omega

theorem wrap_u8 (n : Int) : IntKind.u8.wrap n = n % 256 := by simp [IntKind.wrap, IntKind.bits, IntKind.signed]
theorem wrap_u32 (n : Int) : IntKind.u32.wrap n = n % 4294967296 := by simp [IntKind.wrap, IntKind.bits, IntKind.signed]

set_option maxHeartbeats 800000 in
theorem lowFirst_any (n : Int) (w : World) (h0 : 0 ≤ n) (h1 : n < 4294967296) :
    Calls Try.prog 21 #[.int .u32 n] w fun e w' => ∃ v, e = .returned v ∧ OB w' w.heap.size v (le4 n) ∧ Below w.heap.size w w' := by
  obtain ⟨i0, hi, hz0, hz1, hz2⟩ := info_u8'
  go_enter Try.func21, Try.ntmps21
  go_wp2
  go_loopw [0, 3, 4] (fun m v i wr => ∃ k : Nat, k ≤ 4 ∧ i = .int .i64 k ∧ m = .int .u32 (sh n k) ∧ OB wr w.heap.size v (lows n k) ∧ Below w.heap.size w wr) (fun _ _ i _ => 4 - (intOf i).toNat)
  case atStart => exact ⟨0, by omega, rfl, rfl, OB.nil _ _, Below.refl _ _⟩
  case round =>
    obtain ⟨k, hk, rfl, rfl, hO, hB⟩ := hrel
    have hs := sh_range h0 h1 k
    have hll := lows_len n k
    by_cases hlt : k < 4
    · have hlt' := hlt
      go_wp2_with (at_builtin; refine Hid.out ?_)
      unfold Hid
      refine wpList_append_ob rfl _ _ rfl w.heap.size _ _ rfl (hO.alloc _) wr.heap.size 1 1 [sh n k % 256] rfl rfl (fun i hi => ?_) (by omega) (by have := hB.size; simp; omega) ?_
      · obtain rfl : i = 0 := by simpa using hi
        simp [byt]
      · intro v' w' hO' hg
        have hB' := below_grown (hB.alloc hB.size _) hg (fun k e => (hO.lt k e).1)
        go_wp2
        go_roundw
        case rel => exact ⟨k + 1, hlt', by go_num, rfl, hO', hB'⟩
        case measure => simp [intOf]; omega
    · obtain rfl : k = 4 := by omega
      go_wp2
      go_ret
      exact ⟨_, rfl, by rw [← lows_4]; exact hO, hB⟩
end Go.Proofs.Ytlledongbfjkiaa
