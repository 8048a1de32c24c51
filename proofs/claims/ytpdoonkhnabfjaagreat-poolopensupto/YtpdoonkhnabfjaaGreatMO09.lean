/- What slices.Index at prefixes, and SamePrefixes of package parcelwayref, come to. -/
import Derived.Test.YtpdoonkhnabfjaaGreatMO04
import Derived.Laws.StructEq
import Derived.Test.YtpdoonkhnabfjaaGreatMO08
import Derived.Test.YtpdoonkhnabfjaaGreatMO05
namespace Go.Proofs.YtpdoonkhnabfjaaGreat
open Go.RowKit

theorem prefix_struct : Tryz.prog.underlying 26 = some (.struct (Tryz.prog.fieldsOf 26)) := by kernel_rfl
theorem prefix_held : Tryz.prog.stoodInHeld 26 = false := by kernel_rfl
theorem eq_prefix (a l c m : Int) (w : World) : (binOp .eql 26 (.agg #[.int .i64 a, .int .i64 l]) (.agg #[.int .i64 c, .int .i64 m])).run Tryz.prog w = .ok (.bool (decide (a = c) && decide (l = m))) w := by
  rw [run_eql_struct, show (10000 : Nat) = 9999 + 1 from rfl, run_equalIn_agg w 9999 _ _ _ prefix_struct prefix_held]
  simp only [Program.fieldsOf, Tryz.underlying26]
  go_simp
  by_cases h1 : a = c <;> by_cases h2 : l = m <;> simp [h1, h2]
theorem neq_prefix (a l c m : Int) (w : World) : (binOp .neq 26 (.agg #[.int .i64 a, .int .i64 l]) (.agg #[.int .i64 c, .int .i64 m])).run Tryz.prog w = .ok (.bool (!(decide (a = c) && decide (l = m)))) w := by
  rw [run_neq_struct, show (10000 : Nat) = 9999 + 1 from rfl, run_equalIn_agg w 9999 _ _ _ prefix_struct prefix_held]
  simp only [Program.fieldsOf, Tryz.underlying26]
  go_simp
  by_cases h1 : a = c <;> by_cases h2 : l = m <;> simp [h1, h2]

theorem prefix_guard : Tryz.prog.eqGuardType Tryz.prog.depth 26 = false := by kernel_rfl
theorem guard_prefix (op : BinOp) (x y : Operand) (p q : Array Value) (w : World) : (eqGuard op 26 x y (.agg p) (.agg q)).run Tryz.prog w = .ok () w := by
  have h := prefix_guard
  unfold eqGuard
  cases op <;> simp [go_sem, h]
theorem quiet_eql {ops : Array Oper} {C : World → Prop} {Q : Act → Prop} {A : Act} {o : Oper} {rest : List Oper} (x y : Operand) (t : TypeId) (a l c m : Int) (hop : o.op = .binOp .eql 26 x y t) (hg : o.guard = none)
    (hx : A.eval x = .agg #[.int .i64 a, .int .i64 l]) (hy : A.eval y = .agg #[.int .i64 c, .int .i64 m]) (h : wpQuiet Tryz.prog ops C Q rest (A.put o.dst (.bool (decide (a = c) && decide (l = m))))) : wpQuiet Tryz.prog ops C Q (o :: rest) A := by
  unfold wpQuiet
  rw [if_pos (by simp [Region.wanted, hg])]
  refine ⟨_, fun w _ => ?_, h⟩
  unfold Oper.quietAt execOp
  rw [hop]
  simp only [hx, hy, Sem.run_bind, guard_prefix, eq_prefix, Result.andThen_ok, Sem.run_pure]
  exact ⟨rfl, rfl⟩
theorem quiet_neq {ops : Array Oper} {C : World → Prop} {Q : Act → Prop} {A : Act} {o : Oper} {rest : List Oper} (x y : Operand) (t : TypeId) (a l c m : Int) (hop : o.op = .binOp .neq 26 x y t) (hg : o.guard = none)
    (hx : A.eval x = .agg #[.int .i64 a, .int .i64 l]) (hy : A.eval y = .agg #[.int .i64 c, .int .i64 m]) (h : wpQuiet Tryz.prog ops C Q rest (A.put o.dst (.bool (!(decide (a = c) && decide (l = m)))))) : wpQuiet Tryz.prog ops C Q (o :: rest) A := by
  unfold wpQuiet
  rw [if_pos (by simp [Region.wanted, hg])]
  refine ⟨_, fun w _ => ?_, h⟩
  unfold Oper.quietAt execOp
  rw [hop]
  simp only [hx, hy, Sem.run_bind, guard_prefix, neq_prefix, Result.andThen_ok, Sem.run_pure]
  exact ⟨rfl, rfl⟩

def eqAt (ps : List (Int × Int)) (a l : Int) (i : Nat) : Bool := decide (a = at0 ps i) && decide (l = at1 ps i)

theorem same_of {ps qs : List (Int × Int)} {n : Nat} (h1 : ps.length = n) (h2 : qs.length = n) (h : ∀ j, j < n → at0 ps j = at0 qs j ∧ at1 ps j = at1 qs j) : ps = qs := by
  refine List.ext_getElem (by omega) fun i hi hj => ?_
  have := h i (by omega)
  simp only [at0, at1, List.getD_eq_getElem?_getD, List.getElem?_eq_getElem hi, List.getElem?_eq_getElem hj, Option.getD_some] at this
  exact Prod.ext this.1 this.2

end Go.Proofs.YtpdoonkhnabfjaaGreat
/- What Claim and Free of package space come to. -/
namespace Go.Proofs.YtpdoonkhnabfjaaGreat
open Go.RowKit Go.Shelf

theorem box3 {V : World} {b : Nat} {t : TypeId} {p q r : Value} (h : V.heap[b]? = some (.cells #[p, q, r] t)) : V.cell? ⟨b, 0, none⟩ = some p ∧ V.cell? ⟨b, 1, none⟩ = some q ∧ V.cell? ⟨b, 2, none⟩ = some r ∧ V.frozen? ⟨b, 0, none⟩ = false ∧ V.frozen? ⟨b, 1, none⟩ = false ∧ V.frozen? ⟨b, 2, none⟩ = false := by
  simp [World.cell?, World.frozen?, h]
theorem below_set3 {w V : World} (h : Below w.heap.size w V) {b : Nat} (hb : w.heap.size ≤ b) (p q r : Value) : Below w.heap.size w (((V.setCell ⟨b, 0, none⟩ p).setCell ⟨b, 1, none⟩ q).setCell ⟨b, 2, none⟩ r) :=
  ((h.setCell (p := ⟨b, 0, none⟩) hb p).setCell (p := ⟨b, 1, none⟩) hb q).setCell (p := ⟨b, 2, none⟩) hb r

theorem PS.set3 {V : World} {x : Option Addr} {n b : Nat} {ps : List (Int × Int)} (h : PS V x n ps) (hb : ∀ q, x = some q → q.block ≠ b) (p q r : Value) : PS (((V.setCell ⟨b, 0, none⟩ p).setCell ⟨b, 1, none⟩ q).setCell ⟨b, 2, none⟩ r) x n ps where
  len := h.len
  cells := fun i hi => by
    obtain ⟨b', o, hx, c0, c1⟩ := h.cells i hi
    have hne : b' ≠ b := hb _ hx
    exact ⟨b', o, hx, by rw [cell_set_ne hne, cell_set_ne hne, cell_set_ne hne]; exact c0, by rw [cell_set_ne hne, cell_set_ne hne, cell_set_ne hne]; exact c1⟩

/-- The boxes of a call with a space and a prefix, and of its answer. -/
structure SB (w w1 : World) (a l c m : Int) (x : Option Addr) (n k : Nat) : Prop where
  s : w1.heap[w.heap.size]? = some (.cells #[.int .i64 a, .int .i64 l, .slice x n k] 71)
  p : w1.heap[w.heap.size + 1]? = some (.cells #[.int .i64 c, .int .i64 m] 26)
  r : w1.heap[w.heap.size + 1 + 1]? = some (.cells #[.int .i64 0, .int .i64 0, .slice none 0 0] 71)
  b : Below w.heap.size w w1
theorem SB.start (w : World) (a l c m : Int) (x : Option Addr) (n k : Nat) : SB w (((w.alloc (.cells #[.int .i64 a, .int .i64 l, .slice x n k] 71)).alloc (.cells #[.int .i64 c, .int .i64 m] 26)).alloc (.cells #[.int .i64 0, .int .i64 0, .slice none 0 0] 71)) a l c m x n k :=
  ⟨heap_old _ (heap_old _ (heap_new _ rfl)), heap_old _ (heap_new _ (by simp)), heap_new _ (by simp), (bl2 w _ _).alloc (by simp; omega) _⟩
theorem SB.later {w w1 w2 : World} {a l c m : Int} {x : Option Addr} {n k : Nat} (h : SB w w1 a l c m x n k) (hb : Below w1.heap.size w1 w2) : SB w w2 a l c m x n k :=
  ⟨(hb.block _ (Array.getElem?_eq_some_iff.1 h.s).1).trans h.s, (hb.block _ (Array.getElem?_eq_some_iff.1 h.p).1).trans h.p, (hb.block _ (Array.getElem?_eq_some_iff.1 h.r).1).trans h.r, h.b.trans (hb.mono h.b.size)⟩

theorem meetsU_is (a l : Int) (x : Option Addr) (n c : Nat) (ps : List (Int × Int)) (t : Bool) (h : mtsAny a l ps = t) (w : World) (hp : PS w x n ps) (hn : n ≤ 64) :
    Calls Tryz.prog 107 #[.agg #[.int .i64 a, .int .i64 l], .slice x n c] w fun e w' => e = .returned (.bool t) ∧ Below w.heap.size w w' := by
  subst h
  exact meetsU_any a l x n c ps w hp hn

def claimE (a l : Int) (n : Nat) (ps : List (Int × Int)) (c m : Int) : Int :=
  if chkS a l n ps = 0 then (if ins c m a l = false then 3 else if mtsAny c m ps = true then 6 else if n = 32 then 2 else 0) else chkS a l n ps

/-- The prefix stands ahead of the first one that begins behind it. -/
structure PutAt (ps : List (Int × Int)) (c m : Int) (qs : List (Int × Int)) : Prop where
  ex : ∃ i, i ≤ ps.length ∧ (∀ j, j < i → ¬ c < at0 ps j) ∧ (i < ps.length → c < at0 ps i) ∧ qs = ps.take i ++ [(c, m)] ++ ps.drop i

def ClaimPost (a l : Int) (n : Nat) (ps : List (Int × Int)) (c m : Int) (w : World) (e : Ending) (w' : World) : Prop :=
  Below w.heap.size w w' ∧ ((claimE a l n ps c m ≠ 0 ∧ e = .returned (.tuple #[.agg #[.int .i64 0, .int .i64 0, .slice none 0 0], .int .i64 (claimE a l n ps c m)])) ∨
    (claimE a l n ps c m = 0 ∧ ∃ x' c' qs, e = .returned (.tuple #[.agg #[.int .i64 a, .int .i64 l, .slice x' (n + 1) c'], .int .i64 0]) ∧ PutAt ps c m qs ∧ PS w' x' (n + 1) qs ∧ n + 1 ≤ c' ∧ c' ≤ 9223372036854775807 ∧ ∃ b o, x' = some ⟨b, o, none⟩))

def FreePost (a l : Int) (n : Nat) (ps : List (Int × Int)) (c m : Int) (w : World) (e : Ending) (w' : World) : Prop :=
  Below w.heap.size w w' ∧ ((chkS a l n ps ≠ 0 ∧ e = .returned (.tuple #[.agg #[.int .i64 0, .int .i64 0, .slice none 0 0], .int .i64 (chkS a l n ps)])) ∨
    (chkS a l n ps = 0 ∧ (∀ j, j < n → eqAt ps c m j = false) ∧ e = .returned (.tuple #[.agg #[.int .i64 0, .int .i64 0, .slice none 0 0], .int .i64 5])) ∨
    (chkS a l n ps = 0 ∧ ∃ i, i < n ∧ eqAt ps c m i = true ∧ (∀ j, j < i → eqAt ps c m j = false) ∧ ∃ x' c', e = .returned (.tuple #[.agg #[.int .i64 a, .int .i64 l, .slice x' (n - 1) c'], .int .i64 0]) ∧ PS w' x' (n - 1) (ps.take i ++ ps.drop (i + 1))))

end Go.Proofs.YtpdoonkhnabfjaaGreat
/- What must be in any case of spaces: spaceBegun answers true. -/
namespace Go.Proofs.YtpdoonkhnabfjaaGreat
open Go.RowKit Go.Shelf
theorem begun_chk : chkS 256 8 1 [(320, 10)] = 0 := by decide +kernel
theorem begun_fit : fitS 256 8 1 [(320, 10)] 9 = some 384 := by decide +kernel
theorem begun_fitE : fitE 256 8 1 [(320, 10)] 9 = 0 := by decide +kernel
theorem begun_hol : holS 256 8 1 [(320, 10)] = [(256, 10), (384, 9)] := by decide +kernel
theorem begun_claim : claimE 256 8 1 [(320, 10)] 256 16 = 0 := by decide +kernel
theorem begun_chk2 : chkS 256 8 2 [(256, 16), (320, 10)] = 0 := by decide +kernel
theorem begun_put {qs : List (Int × Int)} (h : PutAt [(320, 10)] 256 16 qs) : qs = [(256, 16), (320, 10)] := by
  obtain ⟨i, hi, h1, h2, rfl⟩ := h.ex
  rcases i with _ | _ | i
  · rfl
  · exact absurd (h1 0 (by omega)) (by decide)
  · simp at hi
theorem begun_eq : (∀ j, j < 2 → eqAt [(256, 16), (320, 10)] 320 10 j = false) → False := fun h => by
  have := h 1 (by omega)
  revert this
  decide

end Go.Proofs.YtpdoonkhnabfjaaGreat
/- More on used prefixes: one more, put where it belongs, and taken away again; SameSpaces. -/
namespace Go.Proofs.YtpdoonkhnabfjaaGreat
open Go.RowKit Go.Shelf

theorem apart_of {ps : List (Int × Int)} {a l : Int} (h : Used ps a l) : apartB a l ps = true := by
  refine apart_yes fun j hj => ?_
  have h1 := h.inn ps[j] (List.getElem_mem hj)
  unfold okAt
  rw [at0_get hj, at1_get hj, h1, Bool.true_and]
  cases j with
  | zero => rfl
  | succ j =>
    have hr := List.pairwise_iff_getElem.1 h.rise j (j + 1) (by omega) hj (by omega)
    have hp := sp_pos ps[j].2
    rw [Nat.add_sub_cancel, at0_get (by omega), at1_get (by omega)]
    simp only [Bool.or_eq_true, Bool.and_eq_true, decide_eq_true_eq, Bool.not_eq_true']
    right
    refine ⟨by omega, not_true fun hm => ?_⟩
    have := mts_nums hm
    omega

theorem put_used {ps qs : List (Int × Int)} {a l c m : Int} (h : Used ps a l) (hi : ins c m a l = true) (hf : mtsAny c m ps = false) (hp : PutAt ps c m qs) : Used qs a l := by
  obtain ⟨i, hin, hlow, hup, rfl⟩ := hp.ex
  have rc := (ins_nums hi).1
  have pm := sp_pos m
  have hno : ∀ u ∈ ps, mts c m u.1 u.2 = false := fun u hu => not_true fun h1 => by
    have := mtsAny_iff.2 ⟨u, hu, h1⟩
    rw [this] at hf; cases hf
  have hA : ∀ u ∈ ps.take i, u.1 + sp u.2 ≤ c := fun u hu => by
    obtain ⟨j, hj, rfl⟩ := List.getElem_of_mem hu
    rw [List.length_take] at hj
    have hj' : j < ps.length := by omega
    rw [List.getElem_take]
    have h1 := hlow j (by omega)
    rw [at0_get hj'] at h1
    have h2 := hno ps[j] (List.getElem_mem hj')
    have ru := (ins_nums (h.inn ps[j] (List.getElem_mem hj'))).1
    by_cases h3 : ps[j].1 + sp ps[j].2 ≤ c
    · exact h3
    · have := mts_of rc ru (by omega) (by omega)
      rw [this] at h2; cases h2
  have hB : ∀ u ∈ ps.drop i, c + sp m ≤ u.1 := fun u hu => by
    obtain ⟨j, hj, rfl⟩ := List.getElem_of_mem hu
    rw [List.length_drop] at hj
    have hj' : i + j < ps.length := by omega
    have hi' : i < ps.length := by omega
    rw [List.getElem_drop]
    have h1 := hup hi'
    rw [at0_get hi'] at h1
    have h4 : ps[i].1 ≤ ps[i + j].1 := by
      rcases Nat.eq_zero_or_pos j with h0 | h0
      · subst h0; exact Int.le_refl _
      · have := List.pairwise_iff_getElem.1 h.rise i (i + j) hi' hj' (by omega)
        have := sp_pos ps[i].2
        omega
    have h2 := hno ps[i + j] (List.getElem_mem hj')
    have ru := (ins_nums (h.inn ps[i + j] (List.getElem_mem hj'))).1
    by_cases h3 : c + sp m ≤ ps[i + j].1
    · exact h3
    · have := mts_of rc ru (by have := sp_pos ps[i + j].2; omega) (by omega)
      rw [this] at h2; cases h2
  refine ⟨fun u hu => ?_, ?_⟩
  · simp only [List.mem_append, List.mem_singleton] at hu
    rcases hu with (hu | rfl) | hu
    · exact h.inn u (List.mem_of_mem_take hu)
    · exact hi
    · exact h.inn u (List.mem_of_mem_drop hu)
  · rw [List.append_assoc, List.pairwise_append]
    refine ⟨h.rise.sublist (List.take_sublist i ps), ?_, fun u hu v hv => ?_⟩
    · rw [List.singleton_append, List.pairwise_cons]
      exact ⟨fun v hv => hB v hv, h.rise.sublist (List.drop_sublist i ps)⟩
    · simp only [List.singleton_append, List.mem_cons] at hv
      rcases hv with rfl | hv
      · exact hA u hu
      · have := hA u hu
        have := hB v hv
        omega

/-- What was put is found where it was put, and without it the list is as it was. -/
theorem put_back {ps qs : List (Int × Int)} {c m : Int} (hc : rt c m = true) (hf : mtsAny c m ps = false) (hp : PutAt ps c m qs) :
    ((∀ j, j < qs.length → eqAt qs c m j = false) → False) ∧ ∀ i, i < qs.length → eqAt qs c m i = true → qs.take i ++ qs.drop (i + 1) = ps := by
  obtain ⟨k, hk, -, -, rfl⟩ := hp.ex
  have hno : ∀ u ∈ ps, u ≠ (c, m) := fun u hu e => by
    subst e
    have := mtsAny_iff.2 ⟨_, hu, ins_mts (ins_self hc)⟩
    rw [this] at hf; cases hf
  have hl : (ps.take k ++ [(c, m)] ++ ps.drop k).length = ps.length + 1 := by simp; omega
  have hget : ∀ i (h : i < (ps.take k ++ [(c, m)] ++ ps.drop k).length), eqAt (ps.take k ++ [(c, m)] ++ ps.drop k) c m i = decide ((ps.take k ++ [(c, m)] ++ ps.drop k)[i] = (c, m)) := fun i h => by
    unfold eqAt
    rw [at0_get h, at1_get h, Bool.eq_iff_iff]
    simp only [Bool.and_eq_true, decide_eq_true_eq]
    constructor
    · rintro ⟨h1, h2⟩; exact Prod.ext h1.symm h2.symm
    · intro e; rw [e]; exact ⟨rfl, rfl⟩
  have hat : (ps.take k ++ [(c, m)] ++ ps.drop k)[k]'(by rw [hl]; omega) = (c, m) := by
    rw [List.getElem_append_left (by simp; omega), List.getElem_append_right (by simp; omega)]
    simp
  refine ⟨fun h => ?_, fun i hi he => ?_⟩
  · have := h k (by rw [hl]; omega)
    rw [hget k (by rw [hl]; omega), hat] at this
    simp at this
  · rw [hget i hi] at he
    have he' := of_decide_eq_true he
    have hik : i = k := by
      rcases Nat.lt_trichotomy i k with h | h | h
      · exfalso
        rw [List.getElem_append_left (by simp; omega), List.getElem_append_left (by simp; omega), List.getElem_take] at he'
        exact hno _ (List.getElem_mem _) he'
      · exact h
      · exfalso
        rw [List.getElem_append_right (by simp; omega), List.getElem_drop] at he'
        exact hno _ (List.getElem_mem _) he'
    subst hik
    have ht : (ps.take i).length = i := by rw [List.length_take]; omega
    rw [List.append_assoc, List.take_append_of_le_length (by omega), List.take_of_length_le (by omega)]
    rw [List.drop_append, ht, List.drop_eq_nil_of_le (by omega)]
    rw [show i + 1 - i = 1 by omega]
    simp

end Go.Proofs.YtpdoonkhnabfjaaGreat
/- What CheckSpace of package parcelwayref comes to. -/
namespace Go.Proofs.YtpdoonkhnabfjaaGreat
open Go.RowKit

theorem insideOf_is (a l c m : Int) (t : Bool) (h : ins a l c m = t) (w : World) :
    Calls Tryz.prog 77 #[.agg #[.int .i64 a, .int .i64 l], .agg #[.int .i64 c, .int .i64 m]] w fun e w' => e = .returned (.bool t) ∧ Below w.heap.size w w' := by
  subst h
  exact insideOf_any a l c m w
theorem meet_is (a l c m : Int) (t : Bool) (h : mts a l c m = t) (w : World) :
    Calls Tryz.prog 28 #[.agg #[.int .i64 a, .int .i64 l], .agg #[.int .i64 c, .int .i64 m]] w fun e w' => e = .returned (.bool t) ∧ Below w.heap.size w w' := by
  subst h
  exact meet_any a l c m w
theorem right_is (a l : Int) (t : Bool) (h : rt a l = t) (w : World) :
    Calls Tryz.prog 26 #[.agg #[.int .i64 a, .int .i64 l]] w fun e w' => e = .returned (.bool t) ∧ Below w.heap.size w w' := by
  subst h
  exact right_any a l w

set_option maxRecDepth 20000 in
set_option maxHeartbeats 800000 in
theorem checkR_many (a l : Int) (x : Option Addr) (n c : Nat) (w : World) (hn : 32 < n) :
    Calls Tryz.prog 40 #[.agg #[.int .i64 a, .int .i64 l, .slice x n c]] w fun e w' => e = .returned (.int .i64 2) ∧ Below w.heap.size w w' := by
  have hi : (32 : Int) < (n : Int) := by omega
  go_enter Tryz.func40, Tryz.ntmps40
  go_wp2
  go_ret
  exact ⟨rfl, bl1 _ _⟩

set_option maxRecDepth 20000 in
set_option maxHeartbeats 800000 in
theorem checkR_bad (a l : Int) (x : Option Addr) (n c : Nat) (w : World) (hn : n ≤ 32) (hr : rt a l = false) :
    Calls Tryz.prog 40 #[.agg #[.int .i64 a, .int .i64 l, .slice x n c]] w fun e w' => e = .returned (.int .i64 1) ∧ Below w.heap.size w w' := by
  have hi : ¬ (32 : Int) < (n : Int) := by omega
  go_enter Tryz.func40, Tryz.ntmps40
  go_wp2_with (go_at_call 26; refine (right_is a l _ hr _).mono ?_; rintro e w1 ⟨rfl, hb1⟩)
  go_ret
  exact ⟨rfl, (bl1 w _).trans (hb1.mono (by simp))⟩

set_option maxRecDepth 20000 in
set_option maxHeartbeats 1600000 in
theorem checkR_few (a l : Int) (x : Option Addr) (n c : Nat) (ps : List (Int × Int)) (w : World) (hp : PS w x n ps) (hn : n ≤ 32) (hr : rt a l = true) :
    Calls Tryz.prog 40 #[.agg #[.int .i64 a, .int .i64 l, .slice x n c]] w fun e w' => e = .returned (.int .i64 (if apartB a l ps then 0 else 1)) ∧ Below w.heap.size w w' := by
  have hi : ¬ (32 : Int) < (n : Int) := by omega
  generalize hR : (if apartB a l ps then (0 : Int) else 1) = R
  have HR : Hid ((if apartB a l ps then (0 : Int) else 1) = R) := hR
  clear hR
  go_enter Tryz.func40, Tryz.ntmps40
  go_wp2_with fail
  refine (right_is a l _ hr _).mono ?_
  rintro e w1 ⟨rfl, hb1⟩
  have hW : Below (w.heap.size + 1) (w.alloc (.cells #[.int .i64 a, .int .i64 l, .slice x n c] 71)) w1 := hb1.mono (by simp)
  clear hb1
  go_wp2
  go_loopw [3] (fun i wr => ∃ k : Nat, k ≤ n ∧ i = .int .i64 k ∧ Below (w.heap.size + 1) (w.alloc (.cells #[.int .i64 a, .int .i64 l, .slice x n c] 71)) wr ∧ (∀ j, j < k → okAt a l ps j = true)) (fun i _ => n - (intOf i).toNat)
  case atStart => exact ⟨0, by omega, rfl, hW, fun j hj => by omega⟩
  case round =>
    obtain ⟨k, hk, rfl, hB, hok⟩ := hrel
    have hpl := hp.len
    have e0 : wr.cell? ⟨w.heap.size, 0, none⟩ = some (.int .i64 a) := (hB.cell (p := ⟨w.heap.size, 0, none⟩) (by show w.heap.size < _; omega)).trans (by simp)
    have e1 : wr.cell? ⟨w.heap.size, 1, none⟩ = some (.int .i64 l) := (hB.cell (p := ⟨w.heap.size, 1, none⟩) (by show w.heap.size < _; omega)).trans (by simp)
    have e2 : wr.cell? ⟨w.heap.size, 2, none⟩ = some (.slice x n c) := (hB.cell (p := ⟨w.heap.size, 2, none⟩) (by show w.heap.size < _; omega)).trans (by simp)
    by_cases hlt : k < n
    · have hp2 := (hp.later (bl1 w (.cells #[.int .i64 a, .int .i64 l, .slice x n c] 71)))
      obtain ⟨b, o, rfl, c0, c1⟩ := hp2.cells k hlt
      have hbl := block_lt_of_cell c0
      simp only [World.size_alloc] at hbl
      have d0 : wr.cell? ⟨b, o + k * 2, none⟩ = some (.int .i64 (at0 ps k)) := (hB.cell (p := ⟨b, o + k * 2, none⟩) hbl).trans c0
      have d1 : wr.cell? ⟨b, o + k * 2 + 1, none⟩ = some (.int .i64 (at1 ps k)) := (hB.cell (p := ⟨b, o + k * 2 + 1, none⟩) hbl).trans c1
      have hz := hB.size
      simp only [World.size_alloc] at hz
      have g0 := Ws.here e0
      have g1 := Ws.here e1
      have g2 := Ws.here e2
      have g3 := Ws.here d0
      have g4 := Ws.here d1
      go_upto_region 8 with fail
      clear e0 e1 e2 d0 d1 c0 c1
      cases hI : ins (at0 ps k) (at1 ps k) a l
      · refine wp_region_ws wr.heap.size (by kernel_rfl) (by kernel_rfl) ?_
        repeat (go_big_quiet_step ((go_at_call 77; exact Calls.in_ws (Nat.le_refl _) (insideOf_is _ _ _ _ _ hI _))))
        refine wpQuiet_nil ?_
        rintro _ ⟨u, rfl⟩
        have hu := hB.trans (u.property.mono hz)
        generalize u.val = wu at hu ⊢
        clear u
        go_wp2
        go_ret
        exact ⟨ret_int (by rw [← HR.out, apart_no (by omega) (ok_no1 hI)]; rfl), (bl1 w _).trans (hu.mono (by omega))⟩
      · cases k with
        | zero =>
          simp only [Nat.zero_mul, Nat.add_zero] at g3 g4
          refine wp_region_ws wr.heap.size (by kernel_rfl) (by kernel_rfl) ?_
          repeat (go_big_quiet_step ((go_at_call 77; exact Calls.in_ws (Nat.le_refl _) (insideOf_is _ _ _ _ _ hI _))))
          refine wpQuiet_nil ?_
          rintro _ ⟨u, rfl⟩
          have hu := hB.trans (u.property.mono hz)
          generalize u.val = wu at hu ⊢
          clear u
          go_wp2
          go_roundw
          case rel => exact ⟨1, hlt, by go_num, hu, fun j hj => by
            obtain rfl : j = 0 := Nat.lt_one_iff.1 hj
            exact ok_0 hI⟩
          case measure => simp [intOf]; omega
        | succ k' =>
          obtain ⟨b2, o2, hbo, c2, c3⟩ := hp2.cells k' (by omega)
          simp only [Option.some.injEq, Addr.mk.injEq, and_true] at hbo
          obtain ⟨rfl, rfl⟩ := hbo
          have t0 : wr.cell? ⟨b, o + k' * 2, none⟩ = some (.int .i64 (at0 ps k')) := (hB.cell (p := ⟨b, o + k' * 2, none⟩) hbl).trans c2
          have t1 : wr.cell? ⟨b, o + k' * 2 + 1, none⟩ = some (.int .i64 (at1 ps k')) := (hB.cell (p := ⟨b, o + k' * 2 + 1, none⟩) hbl).trans c3
          have g5 := Ws.here t0
          have g6 := Ws.here t1
          clear c2 c3 t0 t1
          refine wp_region_ws wr.heap.size (by kernel_rfl) (by kernel_rfl) ?_
          by_cases hle : at0 ps (k' + 1) ≤ at0 ps k'
          · repeat (go_big_quiet_step ((go_at_call 77; exact Calls.in_ws (Nat.le_refl _) (insideOf_is _ _ _ _ _ hI _))))
            refine wpQuiet_nil ?_
            rintro _ ⟨u, rfl⟩
            have hu := hB.trans (u.property.mono hz)
            generalize u.val = wu at hu ⊢
            clear u
            go_wp2
            go_ret
            exact ⟨ret_int (by rw [← HR.out, apart_no (by omega) (ok_no2 hle)]; rfl), (bl1 w _).trans (hu.mono (by omega))⟩
          · have hd : decide (at0 ps (k' + 1) ≤ at0 ps k') = false := by simpa using hle
            cases hM : mts (at0 ps k') (at1 ps k') (at0 ps (k' + 1)) (at1 ps (k' + 1))
            all_goals repeat (go_big_quiet_step (first | (go_at_call 77; exact Calls.in_ws (Nat.le_refl _) (insideOf_is _ _ _ _ _ hI _)) | (go_at_call 28; exact Calls.in_ws (Nat.le_refl _) (meet_is _ _ _ _ _ hM _))))
            all_goals refine wpQuiet_nil ?_
            all_goals rintro _ ⟨u, rfl⟩
            all_goals have hu := hB.trans (u.property.mono hz)
            all_goals generalize u.val = wu at hu ⊢
            all_goals clear u
            all_goals go_wp2
            · go_roundw
              case rel => exact ⟨k' + 1 + 1, hlt, by go_num, hu, fun j hj => by
                by_cases hj2 : j < k' + 1
                · exact hok j hj2
                · obtain rfl : j = k' + 1 := by omega
                  exact ok_s hI hle hM⟩
              case measure => simp [intOf]; omega
            · go_ret
              exact ⟨ret_int (by rw [← HR.out, apart_no (by omega) (ok_no3 hM)]; rfl), (bl1 w _).trans (hu.mono (by omega))⟩
    · go_wp2
      go_ret
      exact ⟨ret_int (by rw [← HR.out, apart_yes (fun j hj => hok j (by omega))]; rfl), (bl1 w _).trans (hB.mono (by omega))⟩

theorem checkR_any (a l : Int) (x : Option Addr) (n c : Nat) (ps : List (Int × Int)) (w : World) (hp : n ≤ 32 → PS w x n ps) :
    Calls Tryz.prog 40 #[.agg #[.int .i64 a, .int .i64 l, .slice x n c]] w fun e w' => e = .returned (.int .i64 (chkS a l n ps)) ∧ Below w.heap.size w w' := by
  unfold chkS
  by_cases h : 32 < n
  · rw [if_pos h]
    exact checkR_many a l x n c w h
  · rw [if_neg h]
    cases hr : rt a l
    · exact checkR_bad a l x n c w (by omega) hr
    · exact checkR_few a l x n c ps w (hp (by omega)) (by omega) hr
end Go.Proofs.YtpdoonkhnabfjaaGreat
/- What the document's own answers on spaces come to: meetsUsed, ClaimOf, FreeOf. -/
namespace Go.Proofs.YtpdoonkhnabfjaaGreat
open Go.RowKit Go.Shelf

theorem mtsAny_no {a l : Int} {ps : List (Int × Int)} (h : ∀ j, j < ps.length → mts (at0 ps j) (at1 ps j) a l = false) : mtsAny a l ps = false :=
  any_no fun j hj => by rw [mts_comm]; exact h j hj
theorem mtsAny_yes {a l : Int} {ps : List (Int × Int)} {j : Nat} (hj : j < ps.length) (h : mts (at0 ps j) (at1 ps j) a l = true) : mtsAny a l ps = true :=
  any_yes hj (by rw [mts_comm]; exact h)

set_option maxRecDepth 20000 in
set_option maxHeartbeats 800000 in
theorem meetsUsed_any (a l c m : Int) (x : Option Addr) (n k : Nat) (ps : List (Int × Int)) (w : World) (hp : PS w x n ps) (hn : n ≤ 64) :
    Calls Tryz.prog 90 #[.agg #[.int .i64 a, .int .i64 l, .slice x n k], .agg #[.int .i64 c, .int .i64 m]] w fun e w' => e = .returned (.bool (mtsAny c m ps)) ∧ Below w.heap.size w w' := by
  go_enter Tryz.func90, Tryz.ntmps90
  go_wp2
  go_loopw [5] (fun i wr => ∃ q : Nat, q ≤ n ∧ i = .int .i64 q ∧ Below (w.heap.size + 1 + 1) ((w.alloc (.cells #[.int .i64 a, .int .i64 l, .slice x n k] 71)).alloc (.cells #[.int .i64 c, .int .i64 m] 26)) wr ∧ (∀ j, j < q → mts (at0 ps j) (at1 ps j) c m = false)) (fun i _ => n - (intOf i).toNat)
  case atStart => exact ⟨0, by omega, rfl, Below.refl _ _, fun j hj => by omega⟩
  case round =>
    obtain ⟨q, hq, rfl, hB0, hno⟩ := hrel
    have hpl := hp.len
    have hB : Below ((w.alloc (.cells #[.int .i64 a, .int .i64 l, .slice x n k] 71)).alloc (.cells #[.int .i64 c, .int .i64 m] 26)).heap.size ((w.alloc (.cells #[.int .i64 a, .int .i64 l, .slice x n k] 71)).alloc (.cells #[.int .i64 c, .int .i64 m] 26)) wr := by simpa using hB0
    have s1 : wr.heap[w.heap.size]? = some (.cells #[.int .i64 a, .int .i64 l, .slice x n k] 71) := (hB.block _ (by simp; omega)).trans (heap_old _ (heap_new _ rfl))
    have s2 : wr.heap[w.heap.size + 1]? = some (.cells #[.int .i64 c, .int .i64 m] 26) := (hB.block _ (by simp)).trans (heap_new _ (by simp))
    have hW : Below w.heap.size w wr := (bl2 w _ _).trans (hB.mono (by simp; omega))
    have hz := hB0.size
    simp only [World.size_alloc] at hz
    obtain ⟨e0, e1, e2, -⟩ := box3 s1
    obtain ⟨p0, p1, -⟩ := box2 s2
    by_cases hlt : q < n
    · obtain ⟨b, o, rfl, c0, c1⟩ := (hp.later hW).cells q hlt
      have g0 := Ws.here c0
      have g1 := Ws.here c1
      have g2 := Ws.here e2
      have g3 := Ws.here p0
      have g4 := Ws.here p1
      have hlt' := hlt
      go_upto_region 4 with fail
      clear c0 c1 e0 e1 e2 p0 p1
      refine wp_region_ws wr.heap.size (by kernel_rfl) (by kernel_rfl) ?_
      cases hM : mts (at0 ps q) (at1 ps q) c m
      all_goals repeat (go_big_quiet_step ((go_at_call 28; exact Calls.in_ws (Nat.le_refl _) (meet_is _ _ _ _ _ hM _))))
      all_goals refine wpQuiet_nil ?_
      all_goals rintro _ ⟨u, rfl⟩
      all_goals have hu0 : Below wr.heap.size wr u.val := u.property
      all_goals have hu := hB0.trans (hu0.mono (by omega))
      all_goals generalize u.val = wu at hu hu0 ⊢
      all_goals clear u g0 g1 g2 g3 g4
      all_goals go_wp2
      · go_roundw
        case rel => exact ⟨q + 1, hlt', by go_num, hu, fun j hj => by
          by_cases hj2 : j < q
          · exact hno j hj2
          · obtain rfl : j = q := by omega
            exact hM⟩
        case measure => simp [intOf]; omega
      · go_ret
        exact ⟨ret_bool (mtsAny_yes (j := q) (by omega) hM).symm, hW.trans (hu0.mono hW.size)⟩
    · go_wp2
      go_ret
      exact ⟨ret_bool (mtsAny_no (fun j hj => hno j (by omega))).symm, hW⟩
theorem meetsUsed_is (a l c m : Int) (x : Option Addr) (n k : Nat) (ps : List (Int × Int)) (t : Bool) (h : mtsAny c m ps = t) (w : World) (hp : PS w x n ps) (hn : n ≤ 64) :
    Calls Tryz.prog 90 #[.agg #[.int .i64 a, .int .i64 l, .slice x n k], .agg #[.int .i64 c, .int .i64 m]] w fun e w' => e = .returned (.bool t) ∧ Below w.heap.size w w' := by
  subst h
  exact meetsUsed_any a l c m x n k ps w hp hn
end Go.Proofs.YtpdoonkhnabfjaaGreat
