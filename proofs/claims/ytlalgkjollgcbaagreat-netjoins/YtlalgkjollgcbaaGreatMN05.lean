/- What slices.IndexFunc and ContainsFunc at prefixes, and meets of package space, come to. -/
import Derived.Test.YtlalgkjollgcbaaGreatMN04
import Derived.Laws.EntriesVeiled
namespace Go.Proofs.YtlalgkjollgcbaaGreat
open Go.RowKit

/-- What the function value g (with what it has captured) answers at the i-th prefix, in every world that comes. -/
def FnAt (g : Nat) (cap : Array Value) (n : Nat) (ps : List (Int × Int)) (f : Nat → Bool) (w : World) : Prop :=
  ∀ i, i < n → ∀ W, Below w.heap.size w W → Calls Tryz.prog g (#[.agg #[.int .i64 (at0 ps i), .int .i64 (at1 ps i)]] ++ cap) W fun e W' => e = .returned (.bool (f i)) ∧ Below W.heap.size W W'

end Go.Proofs.YtlalgkjollgcbaaGreat
/- What slices.ContainsFunc at prefixes, and meets of package space, come to. -/
namespace Go.Proofs.YtlalgkjollgcbaaGreat
open Go.RowKit

def anyAt (n : Nat) (f : Nat → Bool) : Bool := (List.range n).any f

theorem any_no {n : Nat} {f : Nat → Bool} (h : ∀ j, j < n → f j = false) : anyAt n f = false := by
  unfold anyAt
  rw [List.any_eq_false]
  intro j hj
  simp [h j (by simpa using hj)]
theorem any_yes {n : Nat} {f : Nat → Bool} {k : Nat} (hk : k < n) (h : f k = true) : anyAt n f = true := by
  unfold anyAt
  rw [List.any_eq_true]
  exact ⟨k, by simpa using hk, h⟩

/-- Whether the prefix (a, l) meets one of these. -/
def mtsAny (a l : Int) (ps : List (Int × Int)) : Bool := anyAt ps.length fun i => mts a l (at0 ps i) (at1 ps i)
/-- Whether the prefix (a, l) is inside of one of these. -/
def insAny (a l : Int) (ps : List (Int × Int)) : Bool := anyAt ps.length fun i => ins a l (at0 ps i) (at1 ps i)

end Go.Proofs.YtlalgkjollgcbaaGreat
/- slices.IndexFunc and ContainsFunc over subnets, faces, ranges and numbers. -/
namespace Go.Proofs.YtlalgkjollgcbaaGreat
open Go.RowKit

/-- What the function value g (with what it has captured) answers at the i-th prefix, in every world that comes. -/
def FnSbAt (g : Nat) (cap : Array Value) (n : Nat) (ps : List Sb) (f : Nat → Bool) (w : World) : Prop :=
  ∀ i, i < n → ∀ W, Below w.heap.size w W → Calls Tryz.prog g (#[.agg #[.int .i64 (sbAt ps i).id, .int .i64 (sbAt ps i).a, .int .i64 (sbAt ps i).l, .slice (sbAt ps i).x (sbAt ps i).n (sbAt ps i).c]] ++ cap) W fun e W' => e = .returned (.bool (f i)) ∧ Below W.heap.size W W'

set_option maxRecDepth 20000 in
set_option maxHeartbeats 800000 in
theorem indexFuncSb_any (g : Nat) (cap : Array Value) (x : Option Addr) (n c : Nat) (ps : List Sb) (f : Nat → Bool) (w : World) (hp : SS w x n ps) (hn : n ≤ 1048576) (hF : FnSbAt g cap n ps f w)
    (hg : ∀ args W, (callFunc g args).run Tryz.prog W = .ok (.enter g args) W) :
    Calls Tryz.prog 116 #[.slice x n c, .func (.func g) #[] cap] w fun e w' => (∃ r : Int, e = .returned (.int .i64 r) ∧ ((∃ i : Nat, i < n ∧ f i = true ∧ (∀ j, j < i → f j = false) ∧ r = i) ∨ ((∀ j, j < n → f j = false) ∧ r = -1))) ∧ Below w.heap.size w w' := by
  have HF : Hid (FnSbAt g cap n ps f w) := hF
  clear hF
  go_enter Tryz.func116, Tryz.ntmps116
  go_wp2
  go_loopw [8] (fun i wr => ∃ k : Nat, k ≤ n ∧ i = .int .i64 k ∧ Below w.heap.size w wr ∧ (∀ j, j < k → f j = false)) (fun i _ => n - (intOf i).toNat)
  case atStart => exact ⟨0, by omega, rfl, Below.refl _ _, fun j hj => by omega⟩
  case round =>
    obtain ⟨k, hk, rfl, hB, hno⟩ := hrel
    by_cases hlt : k < n
    · obtain ⟨b, o, rfl, c0, c1, c2, c3⟩ := hp.cells k hlt
      have d0 := cell_later hB c0
      have d1 := cell_later hB c1
      have d2 := cell_later hB c2
      have d3 := cell_later hB c3
      go_wp2_with fail
      refine (HF.out k hlt _ hB).mono ?_
      rintro e w1 ⟨rfl, hb1⟩
      have hC := hB.trans (hb1.mono hB.size)
      cases hf : f k
      · go_wp2
        go_roundw
        case rel => exact ⟨k + 1, hlt, by go_num, hC, fun j hj => by
          by_cases hj2 : j < k
          · exact hno j hj2
          · obtain rfl : j = k := by omega
            exact hf⟩
        case measure => simp [intOf]; omega
      · go_wp2
        go_ret
        exact ⟨⟨_, rfl, .inl ⟨k, hlt, hf, hno, rfl⟩⟩, hC⟩
    · go_wp2
      go_ret
      exact ⟨⟨_, rfl, .inr ⟨fun j hj => hno j (by omega), rfl⟩⟩, hB⟩
set_option maxRecDepth 20000 in
set_option maxHeartbeats 800000 in
theorem containsFuncSb_any (g : Nat) (cap : Array Value) (x : Option Addr) (n c : Nat) (ps : List Sb) (f : Nat → Bool) (w : World) (hp : SS w x n ps) (hn : n ≤ 1048576) (hF : FnSbAt g cap n ps f w)
    (hg : ∀ args W, (callFunc g args).run Tryz.prog W = .ok (.enter g args) W) :
    Calls Tryz.prog 103 #[.slice x n c, .func (.func g) #[] cap] w fun e w' => e = .returned (.bool (anyAt n f)) ∧ Below w.heap.size w w' := by
  have H := indexFuncSb_any g cap x n c ps f w hp hn hF hg
  have H' : Hid (Calls Tryz.prog 116 #[.slice x n c, .func (.func g) #[] cap] w fun e w' => (∃ r : Int, e = .returned (.int .i64 r) ∧ decide (r ≥ 0) = anyAt n f) ∧ Below w.heap.size w w') := (H.mono fun e w' h => by
    obtain ⟨⟨r, rfl, hr⟩, hb⟩ := h
    refine ⟨⟨r, rfl, ?_⟩, hb⟩
    rcases hr with ⟨i, hi, hfi, _, rfl⟩ | ⟨hno, rfl⟩
    · rw [any_yes hi hfi]; simp
    · rw [any_no hno]; rfl)
  clear hF H
  go_enter Tryz.func103, Tryz.ntmps103
  go_wp2_with fail
  refine H'.out.mono ?_
  rintro e w1 ⟨⟨r, rfl, hr⟩, hb1⟩
  go_wp2
  go_ret
  exact ⟨rfl, hb1⟩

/-- What the function value g (with what it has captured) answers at the i-th prefix, in every world that comes. -/
def FnFcAt (g : Nat) (cap : Array Value) (n : Nat) (ps : List Fc) (f : Nat → Bool) (w : World) : Prop :=
  ∀ i, i < n → ∀ W, Below w.heap.size w W → Calls Tryz.prog g (#[.agg #[.int .i64 (fcAt ps i).id, .slice (fcAt ps i).x (fcAt ps i).n (fcAt ps i).c]] ++ cap) W fun e W' => e = .returned (.bool (f i)) ∧ Below W.heap.size W W'

set_option maxRecDepth 20000 in
set_option maxHeartbeats 800000 in
theorem indexFuncFc_any (g : Nat) (cap : Array Value) (x : Option Addr) (n c : Nat) (ps : List Fc) (f : Nat → Bool) (w : World) (hp : FcS w x n ps) (hn : n ≤ 1048576) (hF : FnFcAt g cap n ps f w)
    (hg : ∀ args W, (callFunc g args).run Tryz.prog W = .ok (.enter g args) W) :
    Calls Tryz.prog 129 #[.slice x n c, .func (.func g) #[] cap] w fun e w' => (∃ r : Int, e = .returned (.int .i64 r) ∧ ((∃ i : Nat, i < n ∧ f i = true ∧ (∀ j, j < i → f j = false) ∧ r = i) ∨ ((∀ j, j < n → f j = false) ∧ r = -1))) ∧ Below w.heap.size w w' := by
  have HF : Hid (FnFcAt g cap n ps f w) := hF
  clear hF
  go_enter Tryz.func129, Tryz.ntmps129
  go_wp2
  go_loopw [8] (fun i wr => ∃ k : Nat, k ≤ n ∧ i = .int .i64 k ∧ Below w.heap.size w wr ∧ (∀ j, j < k → f j = false)) (fun i _ => n - (intOf i).toNat)
  case atStart => exact ⟨0, by omega, rfl, Below.refl _ _, fun j hj => by omega⟩
  case round =>
    obtain ⟨k, hk, rfl, hB, hno⟩ := hrel
    by_cases hlt : k < n
    · obtain ⟨b, o, rfl, c0, c1⟩ := hp.cells k hlt
      have d0 := cell_later hB c0
      have d1 := cell_later hB c1
      go_wp2_with fail
      refine (HF.out k hlt _ hB).mono ?_
      rintro e w1 ⟨rfl, hb1⟩
      have hC := hB.trans (hb1.mono hB.size)
      cases hf : f k
      · go_wp2
        go_roundw
        case rel => exact ⟨k + 1, hlt, by go_num, hC, fun j hj => by
          by_cases hj2 : j < k
          · exact hno j hj2
          · obtain rfl : j = k := by omega
            exact hf⟩
        case measure => simp [intOf]; omega
      · go_wp2
        go_ret
        exact ⟨⟨_, rfl, .inl ⟨k, hlt, hf, hno, rfl⟩⟩, hC⟩
    · go_wp2
      go_ret
      exact ⟨⟨_, rfl, .inr ⟨fun j hj => hno j (by omega), rfl⟩⟩, hB⟩
set_option maxRecDepth 20000 in
set_option maxHeartbeats 800000 in
theorem containsFuncFc_any (g : Nat) (cap : Array Value) (x : Option Addr) (n c : Nat) (ps : List Fc) (f : Nat → Bool) (w : World) (hp : FcS w x n ps) (hn : n ≤ 1048576) (hF : FnFcAt g cap n ps f w)
    (hg : ∀ args W, (callFunc g args).run Tryz.prog W = .ok (.enter g args) W) :
    Calls Tryz.prog 117 #[.slice x n c, .func (.func g) #[] cap] w fun e w' => e = .returned (.bool (anyAt n f)) ∧ Below w.heap.size w w' := by
  have H := indexFuncFc_any g cap x n c ps f w hp hn hF hg
  have H' : Hid (Calls Tryz.prog 129 #[.slice x n c, .func (.func g) #[] cap] w fun e w' => (∃ r : Int, e = .returned (.int .i64 r) ∧ decide (r ≥ 0) = anyAt n f) ∧ Below w.heap.size w w') := (H.mono fun e w' h => by
    obtain ⟨⟨r, rfl, hr⟩, hb⟩ := h
    refine ⟨⟨r, rfl, ?_⟩, hb⟩
    rcases hr with ⟨i, hi, hfi, _, rfl⟩ | ⟨hno, rfl⟩
    · rw [any_yes hi hfi]; simp
    · rw [any_no hno]; rfl)
  clear hF H
  go_enter Tryz.func117, Tryz.ntmps117
  go_wp2_with fail
  refine H'.out.mono ?_
  rintro e w1 ⟨⟨r, rfl, hr⟩, hb1⟩
  go_wp2
  go_ret
  exact ⟨rfl, hb1⟩

/-- What the function value g (with what it has captured) answers at the i-th prefix, in every world that comes. -/
def FnRgAt (g : Nat) (cap : Array Value) (n : Nat) (ps : List Rg) (f : Nat → Bool) (w : World) : Prop :=
  ∀ i, i < n → ∀ W, Below w.heap.size w W → Calls Tryz.prog g (#[.agg #[.int .i64 (rgAt ps i).a, .int .i64 (rgAt ps i).l, .int .i64 (rgAt ps i).p]] ++ cap) W fun e W' => e = .returned (.bool (f i)) ∧ Below W.heap.size W W'

set_option maxRecDepth 20000 in
set_option maxHeartbeats 800000 in
theorem indexFuncRg_any (g : Nat) (cap : Array Value) (x : Option Addr) (n c : Nat) (ps : List Rg) (f : Nat → Bool) (w : World) (hp : RS w x n ps) (hn : n ≤ 1048576) (hF : FnRgAt g cap n ps f w)
    (hg : ∀ args W, (callFunc g args).run Tryz.prog W = .ok (.enter g args) W) :
    Calls Tryz.prog 89 #[.slice x n c, .func (.func g) #[] cap] w fun e w' => (∃ r : Int, e = .returned (.int .i64 r) ∧ ((∃ i : Nat, i < n ∧ f i = true ∧ (∀ j, j < i → f j = false) ∧ r = i) ∨ ((∀ j, j < n → f j = false) ∧ r = -1))) ∧ Below w.heap.size w w' := by
  have HF : Hid (FnRgAt g cap n ps f w) := hF
  clear hF
  go_enter Tryz.func89, Tryz.ntmps89
  go_wp2
  go_loopw [8] (fun i wr => ∃ k : Nat, k ≤ n ∧ i = .int .i64 k ∧ Below w.heap.size w wr ∧ (∀ j, j < k → f j = false)) (fun i _ => n - (intOf i).toNat)
  case atStart => exact ⟨0, by omega, rfl, Below.refl _ _, fun j hj => by omega⟩
  case round =>
    obtain ⟨k, hk, rfl, hB, hno⟩ := hrel
    by_cases hlt : k < n
    · obtain ⟨b, o, rfl, c0, c1, c2⟩ := hp.cells k hlt
      have d0 := cell_later hB c0
      have d1 := cell_later hB c1
      have d2 := cell_later hB c2
      go_wp2_with fail
      refine (HF.out k hlt _ hB).mono ?_
      rintro e w1 ⟨rfl, hb1⟩
      have hC := hB.trans (hb1.mono hB.size)
      cases hf : f k
      · go_wp2
        go_roundw
        case rel => exact ⟨k + 1, hlt, by go_num, hC, fun j hj => by
          by_cases hj2 : j < k
          · exact hno j hj2
          · obtain rfl : j = k := by omega
            exact hf⟩
        case measure => simp [intOf]; omega
      · go_wp2
        go_ret
        exact ⟨⟨_, rfl, .inl ⟨k, hlt, hf, hno, rfl⟩⟩, hC⟩
    · go_wp2
      go_ret
      exact ⟨⟨_, rfl, .inr ⟨fun j hj => hno j (by omega), rfl⟩⟩, hB⟩
set_option maxRecDepth 20000 in
set_option maxHeartbeats 800000 in
theorem containsFuncRg_any (g : Nat) (cap : Array Value) (x : Option Addr) (n c : Nat) (ps : List Rg) (f : Nat → Bool) (w : World) (hp : RS w x n ps) (hn : n ≤ 1048576) (hF : FnRgAt g cap n ps f w)
    (hg : ∀ args W, (callFunc g args).run Tryz.prog W = .ok (.enter g args) W) :
    Calls Tryz.prog 86 #[.slice x n c, .func (.func g) #[] cap] w fun e w' => e = .returned (.bool (anyAt n f)) ∧ Below w.heap.size w w' := by
  have H := indexFuncRg_any g cap x n c ps f w hp hn hF hg
  have H' : Hid (Calls Tryz.prog 89 #[.slice x n c, .func (.func g) #[] cap] w fun e w' => (∃ r : Int, e = .returned (.int .i64 r) ∧ decide (r ≥ 0) = anyAt n f) ∧ Below w.heap.size w w') := (H.mono fun e w' h => by
    obtain ⟨⟨r, rfl, hr⟩, hb⟩ := h
    refine ⟨⟨r, rfl, ?_⟩, hb⟩
    rcases hr with ⟨i, hi, hfi, _, rfl⟩ | ⟨hno, rfl⟩
    · rw [any_yes hi hfi]; simp
    · rw [any_no hno]; rfl)
  clear hF H
  go_enter Tryz.func86, Tryz.ntmps86
  go_wp2_with fail
  refine H'.out.mono ?_
  rintro e w1 ⟨⟨r, rfl, hr⟩, hb1⟩
  go_wp2
  go_ret
  exact ⟨rfl, hb1⟩

/-- What the function value g (with what it has captured) answers at the i-th prefix, in every world that comes. -/
def FnInAt (g : Nat) (cap : Array Value) (n : Nat) (ps : List Int) (f : Nat → Bool) (w : World) : Prop :=
  ∀ i, i < n → ∀ W, Below w.heap.size w W → Calls Tryz.prog g (#[.int .i64 (inAt ps i)] ++ cap) W fun e W' => e = .returned (.bool (f i)) ∧ Below W.heap.size W W'

set_option maxRecDepth 20000 in
set_option maxHeartbeats 800000 in
theorem indexFuncIn_any (g : Nat) (cap : Array Value) (x : Option Addr) (n c : Nat) (ps : List Int) (f : Nat → Bool) (w : World) (hp : IS w x n ps) (hn : n ≤ 1048576) (hF : FnInAt g cap n ps f w)
    (hg : ∀ args W, (callFunc g args).run Tryz.prog W = .ok (.enter g args) W) :
    Calls Tryz.prog 137 #[.slice x n c, .func (.func g) #[] cap] w fun e w' => (∃ r : Int, e = .returned (.int .i64 r) ∧ ((∃ i : Nat, i < n ∧ f i = true ∧ (∀ j, j < i → f j = false) ∧ r = i) ∨ ((∀ j, j < n → f j = false) ∧ r = -1))) ∧ Below w.heap.size w w' := by
  have HF : Hid (FnInAt g cap n ps f w) := hF
  clear hF
  go_enter Tryz.func137, Tryz.ntmps137
  go_wp2
  go_loopw [8] (fun i wr => ∃ k : Nat, k ≤ n ∧ i = .int .i64 k ∧ Below w.heap.size w wr ∧ (∀ j, j < k → f j = false)) (fun i _ => n - (intOf i).toNat)
  case atStart => exact ⟨0, by omega, rfl, Below.refl _ _, fun j hj => by omega⟩
  case round =>
    obtain ⟨k, hk, rfl, hB, hno⟩ := hrel
    by_cases hlt : k < n
    · obtain ⟨b, o, rfl, c0⟩ := hp.cells k hlt
      have d0 := cell_later hB c0
      go_wp2_with fail
      refine (HF.out k hlt _ hB).mono ?_
      rintro e w1 ⟨rfl, hb1⟩
      have hC := hB.trans (hb1.mono hB.size)
      cases hf : f k
      · go_wp2
        go_roundw
        case rel => exact ⟨k + 1, hlt, by go_num, hC, fun j hj => by
          by_cases hj2 : j < k
          · exact hno j hj2
          · obtain rfl : j = k := by omega
            exact hf⟩
        case measure => simp [intOf]; omega
      · go_wp2
        go_ret
        exact ⟨⟨_, rfl, .inl ⟨k, hlt, hf, hno, rfl⟩⟩, hC⟩
    · go_wp2
      go_ret
      exact ⟨⟨_, rfl, .inr ⟨fun j hj => hno j (by omega), rfl⟩⟩, hB⟩
set_option maxRecDepth 20000 in
set_option maxHeartbeats 800000 in
theorem containsFuncIn_any (g : Nat) (cap : Array Value) (x : Option Addr) (n c : Nat) (ps : List Int) (f : Nat → Bool) (w : World) (hp : IS w x n ps) (hn : n ≤ 1048576) (hF : FnInAt g cap n ps f w)
    (hg : ∀ args W, (callFunc g args).run Tryz.prog W = .ok (.enter g args) W) :
    Calls Tryz.prog 132 #[.slice x n c, .func (.func g) #[] cap] w fun e w' => e = .returned (.bool (anyAt n f)) ∧ Below w.heap.size w w' := by
  have H := indexFuncIn_any g cap x n c ps f w hp hn hF hg
  have H' : Hid (Calls Tryz.prog 137 #[.slice x n c, .func (.func g) #[] cap] w fun e w' => (∃ r : Int, e = .returned (.int .i64 r) ∧ decide (r ≥ 0) = anyAt n f) ∧ Below w.heap.size w w') := (H.mono fun e w' h => by
    obtain ⟨⟨r, rfl, hr⟩, hb⟩ := h
    refine ⟨⟨r, rfl, ?_⟩, hb⟩
    rcases hr with ⟨i, hi, hfi, _, rfl⟩ | ⟨hno, rfl⟩
    · rw [any_yes hi hfi]; simp
    · rw [any_no hno]; rfl)
  clear hF H
  go_enter Tryz.func132, Tryz.ntmps132
  go_wp2_with fail
  refine H'.out.mono ?_
  rintro e w1 ⟨⟨r, rfl, hr⟩, hb1⟩
  go_wp2
  go_ret
  exact ⟨rfl, hb1⟩

end Go.Proofs.YtlalgkjollgcbaaGreat
