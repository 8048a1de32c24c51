/- What slices.ContainsFunc at prefixes, and meets of package space, come to. -/
import Derived.Test.YtbnkgecblaffeaaX
namespace Go.Proofs.Ytbnkgecblaffeaa
open Go.RowKit

def anyAt (n : Nat) (f : Nat → Bool) : Bool := (List.range n).any f

theorem any_no {n : Nat} {f : Nat → Bool} (h : ∀ j, j < n → f j = false) : anyAt n f = false := by
  unfold anyAt
  rw [List.any_eq_false]
  intro j hj
  simp [h j (by simpa using hj)]
theorem any_yes {n : Nat} {f : Nat → Bool} {k : Nat} (hk : k < n) (h : f k = true) : anyAt n f = true := by
  unfold anyAt
  rw [List.any_eq_true]
  exact ⟨k, by simpa using hk, h⟩

set_option maxRecDepth 20000 in
set_option maxHeartbeats 800000 in
theorem containsFunc_any (g : Nat) (cap : Array Value) (x : Option Addr) (n c : Nat) (ps : List (Int × Int)) (f : Nat → Bool) (w : World) (hp : PS w x n ps) (hn : n ≤ 64) (hF : FnAt g cap n ps f w)
    (hg : ∀ args W, (callFunc g args).run Try.prog W = .ok (.enter g args) W) :
    Calls Try.prog 47 #[.slice x n c, .func (.func g) #[] cap] w fun e w' => e = .returned (.bool (anyAt n f)) ∧ Below w.heap.size w w' := by
  have H := indexFunc_any g cap x n c ps f w hp hn hF hg
  have H' : Hid (Calls Try.prog 55 #[.slice x n c, .func (.func g) #[] cap] w fun e w' => (∃ r : Int, e = .returned (.int .i64 r) ∧ decide (r ≥ 0) = anyAt n f) ∧ Below w.heap.size w w') := (H.mono fun e w' h => by
    obtain ⟨⟨r, rfl, hr⟩, hb⟩ := h
    refine ⟨⟨r, rfl, ?_⟩, hb⟩
    rcases hr with ⟨i, hi, hfi, _, rfl⟩ | ⟨hno, rfl⟩
    · rw [any_yes hi hfi]; simp
    · rw [any_no hno]; rfl)
  clear hF H
  go_enter Try.func47, Try.ntmps47
  go_wp2_with fail
  refine H'.out.mono ?_
  rintro e w1 ⟨⟨r, rfl, hr⟩, hb1⟩
  go_wp2
  go_ret
  exact ⟨rfl, hb1⟩

set_option maxRecDepth 20000 in
theorem meets1_any (a l c m : Int) (b : Nat) (w : World) (h0 : w.cell? ⟨b, 0, none⟩ = some (.int .i64 a)) (h1 : w.cell? ⟨b, 1, none⟩ = some (.int .i64 l)) :
    Calls Try.prog 54 #[.agg #[.int .i64 c, .int .i64 m], .pointer (some ⟨b, 0, none⟩)] w fun e w' => e = .returned (.bool (mts a l c m)) ∧ Below w.heap.size w w' := by
  have k0 : ∀ q, (w.alloc q).cell? ⟨b, 0, none⟩ = some (.int .i64 a) := fun q => cell_later (bl1 w q) h0
  have k1 : ∀ q, (w.alloc q).cell? ⟨b, 1, none⟩ = some (.int .i64 l) := fun q => cell_later (bl1 w q) h1
  go_enter Try.func54, Try.ntmps54
  go_wp2_with (go_at_call 52; refine (meets_any a l c m _).mono ?_; rintro e w1 ⟨rfl, hb1⟩)
  go_ret
  exact ⟨rfl, (bl1 w _).trans (hb1.mono (by simp))⟩
set_option maxRecDepth 20000 in
theorem inside1_any (a l c m : Int) (b : Nat) (w : World) (h0 : w.cell? ⟨b, 0, none⟩ = some (.int .i64 a)) (h1 : w.cell? ⟨b, 1, none⟩ = some (.int .i64 l)) :
    Calls Try.prog 48 #[.agg #[.int .i64 c, .int .i64 m], .pointer (some ⟨b, 0, none⟩)] w fun e w' => e = .returned (.bool (ins a l c m)) ∧ Below w.heap.size w w' := by
  have k0 : ∀ q, (w.alloc q).cell? ⟨b, 0, none⟩ = some (.int .i64 a) := fun q => cell_later (bl1 w q) h0
  have k1 : ∀ q, (w.alloc q).cell? ⟨b, 1, none⟩ = some (.int .i64 l) := fun q => cell_later (bl1 w q) h1
  go_enter Try.func48, Try.ntmps48
  go_wp2_with (go_at_call 20; refine (inside_any a l c m _).mono ?_; rintro e w1 ⟨rfl, hb1⟩)
  go_ret
  exact ⟨rfl, (bl1 w _).trans (hb1.mono (by simp))⟩
set_option maxRecDepth 20000 in
theorem fit1_any (z c m : Int) (b : Nat) (w : World) (h0 : w.cell? ⟨b, 0, none⟩ = some (.int .i64 z)) :
    Calls Try.prog 25 #[.agg #[.int .i64 c, .int .i64 m], .pointer (some ⟨b, 0, none⟩)] w fun e w' => e = .returned (.bool (decide (m ≤ z))) ∧ Below w.heap.size w w' := by
  have k0 : ∀ q, (w.alloc q).cell? ⟨b, 0, none⟩ = some (.int .i64 z) := fun q => cell_later (bl1 w q) h0
  go_enter Try.func25, Try.ntmps25
  go_wp2
  go_ret
  exact ⟨rfl, bl1 w _⟩

/-- Whether the prefix (a, l) meets one of these. -/
def mtsAny (a l : Int) (ps : List (Int × Int)) : Bool := anyAt ps.length fun i => mts a l (at0 ps i) (at1 ps i)
/-- Whether the prefix (a, l) is inside of one of these. -/
def insAny (a l : Int) (ps : List (Int × Int)) : Bool := anyAt ps.length fun i => ins a l (at0 ps i) (at1 ps i)

theorem call_meets1 (args : Array Value) (W : World) : (callFunc 54 args).run Try.prog W = .ok (.enter 54 args) W := by simp [go_sem]
theorem call_in1 (args : Array Value) (W : World) : (callFunc 48 args).run Try.prog W = .ok (.enter 48 args) W := by simp [go_sem]
theorem call_fit1 (args : Array Value) (W : World) : (callFunc 25 args).run Try.prog W = .ok (.enter 25 args) W := by simp [go_sem]

set_option maxRecDepth 20000 in
theorem meets_fn (a l : Int) (b n : Nat) (ps : List (Int × Int)) (w : World) (h0 : w.cell? ⟨b, 0, none⟩ = some (.int .i64 a)) (h1 : w.cell? ⟨b, 1, none⟩ = some (.int .i64 l)) :
    FnAt 54 #[.pointer (some ⟨b, 0, none⟩)] n ps (fun i => mts a l (at0 ps i) (at1 ps i)) w := fun _ _ W hW =>
  meets1_any a l _ _ b W (cell_later hW h0) (cell_later hW h1)
theorem inside_fn (a l : Int) (b n : Nat) (ps : List (Int × Int)) (w : World) (h0 : w.cell? ⟨b, 0, none⟩ = some (.int .i64 a)) (h1 : w.cell? ⟨b, 1, none⟩ = some (.int .i64 l)) :
    FnAt 48 #[.pointer (some ⟨b, 0, none⟩)] n ps (fun i => ins a l (at0 ps i) (at1 ps i)) w := fun _ _ W hW =>
  inside1_any a l _ _ b W (cell_later hW h0) (cell_later hW h1)
set_option maxRecDepth 20000 in
theorem meetsU_any (a l : Int) (x : Option Addr) (n c : Nat) (ps : List (Int × Int)) (w : World) (hp : PS w x n ps) (hn : n ≤ 64) :
    Calls Try.prog 38 #[.agg #[.int .i64 a, .int .i64 l], .slice x n c] w fun e w' => e = .returned (.bool (mtsAny a l ps)) ∧ Below w.heap.size w w' := by
  have hl := hp.len
  go_enter Try.func38, Try.ntmps38
  go_wp2_with fail
  refine (containsFunc_any 54 _ x n c ps _ _ (hp.later (bl1 w _)) hn (meets_fn a l w.heap.size n ps _ (by simp) (by simp)) call_meets1).mono ?_
  rintro e w1 ⟨rfl, hb1⟩
  go_wp2
  go_ret
  exact ⟨ret_bool (by unfold mtsAny; rw [hl]), (bl1 w _).trans (hb1.mono (by simp))⟩
end Go.Proofs.Ytbnkgecblaffeaa
