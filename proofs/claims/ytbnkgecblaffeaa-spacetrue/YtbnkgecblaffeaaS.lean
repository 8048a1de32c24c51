/- What apart and Check of package space, and CheckSpace of package parcelwayref, come to. -/
import Derived.Test.YtbnkgecblaffeaaE
import Derived.Deep.DeepCutAuto
namespace Go.Proofs.Ytbnkgecblaffeaa
open Go.RowKit

/-- The i-th prefix of a list. -/
def at0 (ps : List (Int × Int)) (i : Nat) : Int := (ps.getD i (0, 0)).1
def at1 (ps : List (Int × Int)) (i : Nat) : Int := (ps.getD i (0, 0)).2

/-- The slice (x, n) holds these prefixes in that world. -/
structure PS (w : World) (x : Option Addr) (n : Nat) (ps : List (Int × Int)) : Prop where
  len : ps.length = n
  cells : ∀ i, i < n → ∃ b o, x = some ⟨b, o, none⟩ ∧ w.cell? ⟨b, o + i * 2, none⟩ = some (.int .i64 (at0 ps i)) ∧ w.cell? ⟨b, o + i * 2 + 1, none⟩ = some (.int .i64 (at1 ps i))

theorem PS.later {w w' : World} {x : Option Addr} {n : Nat} {ps : List (Int × Int)} (h : PS w x n ps) (hb : Below w.heap.size w w') : PS w' x n ps where
  len := h.len
  cells := fun i hi => by
    obtain ⟨b, o, hx, c0, c1⟩ := h.cells i hi
    exact ⟨b, o, hx, cell_later hb c0, cell_later hb c1⟩

def okAt (a l : Int) (ps : List (Int × Int)) (i : Nat) : Bool := ins (at0 ps i) (at1 ps i) a l && (i == 0 || (decide (at0 ps (i - 1) < at0 ps i) && !mts (at0 ps (i - 1)) (at1 ps (i - 1)) (at0 ps i) (at1 ps i)))
def apartB (a l : Int) (ps : List (Int × Int)) : Bool := (List.range ps.length).all (okAt a l ps)

theorem Ws.here {w : World} {b o : Nat} {v : Value} (h : w.cell? ⟨b, o, none⟩ = some v) (u : Ws w.heap.size w) : u.val.cell? ⟨b, o, none⟩ = some v :=
  cell_later u.property h
theorem inside_is (a l c m : Int) (t : Bool) (h : ins a l c m = t) (w : World) :
    Calls Try.prog 20 #[.agg #[.int .i64 a, .int .i64 l], .agg #[.int .i64 c, .int .i64 m]] w fun e w' => e = .returned (.bool t) ∧ Below w.heap.size w w' := by
  subst h
  exact inside_any a l c m w
theorem meets_is (a l c m : Int) (t : Bool) (h : mts a l c m = t) (w : World) :
    Calls Try.prog 52 #[.agg #[.int .i64 a, .int .i64 l], .agg #[.int .i64 c, .int .i64 m]] w fun e w' => e = .returned (.bool t) ∧ Below w.heap.size w w' := by
  subst h
  exact meets_any a l c m w

theorem apart_no {a l : Int} {ps : List (Int × Int)} {k : Nat} (hk : k < ps.length) (h : okAt a l ps k = false) : apartB a l ps = false := by
  unfold apartB
  rw [List.all_eq_false]
  exact ⟨k, by simpa using hk, by simp [h]⟩
theorem apart_yes {a l : Int} {ps : List (Int × Int)} (h : ∀ j, j < ps.length → okAt a l ps j = true) : apartB a l ps = true := by
  unfold apartB
  rw [List.all_eq_true]
  intro j hj
  exact h j (by simpa using hj)
theorem ok_0 {a l : Int} {ps : List (Int × Int)} (h : ins (at0 ps 0) (at1 ps 0) a l = true) : okAt a l ps 0 = true := by unfold okAt; rw [h]; rfl
theorem ok_no1 {a l : Int} {ps : List (Int × Int)} {k : Nat} (h : ins (at0 ps k) (at1 ps k) a l = false) : okAt a l ps k = false := by unfold okAt; rw [h]; rfl
theorem ok_no2 {a l : Int} {ps : List (Int × Int)} {k : Nat} (h : at0 ps (k + 1) ≤ at0 ps k) : okAt a l ps (k + 1) = false := by
  unfold okAt
  have : decide (at0 ps k < at0 ps (k + 1)) = false := by simpa using h
  simp [this]
theorem ok_no3 {a l : Int} {ps : List (Int × Int)} {k : Nat} (h : mts (at0 ps k) (at1 ps k) (at0 ps (k + 1)) (at1 ps (k + 1)) = true) : okAt a l ps (k + 1) = false := by
  unfold okAt
  simp [h]
theorem ok_s {a l : Int} {ps : List (Int × Int)} {k : Nat} (h1 : ins (at0 ps (k + 1)) (at1 ps (k + 1)) a l = true) (h2 : ¬ at0 ps (k + 1) ≤ at0 ps k) (h3 : mts (at0 ps k) (at1 ps k) (at0 ps (k + 1)) (at1 ps (k + 1)) = false) : okAt a l ps (k + 1) = true := by
  unfold okAt
  have : decide (at0 ps k < at0 ps (k + 1)) = true := by simp; omega
  simp [h1, h3, this]

def chkS (a l : Int) (n : Nat) (ps : List (Int × Int)) : Int := if 32 < n then 2 else if rt a l && apartB a l ps then 0 else 1
end Go.Proofs.Ytbnkgecblaffeaa
