/- What a slice of routes that came in is. -/
import Derived.Test.YtlalgkjollgcbaaGreatRows
import Derived.Test.YtlalgkjollgcbaaGreatMN13
import Derived.ProofKit
import Derived.OpenShut
import Derived.Carry
import Derived.SizedLaws
import Derived.ChangeMaps5
import Derived.Deep.Slices
import Derived.Deep.DeepHandedRow
import Derived.Lib.SmallJoins
namespace Go.Proofs.YtlalgkjollgcbaaGreat
open Go.ChangeShapes Go.WideShapes Go.ChangeAt Go.RowKit Go.Joins

theorem own : ownKnob Tryz.prog.godebug = none := by kernel_rfl
theorem laidOut : laidOutB Tryz.prog = true := by kernel_rfl
theorem cells3 : Tryz.prog.cellsOf 3 = 1 := by kernel_rfl
theorem cellsP : Tryz.prog.cellsOf 27 = 2 := by kernel_rfl
theorem wf_range {n : Int} (h : (Lit.int .i64 n).wf = true) : -9223372036854775808 ≤ n ∧ n ≤ 9223372036854775807 := by
  have h1 : IntKind.i64.min = -9223372036854775808 := by rfl
  have h2 : IntKind.i64.max = 9223372036854775807 := by rfl
  simp [Lit.wf] at h
  omega

section
variable {H : Type} {enc : TypeId × Value → H} {w : World} {base : Nat} {spare : Nat → Bool} {held : Bool}
theorem int_of {n : Nat} {v : Value} {y : Option (DataW H × List MemPlace)} (hy : y.isSome = true) (h : DataW.trod enc Tryz.prog w base spare held n 3 [v] = y) : ∃ a : Int, v = .int .i64 a := by
  obtain ⟨y, rfl⟩ := Option.isSome_iff_exists.1 hy
  obtain ⟨a, e, -⟩ := DataW.trod_int Tryz.underlying3 h
  simp at e
  exact ⟨a, e⟩
theorem some_at {α : Type} {xs : List α} {m i : Nat} (h : xs.length = m) (hi : i < m) : (xs[i]?).isSome = true := by
  rw [List.getElem?_eq_getElem (by omega)]
  rfl
end
theorem rgAt_get {rs : List Rg} {i : Nat} (h : i < rs.length) : rgAt rs i = rs[i] := by simp [rgAt, List.getD_eq_getElem?_getD, h]
end Go.Proofs.YtlalgkjollgcbaaGreat
