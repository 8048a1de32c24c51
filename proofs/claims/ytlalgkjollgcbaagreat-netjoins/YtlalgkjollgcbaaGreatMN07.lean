/- What slices.Grow of a nil slice and slices.Concat come to at prefixes. -/
import Derived.Test.YtlalgkjollgcbaaGreatMN06
import Derived.Lib.AppendZerosOnto
import Derived.Lib.AppendZeros
import Derived.Lib.Walk
import Derived.Laws.AppendOwnNone
import Derived.OwnWalk
namespace Go.Proofs.YtlalgkjollgcbaaGreat
open Go.RowKit Go.Shelf

theorem under_int : Tryz.prog.underlying 3 = some (.int .i64) := by kernel_rfl

/-- The lists, one behind the other. -/
def catTo (ql : Nat → List (Int × Int)) : Nat → List (Int × Int)
  | 0 => []
  | j + 1 => catTo ql j ++ ql j

theorem addr_add (b o j : Nat) : (⟨b, o, none⟩ : Addr).add j = ⟨b, o + j, none⟩ := by
  unfold Addr.add
  split
  · simp_all
  · rfl
theorem PS.flat_cells {w : World} {ad : Addr} {n : Nat} {ps : List (Int × Int)} (h : PS w (some ad) n ps) : ∀ j u, (flat ps)[j]? = some u → w.cell? (ad.add j) = some u := by
  intro j u hj
  have hlt : j < ps.length * 2 := by have := (List.getElem?_eq_some_iff.1 hj).1; rwa [flat_len] at this
  have hi : j / 2 < ps.length := by omega
  obtain ⟨b, o, hb, c0, c1⟩ := h.cells (j / 2) (by rw [← h.len]; exact hi)
  cases hb
  have hg := flat_get ps (j / 2) hi
  rcases Nat.mod_two_eq_zero_or_one j with hm | hm
  · have e : j / 2 * 2 = j := by omega
    rw [e] at hg c0
    rw [hg.1] at hj
    cases hj
    rw [addr_add]; exact c0
  · have e : j / 2 * 2 + 1 = j := by omega
    rw [e] at hg
    rw [hg.2] at hj
    cases hj
    have e2 : o + j / 2 * 2 + 1 = o + j := by omega
    rw [e2] at c1
    rw [addr_add]; exact c1

end Go.Proofs.YtlalgkjollgcbaaGreat
