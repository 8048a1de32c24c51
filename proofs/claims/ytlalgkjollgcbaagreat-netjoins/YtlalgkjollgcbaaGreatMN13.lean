/- The law RouteFinds. -/
import Derived.Test.YtlalgkjollgcbaaGreatMN12
import Derived.Laws.StructEq
namespace Go.Proofs.YtlalgkjollgcbaaGreat
open Go.RowKit Go.Shelf
theorem fndV_is (n : Nat) (ls : List Rg) (y : Int) : ∃ (a l p : Int) (t : Bool) (e : Int), fndV n ls y = .tuple #[.agg #[.int .i64 a, .int .i64 l, .int .i64 p], .bool t, .int .i64 e] := by
  unfold fndV
  split
  · exact ⟨_, _, _, _, _, rfl⟩
  · exact ⟨_, _, _, _, _, rfl⟩

end Go.Proofs.YtlalgkjollgcbaaGreat
