/- What Halves and Up of package cidr, and UpOf of package parcelwayref, come to. -/
import Derived.Test.YtlalgkjollgcbaaGreatMN02
import Derived.Deep.RegionHeld3
namespace Go.Proofs.YtlalgkjollgcbaaGreat
open Go.RowKit

def halvesE (a l : Int) : Int := if chk a l = 0 ∧ l = 16 then 3 else chk a l
def upE (a l : Int) : Int := if chk a l = 0 ∧ l = 0 then 3 else chk a l

theorem chk_of_rt {a l : Int} (h : rt a l = true) : chk a l = 0 := by unfold rt at h; simpa using h
theorem chk_ne {a l : Int} (h : rt a l = false) : (chk a l == 0) = false := by unfold rt at h; exact h
theorem chk_ne' {a l : Int} (h : rt a l = false) : chk a l ≠ 0 := by have := chk_ne h; simpa using this

theorem cell_set_ne {w : World} {b o b' o' : Nat} {v : Value} (h : b ≠ b') : (w.setCell ⟨b', o', none⟩ v).cell? ⟨b, o, none⟩ = w.cell? ⟨b, o, none⟩ :=
  World.cell?_of_block (Below.heap_setCell _ _ _ _ h)
theorem cell_drew {w : World} {p : Addr} : w.drew.cell? p = w.cell? p := rfl

end Go.Proofs.YtlalgkjollgcbaaGreat
