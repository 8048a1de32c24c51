/- What slices.IndexFunc and ContainsFunc at prefixes, and meets of package space, come to. -/
import Derived.Test.YtbnkgecblaffeaaS
import Derived.Laws.EntriesVeiled
namespace Go.Proofs.Ytbnkgecblaffeaa
open Go.RowKit

/-- What the function value g (with what it has captured) answers at the i-th prefix, in every world that comes. -/
def FnAt (g : Nat) (cap : Array Value) (n : Nat) (ps : List (Int × Int)) (f : Nat → Bool) (w : World) : Prop :=
  ∀ i, i < n → ∀ W, Below w.heap.size w W → Calls Try.prog g (#[.agg #[.int .i64 (at0 ps i), .int .i64 (at1 ps i)]] ++ cap) W fun e W' => e = .returned (.bool (f i)) ∧ Below W.heap.size W W'

set_option maxRecDepth 20000 in
set_option maxHeartbeats 800000 in
theorem indexFunc_any (g : Nat) (cap : Array Value) (x : Option Addr) (n c : Nat) (ps : List (Int × Int)) (f : Nat → Bool) (w : World) (hp : PS w x n ps) (hn : n ≤ 64) (hF : FnAt g cap n ps f w)
    (hg : ∀ args W, (callFunc g args).run Try.prog W = .ok (.enter g args) W) :
    Calls Try.prog 55 #[.slice x n c, .func (.func g) #[] cap] w fun e w' => (∃ r : Int, e = .returned (.int .i64 r) ∧ ((∃ i : Nat, i < n ∧ f i = true ∧ (∀ j, j < i → f j = false) ∧ r = i) ∨ ((∀ j, j < n → f j = false) ∧ r = -1))) ∧ Below w.heap.size w w' := by
  have HF : Hid (FnAt g cap n ps f w) := hF
  clear hF
  go_enter Try.func55, Try.ntmps55
  go_wp2
  go_loopw [8] (fun i wr => ∃ k : Nat, k ≤ n ∧ i = .int .i64 k ∧ Below w.heap.size w wr ∧ (∀ j, j < k → f j = false)) (fun i _ => n - (intOf i).toNat)
  case atStart => exact ⟨0, by omega, rfl, Below.refl _ _, fun j hj => by omega⟩
  case round =>
    obtain ⟨k, hk, rfl, hB, hno⟩ := hrel
    by_cases hlt : k < n
    · obtain ⟨b, o, rfl, c0, c1⟩ := hp.cells k hlt
      have d0 := cell_later hB c0
      have d1 := cell_later hB c1
      go_wp2_with fail
      refine (HF.out k hlt _ hB).mono ?_
      rintro e w1 ⟨rfl, hb1⟩
      have hC := hB.trans (hb1.mono hB.size)
      cases hf : f k
      · go_wp2
        go_roundw
        case rel => exact ⟨k + 1, hlt, by go_num, hC, fun j hj => by
          by_cases hj2 : j < k
          · exact hno j hj2
          · obtain rfl : j = k := by omega
            exact hf⟩
        case measure => simp [intOf]; omega
      · go_wp2
        go_ret
        exact ⟨⟨_, rfl, .inl ⟨k, hlt, hf, hno, rfl⟩⟩, hC⟩
    · go_wp2
      go_ret
      exact ⟨⟨_, rfl, .inr ⟨fun j hj => hno j (by omega), rfl⟩⟩, hB⟩
end Go.Proofs.Ytbnkgecblaffeaa
