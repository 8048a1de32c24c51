/- What span and Check of package cidr answer and do to the world. -/
import Derived.Test.YtbnkgecblaffeaaRows
import Derived.Test.YtbnkgecblaffeaaK
namespace Go.Proofs.Ytbnkgecblaffeaa
open Go.RowKit

def sp (l : Int) : Int := if l = 0 then 65536 else if l = 1 then 32768 else if l = 2 then 16384 else if l = 3 then 8192 else if l = 4 then 4096 else if l = 5 then 2048 else if l = 6 then 1024 else if l = 7 then 512 else if l = 8 then 256 else if l = 9 then 128 else if l = 10 then 64 else if l = 11 then 32 else if l = 12 then 16 else if l = 13 then 8 else if l = 14 then 4 else if l = 15 then 2 else 1

theorem l_cases (l : Int) (h0 : 0 ≤ l) (h1 : l ≤ 16) : l = 0 ∨ l = 1 ∨ l = 2 ∨ l = 3 ∨ l = 4 ∨ l = 5 ∨ l = 6 ∨ l = 7 ∨ l = 8 ∨ l = 9 ∨ l = 10 ∨ l = 11 ∨ l = 12 ∨ l = 13 ∨ l = 14 ∨ l = 15 ∨ l = 16 := by omega

set_option maxHeartbeats 400000 in
theorem span_any (l : Int) (w : World) (h0 : 0 ≤ l) (h1 : l ≤ 16) :
    Calls Try.prog 44 #[.int .i64 l] w fun e w' => e = .returned (.int .i64 (sp l)) ∧ w' = w := by
  rcases l_cases l h0 h1 with rfl | rfl | rfl | rfl | rfl | rfl | rfl | rfl | rfl | rfl | rfl | rfl | rfl | rfl | rfl | rfl | rfl
  all_goals clear h0 h1
  all_goals go_enter Try.func44, Try.ntmps44
  all_goals go_wp2
  all_goals go_ret
  all_goals exact ⟨rfl, rfl⟩

def chk (a l : Int) : Int := if l < 0 ∨ 16 < l ∨ a < 0 ∨ 65535 < a then 3 else if a % sp l = 0 then 0 else 1

theorem sp_pos (l : Int) : 0 < sp l := by unfold sp; (repeat' split) <;> omega
theorem sp_le (l : Int) : sp l ≤ 65536 := by unfold sp; (repeat' split) <;> omega

set_option maxHeartbeats 400000 in
theorem check_out (a l : Int) (w : World) (h : l < 0 ∨ 16 < l ∨ a < 0 ∨ 65535 < a) :
    Calls Try.prog 36 #[.agg #[.int .i64 a, .int .i64 l]] w fun e w' => e = .returned (.int .i64 3) ∧ Below w.heap.size w w' := by
  by_cases h1 : l < 0
  · clear h
    go_enter Try.func36, Try.ntmps36
    go_wp2
    go_ret
    exact ⟨rfl, (Below.refl _ _).alloc (Nat.le_refl _) _⟩
  · by_cases h2 : 16 < l
    · clear h
      go_enter Try.func36, Try.ntmps36
      go_wp2
      go_ret
      exact ⟨rfl, (Below.refl _ _).alloc (Nat.le_refl _) _⟩
    · by_cases h3 : a < 0
      · clear h
        go_enter Try.func36, Try.ntmps36
        go_wp2
        go_ret
        exact ⟨rfl, (Below.refl _ _).alloc (Nat.le_refl _) _⟩
      · have h4 : 65535 < a := by omega
        clear h
        go_enter Try.func36, Try.ntmps36
        go_wp2
        go_ret
        exact ⟨rfl, (Below.refl _ _).alloc (Nat.le_refl _) _⟩

set_option maxHeartbeats 400000 in
theorem check_in (a l : Int) (w : World) (h0 : 0 ≤ l) (h1 : l ≤ 16) (h2 : 0 ≤ a) (h3 : a ≤ 65535) :
    Calls Try.prog 36 #[.agg #[.int .i64 a, .int .i64 l]] w fun e w' => e = .returned (.int .i64 (if a % sp l = 0 then 0 else 1)) ∧ Below w.heap.size w w' := by
  have hp := sp_pos l
  have hz : sp l ≠ 0 := by omega
  by_cases hm : a % sp l = 0
  · rw [if_pos hm]
    have hb : (a % sp l != 0) = false := by simp [hm]
    clear hm
    go_enter Try.func36, Try.ntmps36
    go_wp2
    go_quiet ((go_at_call 44; exact Calls.quiet_of_same (span_any _ _ (by omega) (by omega))))
    go_wp2
    go_ret
    exact ⟨rfl, below_drewN ((Below.refl _ _).alloc (Nat.le_refl _) _) _⟩
  · rw [if_neg hm]
    have hb : (a % sp l != 0) = true := by simp [hm]
    clear hm
    go_enter Try.func36, Try.ntmps36
    go_wp2
    go_quiet ((go_at_call 44; exact Calls.quiet_of_same (span_any _ _ (by omega) (by omega))))
    go_wp2
    go_ret
    exact ⟨rfl, below_drewN ((Below.refl _ _).alloc (Nat.le_refl _) _) _⟩

theorem check_any (a l : Int) (w : World) :
    Calls Try.prog 36 #[.agg #[.int .i64 a, .int .i64 l]] w fun e w' => e = .returned (.int .i64 (chk a l)) ∧ Below w.heap.size w w' := by
  unfold chk
  by_cases h : l < 0 ∨ 16 < l ∨ a < 0 ∨ 65535 < a
  · rw [if_pos h]
    exact check_out a l w h
  · rw [if_neg h]
    exact check_in a l w (by omega) (by omega) (by omega) (by omega)

end Go.Proofs.Ytbnkgecblaffeaa
