/- What Check of package space, and CheckSpace of package parcelwayref, come to. -/
import Derived.Test.YtbnkgecblaffeaaSa
namespace Go.Proofs.Ytbnkgecblaffeaa
open Go.RowKit

theorem check_is (a l : Int) (t : Bool) (h : (chk a l != 0) = t) (w : World) :
    Calls Try.prog 36 #[.agg #[.int .i64 a, .int .i64 l]] w fun e w' => (∃ v, e = .returned (.int .i64 v) ∧ (v != 0) = t) ∧ Below w.heap.size w w' :=
  (check_any a l w).mono fun _ _ ⟨he, hb⟩ => ⟨⟨_, he, h⟩, hb⟩
theorem apart_is (a l : Int) (x : Option Addr) (n c : Nat) (ps : List (Int × Int)) (t : Bool) (h : apartB a l ps = t) (w : World) (hp : PS w x n ps) (hn : n ≤ 32) :
    Calls Try.prog 37 #[.agg #[.int .i64 a, .int .i64 l, .slice x n c]] w fun e w' => e = .returned (.bool t) ∧ Below w.heap.size w w' := by
  subst h
  exact apart_any a l x n c ps w hp hn

set_option maxRecDepth 20000 in
set_option maxHeartbeats 800000 in
theorem checkS_many (a l : Int) (x : Option Addr) (n c : Nat) (w : World) (hn : 32 < n) :
    Calls Try.prog 13 #[.agg #[.int .i64 a, .int .i64 l, .slice x n c]] w fun e w' => e = .returned (.int .i64 2) ∧ Below w.heap.size w w' := by
  have hi : (32 : Int) < (n : Int) := by omega
  go_enter Try.func13, Try.ntmps13
  go_wp2
  go_ret
  exact ⟨rfl, bl1 _ _⟩

set_option maxRecDepth 20000 in
set_option maxHeartbeats 800000 in
theorem checkS_few (a l : Int) (x : Option Addr) (n c : Nat) (ps : List (Int × Int)) (w : World) (hp : PS w x n ps) (hn : n ≤ 32) :
    Calls Try.prog 13 #[.agg #[.int .i64 a, .int .i64 l, .slice x n c]] w fun e w' => e = .returned (.int .i64 (if rt a l && apartB a l ps then 0 else 1)) ∧ Below w.heap.size w w' := by
  have hi : ¬ (32 : Int) < (n : Int) := by omega
  cases hr : rt a l
  · have hne : (chk a l != 0) = true := ne_of_rt hr
    go_enter Try.func13, Try.ntmps13
    go_wp2_with (go_at_call 36; refine (check_any a l _).mono ?_; rintro e w1 ⟨rfl, hb1⟩)
    go_ret
    exact ⟨rfl, (bl1 w _).trans (hb1.mono (by simp))⟩
  · have hne : (chk a l != 0) = false := ne_of_rt hr
    cases hA : apartB a l ps
    all_goals go_enter Try.func13, Try.ntmps13
    all_goals go_wp2_with fail
    all_goals refine (check_any a l _).mono ?_
    all_goals rintro e w1 ⟨rfl, hb1⟩
    all_goals have hB := (bl1 w _).trans (hb1.mono (by simp))
    all_goals have e0 : w1.cell? ⟨w.heap.size, 0, none⟩ = some (.int .i64 a) := (hb1.cell (p := ⟨w.heap.size, 0, none⟩) (by simp)).trans (by simp)
    all_goals have e1 : w1.cell? ⟨w.heap.size, 1, none⟩ = some (.int .i64 l) := (hb1.cell (p := ⟨w.heap.size, 1, none⟩) (by simp)).trans (by simp)
    all_goals have e2 : w1.cell? ⟨w.heap.size, 2, none⟩ = some (.slice x n c) := (hb1.cell (p := ⟨w.heap.size, 2, none⟩) (by simp)).trans (by simp)
    all_goals go_wp2_with (go_at_call 37; refine (apart_is a l x n c ps _ hA _ (hp.later hB) hn).mono ?_; rintro e w2 ⟨rfl, hb2⟩)
    all_goals go_ret
    all_goals exact ⟨rfl, hB.trans (hb2.mono hB.size)⟩

theorem checkS_any (a l : Int) (x : Option Addr) (n c : Nat) (ps : List (Int × Int)) (w : World) (hp : n ≤ 32 → PS w x n ps) :
    Calls Try.prog 13 #[.agg #[.int .i64 a, .int .i64 l, .slice x n c]] w fun e w' => e = .returned (.int .i64 (chkS a l n ps)) ∧ Below w.heap.size w w' := by
  unfold chkS
  by_cases h : 32 < n
  · rw [if_pos h]
    exact checkS_many a l x n c w h
  · rw [if_neg h]
    exact checkS_few a l x n c ps w (hp (by omega)) (by omega)
end Go.Proofs.Ytbnkgecblaffeaa
