/- A part of the proof. -/
import Derived.WalkKit
import Derived.WalkSpells
import Derived.WalkLawsBesides
import Derived.Deep.RegionWith
import Derived.BigQuiet
import Derived.Deep.QuietTactic
import Derived.Test.YtndpilfpejfloaaGreatRows
import Derived.Deep.RegionHeld3
import Derived.Deep.DeepCutAuto
import Derived.RangeFuncNested
import Derived.RangeFuncBound
import Derived.RangeFuncCalls
import Derived.RangeFuncLeaves
import Derived.Shelf.Abstract
import Derived.Shelf.RegionOpen
import Derived.OwnWalkIn
import Derived.TacticsInMore
import Derived.LoopNIn
import Derived.LoopIn
import Derived.Laws.EntriesVeiled
import Derived.Lib.AppendZerosOnto
import Derived.Lib.AppendZeros
import Derived.Lib.Walk
import Derived.Laws.AppendOwnNone
import Derived.OwnWalk
import Derived.Laws.StructEq
import Derived.ProofKit
import Derived.OpenShut
import Derived.Carry
import Derived.Deep.SlicePairs
import Derived.Deep.DeepHandedRow
import Derived.Lib.SmallJoins
import Derived.Deep.RegionLaw
import Derived.Lib.MinMax
import Derived.OrdersHeld
import Derived.StillTail
import Derived.Lib.SliceRun
import Derived.Laws.AppendOwn
import Derived.Laws.CopyRow
import Derived.Deep.DeepAppendRoom
import Derived.Deep.Slices
import Derived.Maps.OwnOps
import Derived.Maps.RangeWalk
import Derived.Maps.Views
import Derived.SizedLaws
import Derived.ChangeMaps5
import Derived.Deep.OwnRows
import Derived.DeepKeys4
import Derived.Maps.Keyed
import Derived.Maps.OwnSet
import Derived.Deep.CutBlock
set_option maxRecDepth 100000
set_option maxHeartbeats 3200000
namespace Go.Proofs.YtndpilfpejfloaaGreat
variable {n b o k h i yl : Nat} {w W w1 w' A B X Y V : World} {v p q : Value} {P : Program} {Q Q' : Exit → Act → World → Prop} {a l m e c z : Int} {ops : Array Oper} {C : World → Prop} {args tmps : Array Value} {t : TypeId} {x : Option Addr} {ps H : List (Int × Int)} {L' : List Nat} {row : Option Nat} {f : Nat → Bool}
open Go.RowKit
structure Ws (n : Nat) (w : World) : Type where
 val : World
 property : Below n w val
@[simp] theorem Ws.all_const (n : Nat) (w : World) (p : Prop) : (Ws n w → p) ↔ p := ⟨fun h => h ⟨w, Below.refl _ _⟩, fun h _ => h⟩
theorem Ws.cell {v : Option Value} (hb : b < n) (h : w.cell? ⟨b, o, none⟩ = v) (u : Ws n w) : u.val.cell? ⟨b, o, none⟩ = v :=
 (u.property.cell (p := ⟨b, o, none⟩) hb).trans h
theorem aI {id : Nat} {a : Act} (n : Nat) {l : List Oper} (hm : P.follows .mixedOrders = true) (hB : Region.lexB .any l.toArray = true)
  (h : wpQuiet P l.toArray (fun w' => ∃ u : Ws n w, w' = u.val) (fun a' => ∀ w', (∃ u : Ws n w, w' = u.val) → Q .normal a' w') l a) : (Code.region id l.toArray true).wp P Q a w :=
 wp_region_quiet (C := fun w' => ∃ u : Ws n w, w' = u.val) hm hB ⟨⟨_, (Below.refl n w).drew⟩, rfl⟩ (by simpa using h)
theorem L6 {a : Act} (n k : Nat) {ops l : List Oper} {listed : Array Bool} {m : Nat} (hs : Region.noSelect ops.toArray = true)
  (hl : ops.drop k = l) (hm : l.length = m) (hB : Region.lexFrom .any ops.toArray l.length k listed = true)
  (h : wpQuiet P ops.toArray (fun w' => ∃ u : Ws n w, w' = u.val) (fun a' => ∀ w', (∃ u : Ws n w, w' = u.val) → Q .normal a' w') l a) : wpAny P .any ops.toArray Q m listed a w := by
 subst hm
 refine wpAny_of_quiet (Q := fun a' => ∀ w', (∃ u : Ws n w, w' = u.val) → Q .normal a' w') (fun _ w' hw' h => h w' hw') _ _ _ _ ⟨⟨w, Below.refl _ _⟩, rfl⟩ ?_
 refine wpAnyQ_lex hs l k listed a (fun j => ?_) hB h
 rw [← hl]
 simp
theorem eX {Q : Act → Prop} (hQ : ∀ a w, C w → Q a → Q' .normal a w) :
  ∀ (l : List Oper) (a : Act) (w : World), C w → wpQuiet P ops C Q l a → wpList P ops Q' l a w
 | [], a, w, hw, h => hQ a w hw h
 | o :: rest, a, w, hw, h => by
  unfold wpQuiet at h
  unfold wpList
  by_cases hg : Region.wanted o (yielded ops a.tmps) = true
  ·rw [if_pos hg] at h
   rw [if_pos hg]
   exact .inl (Oper.wp_of_quiet hw (fun a' w' hw' h' => eX hQ rest a' w' hw' h') h)
  ·rw [if_neg hg] at h
   rw [if_neg hg]
   exact eX hQ rest _ w hw h
theorem fP {id : Nat} {a : Act} (n : Nat) {l : List Oper}
  (h : wpQuiet P l.toArray (fun w' => ∃ u : Ws n w, w' = u.val) (fun a' => ∀ w', (∃ u : Ws n w, w' = u.val) → Q .normal a' w') l a) : (Code.region id l.toArray false).wp P Q a w :=
 wp_region_lit (eX (Q := fun a' => ∀ w', (∃ u : Ws n w, w' = u.val) → Q .normal a' w') (fun _ w' hw' h => h w' hw') l a w ⟨⟨w, Below.refl _ _⟩, rfl⟩ h)
theorem Calls.in_ws {f : FuncId} {u : Ws n w} (hn : n ≤ w.heap.size)
  (h : Calls P f args u.val fun e w' => e = .returned v ∧ Below u.val.heap.size u.val w') : Calls P f args u.val fun e w'' => e = .returned v ∧ ∃ u' : Ws n w, w'' = u'.val :=
 h.mono fun _ w' ⟨he, hb⟩ => ⟨he, ⟨w', u.property.trans (hb.mono (Nat.le_trans hn u.property.size))⟩, rfl⟩
theorem Calls.in_ws_same {f : FuncId} {u : Ws n w}
  (h : Calls P f args u.val fun e w' => e = .returned v ∧ w' = u.val) : Calls P f args u.val fun e w'' => e = .returned v ∧ ∃ u' : Ws n w, w'' = u'.val :=
 h.mono fun _ _ ⟨he, hb⟩ => ⟨he, u, hb⟩
theorem UT (hb : Below W.heap.size W w1) : (∀ b o, b < W.heap.size → w1.cell? ⟨b, o, none⟩ = W.cell? ⟨b, o, none⟩) ∧ (∀ b o, b < W.heap.size → w1.frozen? ⟨b, o, none⟩ = W.frozen? ⟨b, o, none⟩) :=
 ⟨fun b o h => hb.cell (p := ⟨b, o, none⟩) h, fun b o h => hb.frozen (p := ⟨b, o, none⟩) h⟩
def sp (l : Int) : Int := if l = 0 then 65536 else if l = 1 then 32768 else if l = 2 then 16384 else if l = 3 then 8192 else if l = 4 then 4096 else if l = 5 then 2048 else if l = 6 then 1024 else if l = 7 then 512 else if l = 8 then 256 else if l = 9 then 128 else if l = 10 then 64 else if l = 11 then 32 else if l = 12 then 16 else if l = 13 then 8 else if l = 14 then 4 else if l = 15 then 2 else 1
theorem l_cases (l : Int) (h0 : 0 ≤ l) (h1 : l ≤ 16) : l = 0 ∨ l = 1 ∨ l = 2 ∨ l = 3 ∨ l = 4 ∨ l = 5 ∨ l = 6 ∨ l = 7 ∨ l = 8 ∨ l = 9 ∨ l = 10 ∨ l = 11 ∨ l = 12 ∨ l = 13 ∨ l = 14 ∨ l = 15 ∨ l = 16 := by omega
theorem span_any (l : Int) (w : World) (h0 : 0 ≤ l) (h1 : l ≤ 16) :
  Calls Tryz.prog 23 #[.int .i64 l] w fun e w' => e = .returned (.int .i64 (sp l)) ∧ w' = w := by
 rcases l_cases l h0 h1 with rfl | rfl | rfl | rfl | rfl | rfl | rfl | rfl | rfl | rfl | rfl | rfl | rfl | rfl | rfl | rfl | rfl
 all_goals clear h0 h1
 all_goals go_enter Tryz.func23, Tryz.ntmps23
 all_goals go_wp2
 all_goals go_ret
 all_goals exact ⟨rfl, rfl⟩
def chk (a l : Int) : Int := if l < 0 ∨ 16 < l ∨ a < 0 ∨ 65535 < a then 3 else if a % sp l = 0 then 0 else 1
theorem cG (l : Int) : 0 < sp l := by unfold sp; (repeat' split) <;> omega
theorem RU (l : Int) : sp l ≤ 65536 := by unfold sp; (repeat' split) <;> omega
theorem I9 (a l : Int) (w : World) (h : l < 0 ∨ 16 < l ∨ a < 0 ∨ 65535 < a) :
  Calls Tryz.prog 35 #[.agg #[.int .i64 a, .int .i64 l]] w fun e w' => e = .returned (.int .i64 3) ∧ Below w.heap.size w w' := by
 by_cases h1 : l < 0
 ·clear h
  go_enter Tryz.func35, Tryz.ntmps35
  go_wp2
  go_ret
  exact ⟨rfl, (Below.refl _ _).alloc (Nat.le_refl _) _⟩
 ·by_cases h2 : 16 < l
  ·clear h
   go_enter Tryz.func35, Tryz.ntmps35
   go_wp2
   go_ret
   exact ⟨rfl, (Below.refl _ _).alloc (Nat.le_refl _) _⟩
  ·by_cases h3 : a < 0
   ·clear h
    go_enter Tryz.func35, Tryz.ntmps35
    go_wp2
    go_ret
    exact ⟨rfl, (Below.refl _ _).alloc (Nat.le_refl _) _⟩
   ·have h4 : 65535 < a := by omega
    clear h
    go_enter Tryz.func35, Tryz.ntmps35
    go_wp2
    go_ret
    exact ⟨rfl, (Below.refl _ _).alloc (Nat.le_refl _) _⟩
theorem L7 (a l : Int) (w : World) (h0 : 0 ≤ l) (h1 : l ≤ 16) (h2 : 0 ≤ a) (h3 : a ≤ 65535) :
  Calls Tryz.prog 35 #[.agg #[.int .i64 a, .int .i64 l]] w fun e w' => e = .returned (.int .i64 (if a % sp l = 0 then 0 else 1)) ∧ Below w.heap.size w w' := by
 have hp := cG l
 have hz : sp l ≠ 0 := by omega
 by_cases hm : a % sp l = 0
 ·rw [if_pos hm]
  have hb : (a % sp l != 0) = false := by simp [hm]
  clear hm
  go_enter Tryz.func35, Tryz.ntmps35
  go_wp2
  go_quiet ((go_at_call 23; exact Calls.quiet_of_same (span_any _ _ (by omega) (by omega))))
  go_wp2
  go_ret
  exact ⟨rfl, below_drewN ((Below.refl _ _).alloc (Nat.le_refl _) _) _⟩
 ·rw [if_neg hm]
  have hb : (a % sp l != 0) = true := by simp [hm]
  clear hm
  go_enter Tryz.func35, Tryz.ntmps35
  go_wp2
  go_quiet ((go_at_call 23; exact Calls.quiet_of_same (span_any _ _ (by omega) (by omega))))
  go_wp2
  go_ret
  exact ⟨rfl, below_drewN ((Below.refl _ _).alloc (Nat.le_refl _) _) _⟩
theorem check_any (a l : Int) (w : World) :
  Calls Tryz.prog 35 #[.agg #[.int .i64 a, .int .i64 l]] w fun e w' => e = .returned (.int .i64 (chk a l)) ∧ Below w.heap.size w w' := by
 unfold chk
 by_cases h : l < 0 ∨ 16 < l ∨ a < 0 ∨ 65535 < a
 ·rw [if_pos h]
  exact I9 a l w h
 ·rw [if_neg h]
  exact L7 a l w (by omega) (by omega) (by omega) (by omega)
def rt (a l : Int) : Bool := chk a l == 0
theorem right1 (b : Nat) (a l : Int) (w : World) (hb : b < w.heap.size) (hc0 : w.cell? ⟨b, 0, none⟩ = some (.int .i64 a)) (hc1 : w.cell? ⟨b, 1, none⟩ = some (.int .i64 l)) :
  Calls Tryz.prog 22 #[.slice (some ⟨b, 0, none⟩) 1 1] w fun e w' => e = .returned (.bool (rt a l)) ∧ Below w.heap.size w w' := by
 go_enter Tryz.func22, Tryz.ntmps22
 go_wp2
 go_loopw [7] (fun i wr => ∃ k : Nat, k ≤ 1 ∧ i = .int .i64 k ∧ Below w.heap.size w wr ∧ (k = 1 → rt a l = true)) (fun i _ => 1 - (intOf i).toNat)
 case atStart => exact ⟨0, by omega, rfl, Below.refl _ _, by omega⟩
 case round =>
  obtain ⟨k, hk, rfl, hB, hr⟩ := hrel
  have c0 : wr.cell? ⟨b, 0, none⟩ = some (.int .i64 a) := (hB.cell (p := ⟨b, 0, none⟩) hb).trans hc0
  have c1 : wr.cell? ⟨b, 1, none⟩ = some (.int .i64 l) := (hB.cell (p := ⟨b, 1, none⟩) hb).trans hc1
  have hk01 : k = 0 ∨ k = 1 := by omega
  clear hc0 hc1
  rcases hk01 with rfl | rfl
  ·cases hrt : rt a l
   ·have hne : (chk a l != 0) = true := by unfold rt at hrt; simpa [bne] using hrt
    clear hr
    go_wp2_with (go_at_call 35; refine (check_any _ _ _).mono ?_; rintro e w1 ⟨rfl, hb1⟩)
    go_ret
    exact ⟨by rw [hrt]; rfl, hB.trans (((Below.refl _ _).alloc hB.size _).trans (hb1.mono (by simp; have := hB.size; omega)))⟩
   ·have hne : (chk a l != 0) = false := by unfold rt at hrt; simpa [bne] using hrt
    clear hr
    go_wp2_with (go_at_call 35; refine (check_any _ _ _).mono ?_; rintro e w1 ⟨rfl, hb1⟩)
    go_roundw
    case rel => exact ⟨1, by omega, rfl, hB.trans (((Below.refl _ _).alloc hB.size _).trans (hb1.mono (by simp; have := hB.size; omega))), fun _ => trivial⟩
    case measure => simp [intOf]
  ·have hr1 := hr rfl
   rw [hr1]
   go_wp2
   go_ret
   exact ⟨rfl, hB⟩
theorem lJ {t : Bool} (h : rt a l = t) : (chk a l != 0) = !t := by
 unfold rt at h
 simp [bne, h]
theorem SD (b : Nat) (a l c m : Int) (w : World) (hb : b < w.heap.size) (hc0 : w.cell? ⟨b, 0, none⟩ = some (.int .i64 a)) (hc1 : w.cell? ⟨b, 1, none⟩ = some (.int .i64 l))
  (hc2 : w.cell? ⟨b, 2, none⟩ = some (.int .i64 c)) (hc3 : w.cell? ⟨b, 3, none⟩ = some (.int .i64 m)) :
  Calls Tryz.prog 22 #[.slice (some ⟨b, 0, none⟩) 2 2] w fun e w' => e = .returned (.bool (rt a l && rt c m)) ∧ Below w.heap.size w w' := by
 go_enter Tryz.func22, Tryz.ntmps22
 go_wp2
 go_loopw [7] (fun i wr => ∃ k : Nat, k ≤ 2 ∧ i = .int .i64 k ∧ Below w.heap.size w wr ∧ (1 ≤ k → rt a l = true) ∧ (2 ≤ k → rt c m = true)) (fun i _ => 2 - (intOf i).toNat)
 case atStart => exact ⟨0, by omega, rfl, Below.refl _ _, by omega, by omega⟩
 case round =>
  obtain ⟨k, hk, rfl, hB, hr, hr2⟩ := hrel
  have c0 : wr.cell? ⟨b, 0, none⟩ = some (.int .i64 a) := (hB.cell (p := ⟨b, 0, none⟩) hb).trans hc0
  have c1 : wr.cell? ⟨b, 1, none⟩ = some (.int .i64 l) := (hB.cell (p := ⟨b, 1, none⟩) hb).trans hc1
  have c2 : wr.cell? ⟨b, 2, none⟩ = some (.int .i64 c) := (hB.cell (p := ⟨b, 2, none⟩) hb).trans hc2
  have c3 : wr.cell? ⟨b, 3, none⟩ = some (.int .i64 m) := (hB.cell (p := ⟨b, 3, none⟩) hb).trans hc3
  have hk01 : k = 0 ∨ k = 1 ∨ k = 2 := by omega
  clear hc0 hc1 hc2 hc3
  rcases hk01 with rfl | rfl | rfl
  ·cases hrt : rt a l
   ·have hne : (chk a l != 0) = true := lJ hrt
    clear hr hr2
    go_wp2_with (go_at_call 35; refine (check_any _ _ _).mono ?_; rintro e w1 ⟨rfl, hb1⟩)
    go_ret
    exact ⟨by rw [hrt]; rfl, hB.trans (((Below.refl _ _).alloc hB.size _).trans (hb1.mono (by simp; have := hB.size; omega)))⟩
   ·have hne : (chk a l != 0) = false := lJ hrt
    clear hr hr2
    go_wp2_with (go_at_call 35; refine (check_any _ _ _).mono ?_; rintro e w1 ⟨rfl, hb1⟩)
    go_roundw
    case rel => exact ⟨1, by omega, rfl, hB.trans (((Below.refl _ _).alloc hB.size _).trans (hb1.mono (by simp; have := hB.size; omega))), fun _ => trivial, by omega⟩
    case measure => simp [intOf]
  ·have hr1 := hr (by omega)
   cases hrt : rt c m
   ·have hne : (chk c m != 0) = true := lJ hrt
    clear hr hr2
    go_wp2_with (go_at_call 35; refine (check_any _ _ _).mono ?_; rintro e w1 ⟨rfl, hb1⟩)
    go_ret
    exact ⟨by rw [hr1, hrt]; rfl, hB.trans (((Below.refl _ _).alloc hB.size _).trans (hb1.mono (by simp; have := hB.size; omega)))⟩
   ·have hne : (chk c m != 0) = false := lJ hrt
    clear hr hr2
    go_wp2_with (go_at_call 35; refine (check_any _ _ _).mono ?_; rintro e w1 ⟨rfl, hb1⟩)
    go_roundw
    case rel => exact ⟨2, by omega, rfl, hB.trans (((Below.refl _ _).alloc hB.size _).trans (hb1.mono (by simp; have := hB.size; omega))), fun _ => hr1, fun _ => trivial⟩
    case measure => simp [intOf]
  ·have hr1 := hr (by omega)
   have hr3 := hr2 (by omega)
   go_wp2
   go_ret
   exact ⟨by rw [hr1, hr3]; rfl, hB⟩
theorem bH (h : rt a l = true) : 0 ≤ l ∧ l ≤ 16 ∧ 0 ≤ a ∧ a ≤ 65535 ∧ a % sp l = 0 := by
 unfold rt chk at h
 by_cases g : l < 0 ∨ 16 < l ∨ a < 0 ∨ 65535 < a
 ·rw [if_pos g] at h; simp at h
 ·rw [if_neg g] at h
  by_cases g2 : a % sp l = 0
  ·exact ⟨by omega, by omega, by omega, by omega, g2⟩
  ·rw [if_neg g2] at h; simp at h
theorem L8 (a l : Int) (w : World) :
  Calls Tryz.prog 225 #[.agg #[.int .i64 a, .int .i64 l]] w fun e w' => e = .returned (.int .i64 (if rt a l then sp l else 0)) ∧ Below w.heap.size w w' := by
 cases hrt : rt a l
 ·go_enter Tryz.func225, Tryz.ntmps225
  go_wp2_with (go_at_call 22; refine (right1 (w.heap.size + 1) a l _ (by simp) (by simp) (by simp)).mono ?_; rintro e w1 ⟨rfl, hb1⟩)
  go_ret
  exact ⟨rfl, (((Below.refl _ _).alloc (Nat.le_refl _) _).alloc (by simp) _).trans (hb1.mono (by simp; omega))⟩
 ·obtain ⟨h0, h1, -, -, -⟩ := bH hrt
  go_enter Tryz.func225, Tryz.ntmps225
  go_wp2_with fail
  refine (right1 (w.heap.size + 1) a l _ (by simp) (by simp) (by simp)).mono ?_
  rintro e w1 ⟨rfl, hb1⟩
  rw [hrt]
  have hc1 : w1.cell? ⟨w.heap.size, 1, none⟩ = some (.int .i64 l) := (hb1.cell (p := ⟨w.heap.size, 1, none⟩) (by simp; omega)).trans (by simp)
  go_wp2_with (go_at_call 23; refine (span_any _ _ (by omega) (by omega)).mono ?_; rintro e w2 ⟨rfl, rfl⟩)
  go_ret
  exact ⟨rfl, (((Below.refl _ _).alloc (Nat.le_refl _) _).alloc (by simp) _).trans (hb1.mono (by simp; omega))⟩
def qO (a l x : Int) : Bool := rt a l && decide (a ≤ x) && decide (x < a + sp l)
theorem holds_any (a l x : Int) (w : World) :
  Calls Tryz.prog 11 #[.agg #[.int .i64 a, .int .i64 l], .int .i64 x] w fun e w' => e = .returned (.bool (qO a l x)) ∧ Below w.heap.size w w' := by
 unfold qO
 go_enter Tryz.func11, Tryz.ntmps11
 go_wp2
 refine wp_region_any (by kernel_rfl) ?_
 change wpAny _ _ _ _ _ _ _ (World.drew _)
 refine wpAny_ready (rs := [0]) (by kernel_rfl) (by simp) ?_
 refine AllReady.cons rfl (fun K hK => ?_) AllReady.nil
 go_simp
 refine hK _ _ ?_
 clear hK K
 refine wpAny_ready (rs := [1]) (by kernel_rfl) (by simp) ?_
 refine AllReady.cons rfl (fun K hK => ?_) AllReady.nil
 go_simp
 refine hK _ _ ?_
 clear hK K
 refine wpAny_ready (rs := [2]) (by kernel_rfl) (by simp) ?_
 refine AllReady.cons rfl (fun K hK => ?_) AllReady.nil
 go_simp
 refine (right1 (w.heap.size + 1) a l _ (by simp) (by simp) (by simp)).mono ?_
 rintro e w1 ⟨rfl, hb1⟩
 refine hK _ _ ?_
 clear hK K
 have e0 : w1.cell? ⟨w.heap.size, 0, none⟩ = some (.int .i64 a) := (hb1.cell (p := ⟨w.heap.size, 0, none⟩) (by simp; omega)).trans (by simp)
 have e1 : w1.cell? ⟨w.heap.size, 1, none⟩ = some (.int .i64 l) := (hb1.cell (p := ⟨w.heap.size, 1, none⟩) (by simp; omega)).trans (by simp)
 have hz1 := hb1.size
 simp at hz1
 have d0 := Ws.cell (n := w.heap.size + 1) (w := w1) (by omega) e0
 have d1 := Ws.cell (n := w.heap.size + 1) (w := w1) (by omega) e1
 refine L6 (w.heap.size + 1) 3 (by kernel_rfl) rfl rfl (by kernel_rfl) ?_
 simp only [List.drop_succ_cons, List.drop_zero]
 have hB : Below w.heap.size w w1 := ((((Below.refl _ _).alloc (Nat.le_refl _) _).alloc (by simp) _).drew).trans (hb1.mono (by simp; omega))
 clear hb1 hz1 e0 e1
 cases hrt : rt a l
 ·repeat (go_big_quiet_step (fail))
  refine wpQuiet_nil ?_
  rintro _ ⟨u, rfl⟩
  have hu := hB.trans (u.property.mono (Nat.le_succ _))
  go_wp2
  go_ret
  exact ⟨by rw [hrt]; rfl, hu⟩
 ·obtain ⟨h0, h1, h2, h3, -⟩ := bH hrt
  have hp := RU l
  have hp2 := cG l
  by_cases hax : a ≤ x
  ·repeat (go_big_quiet_step ((go_at_call 23; exact Calls.in_ws_same (span_any _ _ (by omega) (by omega)))))
   refine wpQuiet_nil ?_
   rintro _ ⟨u, rfl⟩
   have hu := hB.trans (u.property.mono (Nat.le_succ _))
   go_wp2
   go_ret
   exact ⟨by rw [hrt, decide_eq_true hax]; rfl, hu⟩
  ·have hd : decide (a ≤ x) = false := by simpa using hax
   repeat (go_big_quiet_step (fail))
   refine wpQuiet_nil ?_
   rintro _ ⟨u, rfl⟩
   have hu := hB.trans (u.property.mono (Nat.le_succ _))
   go_wp2
   go_ret
   exact ⟨by first | (rw [hrt, hd]; rfl) | rfl, hu⟩
def iZ (a l c m : Int) : Bool := rt a l && rt c m && decide (m ≤ l) && qO c m a
theorem inside_any (a l c m : Int) (w : World) :
  Calls Tryz.prog 26 #[.agg #[.int .i64 a, .int .i64 l], .agg #[.int .i64 c, .int .i64 m]] w fun e w' => e = .returned (.bool (iZ a l c m)) ∧ Below w.heap.size w w' := by
 unfold iZ
 go_enter Tryz.func26, Tryz.ntmps26
 go_wp2_with fail
 refine (SD (w.heap.size + 1 + 1) a l c m _ (by simp) (by go_simp) (by go_simp) (by go_simp) (by go_simp)).mono ?_
 rintro e w1 ⟨rfl, hb1⟩
 have e0 : w1.cell? ⟨w.heap.size, 0, none⟩ = some (.int .i64 a) := (hb1.cell (p := ⟨w.heap.size, 0, none⟩) (by simp; omega)).trans (by go_simp)
 have e1 : w1.cell? ⟨w.heap.size, 1, none⟩ = some (.int .i64 l) := (hb1.cell (p := ⟨w.heap.size, 1, none⟩) (by simp; omega)).trans (by go_simp)
 have e2 : w1.cell? ⟨w.heap.size + 1, 0, none⟩ = some (.int .i64 c) := (hb1.cell (p := ⟨w.heap.size + 1, 0, none⟩) (by simp)).trans (by go_simp)
 have e3 : w1.cell? ⟨w.heap.size + 1, 1, none⟩ = some (.int .i64 m) := (hb1.cell (p := ⟨w.heap.size + 1, 1, none⟩) (by simp)).trans (by go_simp)
 have hB : Below w.heap.size w w1 := ((((Below.refl _ _).alloc (Nat.le_refl _) _).alloc (by simp) _).alloc (by simp; omega) _).trans (hb1.mono (by simp; omega))
 clear hb1
 cases hrt : (rt a l && rt c m)
 ·go_wp2
  go_ret
  exact ⟨by rw [hrt]; rfl, hB⟩
 ·by_cases hml : m ≤ l
  ·go_wp2_with (go_at_call 11; refine (holds_any _ _ _ _).mono ?_; rintro e w2 ⟨rfl, hb2⟩)
   go_ret
   exact ⟨by rw [hrt, decide_eq_true hml]; rfl, hB.trans (hb2.mono hB.size)⟩
  ·have hd : decide (m ≤ l) = false := by simpa using hml
   go_wp2
   go_ret
   exact ⟨by rw [hrt, hd]; rfl, hB⟩
def gF (a l c m : Int) : Bool := iZ a l c m || iZ c m a l
theorem meets_any (a l c m : Int) (w : World) :
  Calls Tryz.prog 15 #[.agg #[.int .i64 a, .int .i64 l], .agg #[.int .i64 c, .int .i64 m]] w fun e w' => e = .returned (.bool (gF a l c m)) ∧ Below w.heap.size w w' := by
 unfold gF
 go_enter Tryz.func15, Tryz.ntmps15
 go_wp2_with fail
 refine (inside_any a l c m _).mono ?_
 rintro e w1 ⟨rfl, hb1⟩
 have e0 : w1.cell? ⟨w.heap.size, 0, none⟩ = some (.int .i64 a) := (hb1.cell (p := ⟨w.heap.size, 0, none⟩) (by simp; omega)).trans (by simp)
 have e1 : w1.cell? ⟨w.heap.size, 1, none⟩ = some (.int .i64 l) := (hb1.cell (p := ⟨w.heap.size, 1, none⟩) (by simp; omega)).trans (by simp)
 have e2 : w1.cell? ⟨w.heap.size + 1, 0, none⟩ = some (.int .i64 c) := (hb1.cell (p := ⟨w.heap.size + 1, 0, none⟩) (by simp)).trans (by simp)
 have e3 : w1.cell? ⟨w.heap.size + 1, 1, none⟩ = some (.int .i64 m) := (hb1.cell (p := ⟨w.heap.size + 1, 1, none⟩) (by simp)).trans (by simp)
 have hB : Below w.heap.size w w1 := (((Below.refl _ _).alloc (Nat.le_refl _) _).alloc (by simp) _).trans (hb1.mono (by simp; omega))
 clear hb1
 cases hrt : iZ a l c m
 ·go_wp2_with (go_at_call 26; refine (inside_any _ _ _ _ _).mono ?_; rintro e w2 ⟨rfl, hb2⟩)
  go_ret
  exact ⟨by rw [hrt]; rfl, hB.trans (hb2.mono hB.size)⟩
 ·go_wp2
  go_ret
  exact ⟨by rw [hrt]; rfl, hB⟩
theorem AG (l : Int) (h0 : 0 ≤ l) (h1 : l ≤ 16) : sp l = (2 : Int) ^ (16 - l).toNat := by
 rcases l_cases l h0 h1 with rfl | rfl | rfl | rfl | rfl | rfl | rfl | rfl | rfl | rfl | rfl | rfl | rfl | rfl | rfl | rfl | rfl <;> decide
theorem lB (h0 : 0 ≤ m) (h1 : m ≤ l) (h2 : l ≤ 16) : sp l ∣ sp m := by
 rw [AG l (by omega) h2, AG m h0 (by omega)]
 have h : (16 - m).toNat = (16 - l).toNat + (l - m).toNat := by omega
 rw [h, Int.pow_add]
 exact Int.dvd_mul_right _ _
theorem BN (h0 : 0 ≤ m) (h1 : m ≤ l) (h2 : l ≤ 16) : sp l ≤ sp m :=
 Int.le_of_dvd (cG m) (lB h0 h1 h2)
theorem JA (h0 : 0 ≤ l) (h1 : l < m) (h2 : m ≤ 16) : 2 * sp m ≤ sp l := by
 have h := BN (l := l + 1) (m := l + 1) (by omega) (by omega) (by omega)
 have h3 := BN (l := m) (m := l + 1) (by omega) (by omega) h2
 have h4 : sp l = 2 * sp (l + 1) := by
  rw [AG l h0 (by omega), AG (l + 1) (by omega) (by omega)]
  have : (16 - l).toNat = (16 - (l + 1)).toNat + 1 := by omega
  rw [this, Int.pow_succ]
  omega
 omega
theorem rP {s : Int} (hs : 0 < s) (ha : s ∣ a) (he : s ∣ e) (h : a < e) : a + s ≤ e := by
 obtain ⟨x, rfl⟩ := ha
 obtain ⟨y, rfl⟩ := he
 have hxy : x < y := Int.lt_of_mul_lt_mul_left h (Int.le_of_lt hs)
 have h1 : s * (x + 1) ≤ s * y := Int.mul_le_mul_of_nonneg_left (by omega) (Int.le_of_lt hs)
 rw [Int.mul_add, Int.mul_one] at h1
 exact h1
theorem IB (a l c m : Int) (h1 : rt a l = true) (h2 : rt c m = true) : iZ a l c m = (qO c m a && qO c m (a + sp l - 1)) := by
 obtain ⟨l0, l1, a0, a1, ad⟩ := bH h1
 obtain ⟨m0, m1, c0, c1, cd⟩ := bH h2
 have pl := cG l
 have pm := cG m
 unfold iZ qO
 rw [h1, h2]
 rw [Bool.eq_iff_iff]
 simp only [Bool.true_and, Bool.and_eq_true, decide_eq_true_eq]
 constructor
 ·rintro ⟨hml, h3, h4⟩
  have hd := lB m0 hml l1
  have := rP pl (Int.dvd_of_emod_eq_zero ad) (Int.dvd_add (Int.dvd_trans hd (Int.dvd_of_emod_eq_zero cd)) hd) h4
  omega
 ·rintro ⟨⟨h3, h4⟩, h5, h6⟩
  refine ⟨?_, h3, h4⟩
  by_cases hml : m ≤ l
  ·exact hml
  ·have := JA l0 (by omega) m1
   omega
theorem IC (a l c m : Int) (h1 : rt a l = true) (h2 : rt c m = true) : gF a l c m = (decide (a ≤ c + sp m - 1) && decide (c ≤ a + sp l - 1)) := by
 obtain ⟨l0, l1, a0, a1, ad⟩ := bH h1
 obtain ⟨m0, m1, c0, c1, cd⟩ := bH h2
 have pl := cG l
 have pm := cG m
 unfold gF iZ qO
 rw [h1, h2]
 rw [Bool.eq_iff_iff]
 simp only [Bool.true_and, Bool.and_eq_true, Bool.or_eq_true, decide_eq_true_eq]
 constructor
 ·rintro (⟨hml, h3, h4⟩ | ⟨hml, h3, h4⟩) <;> omega
 ·rintro ⟨h3, h4⟩
  by_cases hml : m ≤ l
  ·left
   refine ⟨hml, ?_, by omega⟩
   have hd := lB m0 hml l1
   by_cases hca : c ≤ a
   ·exact hca
   ·have := rP pl (Int.dvd_of_emod_eq_zero ad) (Int.dvd_trans hd (Int.dvd_of_emod_eq_zero cd)) (by omega)
    omega
  ·right
   refine ⟨by omega, ?_, by omega⟩
   have hd := lB l0 (show l ≤ m by omega) m1
   by_cases hca : a ≤ c
   ·exact hca
   ·have := rP pm (Int.dvd_of_emod_eq_zero cd) (Int.dvd_trans hd (Int.dvd_of_emod_eq_zero ad)) (by omega)
    omega
def dH (x lo hi : Int) : Bool := decide (lo ≤ x) && decide (x ≤ hi)
theorem bl1 (w : World) (o : Obj) : Below w.heap.size w (w.alloc o) := (Below.refl _ _).alloc (Nat.le_refl _) _
theorem cB (w : World) (o p : Obj) : Below w.heap.size w ((w.alloc o).alloc p) := (bl1 w o).alloc (by simp) _
theorem aH {a b : Bool} (h : a = b) : Ending.returned (.bool a) = .returned (.bool b) := by rw [h]
theorem cN {b : Int} (h : a = b) : Ending.returned (.int .i64 a) = .returned (.int .i64 b) := by rw [h]
theorem JB (h : rt a l = true) : chk a l = 0 := by unfold rt at h; simpa using h
theorem aX {b' o' : Nat} (h : b ≠ b') : (w.setCell ⟨b', o', none⟩ v).cell? ⟨b, o, none⟩ = w.cell? ⟨b, o, none⟩ :=
 World.cell?_of_block (Below.heap_setCell _ _ _ _ h)
theorem JC {p : Addr} : w.drew.cell? p = w.cell? p := rfl
theorem JD (a l : Int) (w : World) (h : rt a l = true) (h16 : l < 16) :
  Calls Tryz.prog 230 #[.agg #[.int .i64 a, .int .i64 l]] w fun e w' => e = .returned (.tuple #[.agg #[.int .i64 a, .int .i64 (l + 1)], .agg #[.int .i64 (a + sp (l + 1)), .int .i64 (l + 1)], .int .i64 0]) ∧ Below w.heap.size w w' := by
 have hc0 := JB h
 have hb : (chk a l == 0) = true := by simp [hc0]
 have hb2 : (chk a l != 0) = false := by simp [hc0]
 have hl : (l == 16) = false := by simp; omega
 clear hc0
 obtain ⟨l0, l1, a0, a1, -⟩ := bH h
 have hp := cG (l + 1)
 have hq := RU (l + 1)
 go_enter Tryz.func230, Tryz.ntmps230
 go_wp2_with fail
 refine (check_any a l _).mono ?_
 rintro e w1 ⟨rfl, hb1⟩
 obtain ⟨hc, hf⟩ := UT hb1
 simp only [World.size_alloc] at hc hf
 have hB : Below w.heap.size w w1 := ((cB w _ _).alloc (by simp; omega) _).trans (hb1.mono (by simp; omega))
 clear hb1
 have e0 : w1.cell? ⟨w.heap.size, 0, none⟩ = some (.int .i64 a) := (hc _ _ (by omega)).trans (by go_simp)
 have e1 : w1.cell? ⟨w.heap.size, 1, none⟩ = some (.int .i64 l) := (hc _ _ (by omega)).trans (by go_simp)
 go_wp2
 go_region_held3 (fun w' => w'.cell? ⟨w.heap.size, 0, none⟩ = some (.int .i64 a)) (first | (go_keep; done) | (show World.cell? _ _ = _; rw [JC]; (repeat rw [aX (by omega)]); assumption)) (first | (go_at_call 23; refine (span_any _ _ (by omega) (by omega)).mono ?_; rintro e w2 ⟨rfl, rfl⟩) | fail)
 have hwr : IntKind.i64.wrap (a + sp (l + 1)) = a + sp (l + 1) := by rw [IntKind.wrap_i64]; omega
 rw [hwr]
 go_wp2
 refine bodyPost_ret (v := .tuple #[.agg #[.int .i64 a, .int .i64 (l + 1)], .agg #[.int .i64 (a + sp (l + 1)), .int .i64 (l + 1)], .int .i64 0]) (by simp [results, Tryz.results230, go_sem, hc]) rfl ⟨rfl, ?_⟩
 exact ((((hB.setCell (by simp) _).setCell (by simp) _).setCell (by simp; omega) _).setCell (by simp; omega) _).drew
def dA (ps : List (Int × Int)) (i : Nat) : Int := (ps.getD i (0, 0)).1
def eA (ps : List (Int × Int)) (i : Nat) : Int := (ps.getD i (0, 0)).2
structure PS (w : World) (x : Option Addr) (n : Nat) (ps : List (Int × Int)) : Prop where
 len : ps.length = n
 cells : ∀ i, i < n → ∃ b o, x = some ⟨b, o, none⟩ ∧ w.cell? ⟨b, o + i * 2, none⟩ = some (.int .i64 (dA ps i)) ∧ w.cell? ⟨b, o + i * 2 + 1, none⟩ = some (.int .i64 (eA ps i))
theorem PS.later (h : PS w x n ps) (hb : Below w.heap.size w w') : PS w' x n ps where
 len := h.len
 cells := fun i hi => by
  obtain ⟨b, o, hx, c0, c1⟩ := h.cells i hi
  exact ⟨b, o, hx, cell_later hb c0, cell_later hb c1⟩
def JE (a l : Int) (ps : List (Int × Int)) (i : Nat) : Bool := iZ (dA ps i) (eA ps i) a l && (i == 0 || (decide (dA ps (i - 1) < dA ps i) && !gF (dA ps (i - 1)) (eA ps (i - 1)) (dA ps i) (eA ps i)))
def eN (a l : Int) (ps : List (Int × Int)) : Bool := (List.range ps.length).all (JE a l ps)
theorem Ws.here (h : w.cell? ⟨b, o, none⟩ = some v) (u : Ws w.heap.size w) : u.val.cell? ⟨b, o, none⟩ = some v :=
 cell_later u.property h
theorem tL (a l c m : Int) (t : Bool) (h : iZ a l c m = t) (w : World) :
  Calls Tryz.prog 26 #[.agg #[.int .i64 a, .int .i64 l], .agg #[.int .i64 c, .int .i64 m]] w fun e w' => e = .returned (.bool t) ∧ Below w.heap.size w w' := by
 subst h
 exact inside_any a l c m w
theorem L9 (a l c m : Int) (t : Bool) (h : gF a l c m = t) (w : World) :
  Calls Tryz.prog 15 #[.agg #[.int .i64 a, .int .i64 l], .agg #[.int .i64 c, .int .i64 m]] w fun e w' => e = .returned (.bool t) ∧ Below w.heap.size w w' := by
 subst h
 exact meets_any a l c m w
theorem JF (h : ∀ j, j < ps.length → JE a l ps j = true) : eN a l ps = true := by
 unfold eN
 rw [List.all_eq_true]
 intro j hj
 exact h j (by simpa using hj)
def kN (a l : Int) (n : Nat) (ps : List (Int × Int)) : Int := if 32 < n then 2 else if rt a l && eN a l ps then 0 else 1
open Go Go.RowKit Go.Shelf
structure Kl (T : Nat → Obj → Prop) (n₀ : Nat) (L : List Nat) (W W' : World) : Prop where
 os : W'.os = W.os
 tape : W'.tape = W.tape
 output : W'.output = W.output
 size : W.heap.size ≤ W'.heap.size
 same : ∀ (k : Nat) (o : Obj), k ∉ L → W.heap[k]? = some o → (k < n₀ ∨ o.isCells = false ∨ T k o) → W'.heap[k]? = some o
variable {T : Nat → Obj → Prop} {n₀ : Nat} {L : List Nat}
theorem Kl.trans {C : World} (h : Kl T n₀ L A B) (k : Kl T n₀ L B C) : Kl T n₀ L A C :=
 ⟨k.os.trans h.os, k.tape.trans h.tape, k.output.trans h.output, Nat.le_trans h.size k.size, fun i o hi ho hg => k.same i o hi (h.same i o hi ho hg) hg⟩
theorem Kl.more (h : Kl T n₀ L A B) (hs : ∀ k, k ∈ L → k ∈ L') : Kl T n₀ L' A B :=
 ⟨h.os, h.tape, h.output, h.size, fun i o hi ho hg => h.same i o (fun hk => hi (hs i hk)) ho hg⟩
theorem Kl.less (h : Kl T n₀ L' A B) (hs : ∀ k, k ∈ L' → k ∈ L ∨ A.heap.size ≤ k) : Kl T n₀ L A B :=
 ⟨h.os, h.tape, h.output, h.size, fun i o hi ho hg => h.same i o (fun hk => by
  rcases hs i hk with h1 | h1
  ·exact hi h1
  ·have := (Array.getElem?_eq_some_iff.1 ho).1; omega) ho hg⟩
theorem Kl.of_below (h : Below A.heap.size A B) : Kl T n₀ L A B :=
 ⟨h.os, h.tape, h.output, h.size, fun k _ _ ho _ => (h.block k (Array.getElem?_eq_some_iff.1 ho).1).trans ho⟩
theorem Kl.put (W : World) (l : Nat) (o : Obj) (hl : l ∈ L) : Kl T n₀ L W (W.putObj l o) :=
 ⟨rfl, rfl, rfl, by simp, fun k _ hk ho _ => (World.putObj_heap_other (fun e => by subst e; exact hk hl)).trans ho⟩
theorem Kl.putNew (h : Kl T n₀ L A B) (l : Nat) (o : Obj) (hl : A.heap.size ≤ l) : Kl T n₀ L A (B.putObj l o) :=
 ⟨h.os, h.tape, h.output, by simpa using h.size, fun k o' hk ho hg => (World.putObj_heap_other (fun e => by have := (Array.getElem?_eq_some_iff.1 ho).1; omega)).trans (h.same k o' hk ho hg)⟩
def JG (T : Nat → Obj → Prop) (n₀ pr : Nat) {α : Type} (F : Fence) (n : Nat) (P : Program) (g : Nat) (lb : Array Value) (encs : α → Array Value) (S Sp : List α → Prop) (w : World) : Prop :=
 ∀ (l : Nat) (L : List Nat) (J Jx : List α → World → Prop) (W : World), Below w.heap.size w W → OwnFrom W.heap.size J → OwnFrom W.heap.size Jx → (∀ k, k ∈ L → n₀ ≤ k ∧ k < W.heap.size ∧ k ≠ pr) →
  (∀ pre x W1, Sp (pre ++ [x]) → J pre W1 → YieldAt F (n - 1) P l (encs x) W1 fun e W' =>
   Kl T n₀ L W1 W' ∧ ((e = .returned (.bool true) ∧ J (pre ++ [x]) W') ∨ (e = .returned (.bool false) ∧ Jx (pre ++ [x]) W'))) →
  J [] W →
  CallsIn F n P g (#[.func (.yield l) #[] #[]] ++ lb) W fun e W' => (∃ v, e = .returned v) ∧ Kl T n₀ L W W' ∧ ((∃ xs, S xs ∧ J xs W') ∨ (∃ pre, Sp pre ∧ Jx pre W'))
def RW (T : Nat → Obj → Prop) (n₀ : Nat) (L : List Nat) {α : Type} (I Ix : List α → World → Prop) (xs : List α) (W : World) : Exit → Act → World → Prop
 | .normal, _, W' => Kl T n₀ L W W' ∧ I xs W'
 | .ret, _, W' => Kl T n₀ L W W' ∧ Ix xs W'
 | _, _, _ => False
variable {F : Fence} {n : Nat} {P : Program}
theorem lK {B : Nat} {o : Obj} (hg : X.grownBy Y row) (hr : ∀ r, row = some r → B ≤ r ∧ ∃ o : Obj, X.heap[r]? = some o ∧ o.isCells = false) (hk : k < B) (h : X.heap[k]? = some o) : Y.heap[k]? = some o :=
 (hg.block k (Array.getElem?_eq_some_iff.1 h).1 (fun e => by have := (hr k e.symm).1; omega)).trans h
theorem tM {α : Type} {g : Operand} {ps : Array Tmp} {assign body : Code} {Q : Exit → Act → World → Prop} {a : Act} {w : World}
  (hro : F.round = none) (hd : F.depth = none) {gf : Nat} {lb : Array Value} (hg : a.eval g = .func (.func gf) #[] lb) (hFg : F.fn gf) (eg : ∀ args w, (callFunc gf args).run P w = .ok (.enter gf args) w)
  {encs : α → Array Value} {S Sp : List α → Prop} {pr : Nat} (hseq : JG T n₀ pr F (n - 1) P gf lb encs S Sp w)
  (hn₀ : n₀ ≤ w.heap.size) (hpr : pr < w.heap.size) (hL : ∀ k, k ∈ L → n₀ ≤ k ∧ k < w.heap.size ∧ k ≠ pr) (hps : ∀ x, (encs x).size = ps.size)
  (I Ix : List α → World → Prop) (hI : OwnFrom w.heap.size I) (hIx : OwnFrom w.heap.size Ix) (h0 : I [] w)
  (Ax : α → Act → World → Prop) (hAx : ∀ x a', OwnFrom w.heap.size (fun (_ : Unit) W => Ax x a' W))
  (hassign : ∀ (l : Nat) (pre : List α) (x : α) (W : World) (K : Act → World → Prop), I pre W → (∀ a' W', Kl T n₀ L W W' → I pre W' → Ax x a' W' → K a' W') →
   assign.wpIn (F.inRound l) (n - 1 - 1) P (Exit.then K (fun _ _ _ => False)) { tmps := (ps.zip (encs x)).foldl (fun t (p, v) => t.setIfInBounds p v) a.tmps, defers := [] } W)
  (hbody : ∀ (l : Nat) (pre : List α) (x : α) (a' : Act) (W : World), w.heap.size ≤ l → Sp (pre ++ [x]) → I pre W → Ax x a' W → body.wpIn (F.inRound l) (n - 1 - 1) P (RW T n₀ L I Ix (pre ++ [x]) W) a' W)
  (hdone : ∀ (D : Nat) (xs : List α) (W : World), w.heap.size ≤ D → S xs → I xs W → Kl T n₀ L w W → W.heap[D]? = some (.deferred (some [])) → Q .normal { a with defers := { target := .collected D, args := #[] } :: a.defers } W)
  (hstop : ∀ (D : Nat) (pre : List α) (W : World), w.heap.size ≤ D → Sp pre → Ix pre W → Kl T n₀ L w W → W.heap[D]? = some (.deferred (some [])) → Code.ret.wpIn F n P Q { a with defers := { target := .collected D, args := #[] } :: a.defers } W) :
  (Code.rangeFunc g ps assign body).wpIn F n P Q a w := by
 refine wpIn_rangeFunc ?_
 intro fn hfn
 rw [hro]
 obtain ⟨rec, hrec⟩ : ∃ rec : LoopState → Option Code → Loop, rec = fun st pe => { state := st, pending := pe, fn, tmps := a.tmps, params := ps, assign, body, defers := w.heap.size } := ⟨_, rfl⟩
 obtain ⟨W1, hW1⟩ : ∃ W1, (w.alloc (.deferred (some []))).alloc (.loop (rec .ready none)) = W1 := ⟨_, rfl⟩
 obtain ⟨N, hN⟩ : ∃ N, w.heap.size = N := ⟨_, rfl⟩
 have hz1 : W1.heap.size = N + 2 := by rw [← hW1, ← hN]; simp
 have hL1 : W1.heap[N + 1]? = some (.loop (rec .ready none)) := by
  rw [← hW1, ← hN]; have := World.alloc_heap_new (w.alloc (.deferred (some []))) (.loop (rec .ready none)); rwa [World.size_alloc] at this
 have hK1 : W1.heap[N]? = some (.deferred (some [])) := by
  rw [← hW1, ← hN]; exact (Below.heap_alloc _ _ _ (by simp)).trans (World.alloc_heap_new w _)
 have hI1 : I [] W1 := by rw [← hW1]; exact hI.alloc _ (hI.alloc _ h0)
 have hb1 : Below w.heap.size w W1 := by
  rw [← hW1]; exact ((Below.refl _ w).alloc (Nat.le_refl _) _).alloc (by simp) _
 refine ⟨N + 1, [{ target := .collected N, args := #[] }], W1, { target := .fn (.func gf) lb, args := #[.func (.yield (N + 1)) #[] #[]] }, W1, gf,
  #[.func (.yield (N + 1)) #[] #[]] ++ lb, W1, ?_, ?_, ?_, ?_, fun h => (by rw [hd] at h; cases h), ?_⟩
 ·rw [← hW1, hrec, ← hN]; exact run_enterLoop_outer _ _ _ _ _
 ·simp only [resolve, hg]
  simp [go_sem]
 ·intro f' hf'; simp [Target.leads] at hf'; subst hf'; exact hFg
 ·simp [invoke, go_sem, eg]
 ·have hOf : ∀ {A B : World} {row : Option Nat}, (∀ r, row = some r → W1.heap.size ≤ r ∧ ∃ o : Obj, A.heap[r]? = some o ∧ o.isCells = false) → (∀ r, row = some r → w.heap.size ≤ r ∧ ∃ o : Obj, A.heap[r]? = some o ∧ o.isCells = false) :=
   fun hr r e => ⟨by have := (hr r e).1; omega, (hr r e).2⟩
  refine (hseq (N + 1) ((N + 1) :: L)
   (fun pre W => I pre W ∧ W.heap[N + 1]? = some (.loop (rec .ready none)) ∧ W.heap[N]? = some (.deferred (some [])))
   (fun pre W => Ix pre W ∧ W.heap[N + 1]? = some (.loop (rec .done (some .ret))) ∧ W.heap[N]? = some (.deferred (some [])))
   W1 hb1
   (fun s A B row hs hg' hr => ⟨hI s A B row hs.1 hg' (hOf (B := B) hr), lK hg' hr (by omega) hs.2.1, lK hg' hr (by omega) hs.2.2⟩)
   (fun s A B row hs hg' hr => ⟨hIx s A B row hs.1 hg' (hOf (B := B) hr), lK hg' hr (by omega) hs.2.1, lK hg' hr (by omega) hs.2.2⟩)
   (fun k hk => by
    rcases List.mem_cons.1 hk with rfl | hk
    ·exact ⟨by omega, by omega, by omega⟩
    ·have := hL k hk; exact ⟨this.1, by omega, this.2.2⟩)
   ?_ ⟨hI1, hL1, hK1⟩).mono ?_
  ·rintro pre x W hsp ⟨hi, hl, hk⟩
   have hy := run_yield (P := P) (args := encs x) hl (by rw [hrec]; exact hps x)
   rw [hrec] at hy
   refine ⟨fn, _, assign, body, hy, roundIn_of_wpIn hfn (hassign _ pre x W _ hi ?_)⟩
   clear hy
   intro a' Wa hka hia hax
   have nL : N + 1 ∉ L := fun hm => by have := (hL _ hm).2.1; omega
   have nD : N ∉ L := fun hm => by have := (hL _ hm).2.1; omega
   replace hl := hka.same _ _ nL hl (.inr (.inl rfl))
   replace hk := hka.same _ _ nD hk (.inr (.inl rfl))
   have hlt : N + 1 < Wa.heap.size := (Array.getElem?_eq_some_iff.1 hl).1
   refine ⟨_, run_beginRound hl (by rw [hrec]), ?_⟩
   have hl2 : (Wa.putObj (N + 1) (.loop { rec .ready none with state := .busy })).heap[N + 1]? = some (.loop { rec .ready none with state := .busy }) := World.putObj_heap_same hlt
   have hk2 : (Wa.putObj (N + 1) (.loop { rec .ready none with state := .busy })).heap[N]? = some (.deferred (some [])) := (World.putObj_heap_other (by omega)).trans hk
   have hm : ∀ k, k ∈ L → k ∈ (N + 1) :: L := fun k hk => List.mem_cons_of_mem _ hk
   have hw2 : Kl T n₀ ((N + 1) :: L) W (Wa.putObj (N + 1) (.loop { rec .ready none with state := .busy })) := (hka.more hm).trans (Kl.put _ _ _ (by simp))
   refine wpIn_mono (hbody _ pre x a' _ (by omega) hsp (hI.putObj _ hia (by omega) hl rfl) ((hAx x a').putObj (s := ()) _ hax (by omega) hl rfl)) ?_
   have fin : ∀ (jump : Option Code) (W3 : World), Kl T n₀ L (Wa.putObj (N + 1) (.loop { rec .ready none with state := .busy })) W3 →
     (Instr.endRound (N + 1) jump).run P W3 = .ok (.bool jump.isNone) (W3.putObj (N + 1) (.loop (rec (if jump.isNone then .ready else .done) jump))) ∧
     W3.heap[N + 1]? = some (.loop { rec .ready none with state := .busy }) ∧
     (W3.putObj (N + 1) (.loop (rec (if jump.isNone then .ready else .done) jump))).heap[N + 1]? = some (.loop (rec (if jump.isNone then .ready else .done) jump)) ∧
     (W3.putObj (N + 1) (.loop (rec (if jump.isNone then .ready else .done) jump))).heap[N]? = some (.deferred (some [])) ∧
     Kl T n₀ ((N + 1) :: L) W (W3.putObj (N + 1) (.loop (rec (if jump.isNone then .ready else .done) jump))) := fun jump W3 hk3 => by
    have hl3 := hk3.same _ _ nL hl2 (.inr (.inl rfl))
    have hkk := hk3.same _ _ nD hk2 (.inr (.inl rfl))
    have hq := (hw2.trans (hk3.more hm)).trans (Kl.put W3 (N + 1) (.loop (rec (if jump.isNone then .ready else .done) jump)) (by simp))
    have := run_endRound (P := P) jump hl3
    rw [hrec] at this ⊢
    rw [hrec] at hl3 hq
    exact ⟨this, hl3, World.putObj_heap_same (Array.getElem?_eq_some_iff.1 hl3).1, (World.putObj_heap_other (by omega)).trans hkk, hq⟩
   rintro e a3 W3 hp
   cases e with
   | normal =>
    obtain ⟨hk3, hi3⟩ := hp
    obtain ⟨hr, hl3, hl4, hk4, hq⟩ := fin none W3 hk3
    exact ⟨_, _, hr, hq, .inl ⟨rfl, hI.putObj _ hi3 (by omega) hl3 rfl, hl4, hk4⟩⟩
   | ret =>
    obtain ⟨hk3, hi3⟩ := hp
    obtain ⟨hr, hl3, hl4, hk4, hq⟩ := fin (some .ret) W3 hk3
    exact ⟨_, _, hr, hq, .inr ⟨rfl, hIx.putObj _ hi3 (by omega) hl3 rfl, hl4, hk4⟩⟩
   | exit id => exact hp.elim
   | goto t => exact hp.elim
   | panic ch => exact hp.elim
   | outgrown => exact hp.elim
  ·have hend : ∀ (W2 : World) (o : Obj), Kl T n₀ ((N + 1) :: L) W1 W2 → Kl T n₀ L w (W2.putObj (N + 1) o) := fun W2 o hq =>
    Kl.less (((Kl.of_below hb1).trans hq).trans (Kl.put W2 (N + 1) o (by simp))) (fun k hk => by
     rcases List.mem_cons.1 hk with rfl | hk
     ·exact .inr (by omega)
     ·exact .inl hk)
   rintro e W2 ⟨⟨v, rfl⟩, hq, (⟨xs, hS, hi, hl, hk⟩ | ⟨pre, hSp, hi, hl, hk⟩)⟩
   ·exact ⟨none, _, by have := run_endLoop (P := P) hl (by rw [hrec]; simp); rw [hrec] at this; exact this, hdone _ xs _ (by omega) hS (hI.putObj _ hi (by omega) hl rfl) (hend _ _ hq) ((World.putObj_heap_other (by omega)).trans hk)⟩
   ·exact ⟨some .ret, _, by have := run_endLoop (P := P) hl (by rw [hrec]; simp); rw [hrec] at this; exact this, hstop _ pre _ (by omega) hSp (hIx.putObj _ hi (by omega) hl rfl) (hend _ _ hq) ((World.putObj_heap_other (by omega)).trans hk)⟩
variable {T : Nat → Obj → Prop} {n₀ : Nat} {L : List Nat} {F : Fence} {n : Nat} {P : Program}
theorem jR (h : Below X.heap.size X Y) : X.grownBy Y none :=
 ⟨h.os, h.tape, h.output, h.size, fun k hk _ => h.block k hk⟩
theorem OwnFrom.later {β : Type} {B : Nat} {I : β → World → Prop} (h : OwnFrom B I) {s : β} {X Y : World} (hs : I s X) (hb : Below X.heap.size X Y) : I s Y :=
 h s X Y none hs (jR hb) (fun r e => by cases e)
theorem eY {β : Type} {B : Nat} {I I' : β → World → Prop} (h : OwnFrom B I) (h' : OwnFrom B I') : OwnFrom B (fun s W => I s W ∧ I' s W) :=
 fun s X Y row hs hg hr => ⟨h s X Y row hs.1 hg hr, h' s X Y row hs.2 hg hr⟩
theorem rQ {β : Type} {B B' : Nat} {I : β → World → Prop} (h : OwnFrom B I) (hB : B ≤ B') : OwnFrom B' I :=
 fun s X Y row hs hg hr => h s X Y row hs hg (fun r e => ⟨Nat.le_trans hB (hr r e).1, (hr r e).2⟩)
theorem ID {β γ : Type} {B : Nat} {I : β → World → Prop} (h : OwnFrom B I) (f : γ → β) : OwnFrom B (fun s W => I (f s) W) :=
 fun s X Y row hs hg hr => h (f s) X Y row hs hg hr
theorem BO {β : Type} {B : Nat} {W0 : World} (hB : W0.heap.size ≤ B) : OwnFrom B (fun (_ : β) W => Kl T n₀ L W0 W) :=
 fun _ X Y row hs hg hr => ⟨hg.os.trans hs.os, hg.tape.trans hs.tape, hg.output.trans hs.output, Nat.le_trans hs.size hg.size, fun k o hk ho hq => by
  have hX := hs.same k o hk ho hq
  refine (hg.block k (Array.getElem?_eq_some_iff.1 hX).1 (fun e => ?_)).trans hX
  have h1 := (hr k e.symm).1
  have h2 := (Array.getElem?_eq_some_iff.1 ho).1
  omega⟩
theorem vU {c : Code} {a : Act}
  (h : c.wpIn F n P (Exit.then (c.wpIn F n P (Exit.then (c.wpIn F n P (Exit.then (fun _ _ => False) Q)) Q)) Q) a w) : (Code.loop c).wpIn F n P Q a w := by
 classical
 refine wpIn_loop (fun a' w' => c.wpIn F n P (Exit.then (fun _ _ => False) Q) a' w' ∨ c.wpIn F n P (Exit.then (c.wpIn F n P (Exit.then (fun _ _ => False) Q)) Q) a' w' ∨ (a' = a ∧ w' = w))
  (fun a' w' => if c.wpIn F n P (Exit.then (fun _ _ => False) Q) a' w' then 0 else if c.wpIn F n P (Exit.then (c.wpIn F n P (Exit.then (fun _ _ => False) Q)) Q) a' w' then 1 else 2) (.inr (.inr ⟨rfl, rfl⟩)) ?_
 intro a' w' hI
 by_cases h0 : c.wpIn F n P (Exit.then (fun _ _ => False) Q) a' w'
 ·exact Go.wpIn_mono h0 (fun e a w q => by cases e <;> first | exact q | exact q.elim)
 ·by_cases h1 : c.wpIn F n P (Exit.then (c.wpIn F n P (Exit.then (fun _ _ => False) Q)) Q) a' w'
  ·refine Go.wpIn_mono h1 (fun e a w q => ?_)
   cases e with
   | normal => exact ⟨.inl q, by simp only [if_pos (show c.wpIn F n P (Exit.then (fun _ _ => False) Q) a w from q), if_neg h0, if_pos h1]; omega⟩
   | _ => exact q
  ·have hs : a' = a ∧ w' = w := by
    rcases hI with h | h | h
    ·exact absurd h h0
    ·exact absurd h h1
    ·exact h
   obtain ⟨rfl, rfl⟩ := hs
   refine Go.wpIn_mono h (fun e a w q => ?_)
   cases e with
   | normal =>
    refine ⟨.inr (.inl q), ?_⟩
    simp only [if_neg h0, if_neg h1, if_pos (show c.wpIn F n P (Exit.then (c.wpIn F n P (Exit.then (fun _ _ => False) Q)) Q) a w from q)]
    split <;> omega
   | _ => exact q
def lL (x : Int × Int) : Value := .agg #[.int .i64 x.1, .int .i64 x.2]
theorem gM {g : Operand} {p : Nat} {assign body : Code} {a : Act}
  (hro : F.round = none) (hd : F.depth = none) {gf : Nat} {lb : Array Value} (hg : a.eval g = .func (.func gf) #[] lb) (hFg : F.fn gf) (eg : ∀ args w, (callFunc gf args).run P w = .ok (.enter gf args) w)
  {S Sp : List (Int × Int) → Prop} {pr : Nat} (hseq : JG T n₀ pr F (n - 1) P gf lb (fun x => #[lL x]) S Sp w)
  (hn₀ : n₀ ≤ w.heap.size) (hpr : pr < w.heap.size) (hL : ∀ k, k ∈ L → n₀ ≤ k ∧ k < w.heap.size ∧ k ≠ pr)
  (I Ix : List (Int × Int) → World → Prop) (hI : OwnFrom w.heap.size I) (hIx : OwnFrom w.heap.size Ix) (h0 : I [] w)
  (hassign : ∀ (l : Nat) (x : Int × Int) (W : World) (K : Act → World → Prop), (∀ Bx W', Below W.heap.size W W' → W.heap.size ≤ Bx → W'.cell? ⟨Bx, 0, none⟩ = some (.int .i64 x.1) → W'.cell? ⟨Bx, 1, none⟩ = some (.int .i64 x.2) →
    K { tmps := (a.tmps.setIfInBounds p (lL x)).setIfInBounds h (.pointer (some ⟨Bx, 0, none⟩)), defers := [] } W') →
   assign.wpIn (F.inRound l) (n - 1 - 1) P (Exit.then K (fun _ _ _ => False)) { tmps := a.tmps.setIfInBounds p (lL x), defers := [] } W)
  (hbody : ∀ (l : Nat) (pre : List (Int × Int)) (x : Int × Int) (Bx : Nat) (W : World), w.heap.size ≤ l → Sp (pre ++ [x]) → I pre W → W.cell? ⟨Bx, 0, none⟩ = some (.int .i64 x.1) → W.cell? ⟨Bx, 1, none⟩ = some (.int .i64 x.2) →
   body.wpIn (F.inRound l) (n - 1 - 1) P (RW T n₀ L I Ix (pre ++ [x]) W) { tmps := (a.tmps.setIfInBounds p (lL x)).setIfInBounds h (.pointer (some ⟨Bx, 0, none⟩)), defers := [] } W)
  (hdone : ∀ (D : Nat) (xs : List (Int × Int)) (W : World), w.heap.size ≤ D → S xs → I xs W → Kl T n₀ L w W → W.heap[D]? = some (.deferred (some [])) → Q .normal { a with defers := { target := .collected D, args := #[] } :: a.defers } W)
  (hstop : ∀ (D : Nat) (pre : List (Int × Int)) (W : World), w.heap.size ≤ D → Sp pre → Ix pre W → Kl T n₀ L w W → W.heap[D]? = some (.deferred (some [])) → Code.ret.wpIn F n P Q { a with defers := { target := .collected D, args := #[] } :: a.defers } W) :
  (Code.rangeFunc g #[p] assign body).wpIn F n P Q a w :=
 tM hro hd hg hFg eg hseq hn₀ hpr hL (fun _ => rfl) I Ix hI hIx h0
  (fun x a' W => ∃ Bx, W.cell? ⟨Bx, 0, none⟩ = some (.int .i64 x.1) ∧ W.cell? ⟨Bx, 1, none⟩ = some (.int .i64 x.2) ∧ a' = { tmps := (a.tmps.setIfInBounds p (lL x)).setIfInBounds h (.pointer (some ⟨Bx, 0, none⟩)), defers := [] })
  (fun x a' _ X Y row hs hg hr => by
   obtain ⟨Bx, c0, c1, ha⟩ := hs
   exact ⟨Bx, cell_kept c0 hg (fun r e => (hr r e).2), cell_kept c1 hg (fun r e => (hr r e).2), ha⟩)
  (fun l pre x W K hi hK => by
   have := hassign l x W K (fun Bx W' hb _ c0 c1 => hK _ _ (Kl.of_below hb) (OwnFrom.later hI hi hb) ⟨Bx, c0, c1, rfl⟩)
   have e : (#[p].zip #[lL x]).foldl (fun t (p, v) => t.setIfInBounds p v) a.tmps = a.tmps.setIfInBounds p (lL x) := by simp
   rw [e]
   exact this)
  (fun l pre x a' W hl hsp hi hax => by
   obtain ⟨Bx, c0, c1, rfl⟩ := hax
   exact hbody l pre x Bx W hl hsp hi c0 c1)
  hdone hstop
def MA (g : Nat) (cap : Array Value) (n : Nat) (ps : List (Int × Int)) (f : Nat → Bool) (w : World) : Prop :=
 ∀ i, i < n → ∀ W, Below w.heap.size w W → Calls Tryz.prog g (#[.agg #[.int .i64 (dA ps i), .int .i64 (eA ps i)]] ++ cap) W fun e W' => e = .returned (.bool (f i)) ∧ Below W.heap.size W W'
theorem zO (g : Nat) (cap : Array Value) (x : Option Addr) (n c : Nat) (ps : List (Int × Int)) (f : Nat → Bool) (w : World) (hp : PS w x n ps) (hn : n ≤ 64) (hF : MA g cap n ps f w)
  (hg : ∀ args W, (callFunc g args).run Tryz.prog W = .ok (.enter g args) W) :
  Calls Tryz.prog 232 #[.slice x n c, .func (.func g) #[] cap] w fun e w' => (∃ r : Int, e = .returned (.int .i64 r) ∧ ((∃ i : Nat, i < n ∧ f i = true ∧ (∀ j, j < i → f j = false) ∧ r = i) ∨ ((∀ j, j < n → f j = false) ∧ r = -1))) ∧ Below w.heap.size w w' := by
 have HF : Hid (MA g cap n ps f w) := hF
 clear hF
 go_enter Tryz.func232, Tryz.ntmps232
 go_wp2
 go_loopw [8] (fun i wr => ∃ k : Nat, k ≤ n ∧ i = .int .i64 k ∧ Below w.heap.size w wr ∧ (∀ j, j < k → f j = false)) (fun i _ => n - (intOf i).toNat)
 case atStart => exact ⟨0, by omega, rfl, Below.refl _ _, fun j hj => by omega⟩
 case round =>
  obtain ⟨k, hk, rfl, hB, hno⟩ := hrel
  by_cases hlt : k < n
  ·obtain ⟨b, o, rfl, c0, c1⟩ := hp.cells k hlt
   have d0 := cell_later hB c0
   have d1 := cell_later hB c1
   go_wp2_with fail
   refine (HF.out k hlt _ hB).mono ?_
   rintro e w1 ⟨rfl, hb1⟩
   have hC := hB.trans (hb1.mono hB.size)
   cases hf : f k
   ·go_wp2
    go_roundw
    case rel => exact ⟨k + 1, hlt, by go_num, hC, fun j hj => by
     by_cases hj2 : j < k
     ·exact hno j hj2
     ·obtain rfl : j = k := by omega
      exact hf⟩
    case measure => simp [intOf]; omega
   ·go_wp2
    go_ret
    exact ⟨⟨_, rfl, .inl ⟨k, hlt, hf, hno, rfl⟩⟩, hC⟩
  ·go_wp2
   go_ret
   exact ⟨⟨_, rfl, .inr ⟨fun j hj => hno j (by omega), rfl⟩⟩, hB⟩
def aK (n : Nat) (f : Nat → Bool) : Bool := (List.range n).any f
theorem cY (h : ∀ j, j < n → f j = false) : aK n f = false := by
 unfold aK
 rw [List.any_eq_false]
 intro j hj
 simp [h j (by simpa using hj)]
theorem aT (hk : k < n) (h : f k = true) : aK n f = true := by
 unfold aK
 rw [List.any_eq_true]
 exact ⟨k, by simpa using hk, h⟩
theorem gO (g : Nat) (cap : Array Value) (x : Option Addr) (n c : Nat) (ps : List (Int × Int)) (f : Nat → Bool) (w : World) (hp : PS w x n ps) (hn : n ≤ 64) (hF : MA g cap n ps f w)
  (hg : ∀ args W, (callFunc g args).run Tryz.prog W = .ok (.enter g args) W) :
  Calls Tryz.prog 228 #[.slice x n c, .func (.func g) #[] cap] w fun e w' => e = .returned (.bool (aK n f)) ∧ Below w.heap.size w w' := by
 have H := zO g cap x n c ps f w hp hn hF hg
 have H' : Hid (Calls Tryz.prog 232 #[.slice x n c, .func (.func g) #[] cap] w fun e w' => (∃ r : Int, e = .returned (.int .i64 r) ∧ decide (r ≥ 0) = aK n f) ∧ Below w.heap.size w w') := (H.mono fun e w' h => by
  obtain ⟨⟨r, rfl, hr⟩, hb⟩ := h
  refine ⟨⟨r, rfl, ?_⟩, hb⟩
  rcases hr with ⟨i, hi, hfi, _, rfl⟩ | ⟨hno, rfl⟩
  ·rw [aT hi hfi]; simp
  ·rw [cY hno]; rfl)
 clear hF H
 go_enter Tryz.func228, Tryz.ntmps228
 go_wp2_with fail
 refine H'.out.mono ?_
 rintro e w1 ⟨⟨r, rfl, hr⟩, hb1⟩
 go_wp2
 go_ret
 exact ⟨rfl, hb1⟩
theorem F4 (a l c m : Int) (b : Nat) (w : World) (h0 : w.cell? ⟨b, 0, none⟩ = some (.int .i64 a)) (h1 : w.cell? ⟨b, 1, none⟩ = some (.int .i64 l)) :
  Calls Tryz.prog 231 #[.agg #[.int .i64 c, .int .i64 m], .pointer (some ⟨b, 0, none⟩)] w fun e w' => e = .returned (.bool (gF a l c m)) ∧ Below w.heap.size w w' := by
 have k0 : ∀ q, (w.alloc q).cell? ⟨b, 0, none⟩ = some (.int .i64 a) := fun q => cell_later (bl1 w q) h0
 have k1 : ∀ q, (w.alloc q).cell? ⟨b, 1, none⟩ = some (.int .i64 l) := fun q => cell_later (bl1 w q) h1
 go_enter Tryz.func231, Tryz.ntmps231
 go_wp2_with (go_at_call 15; refine (meets_any a l c m _).mono ?_; rintro e w1 ⟨rfl, hb1⟩)
 go_ret
 exact ⟨rfl, (bl1 w _).trans (hb1.mono (by simp))⟩
theorem C8 (a l c m : Int) (b : Nat) (w : World) (h0 : w.cell? ⟨b, 0, none⟩ = some (.int .i64 a)) (h1 : w.cell? ⟨b, 1, none⟩ = some (.int .i64 l)) :
  Calls Tryz.prog 229 #[.agg #[.int .i64 c, .int .i64 m], .pointer (some ⟨b, 0, none⟩)] w fun e w' => e = .returned (.bool (iZ a l c m)) ∧ Below w.heap.size w w' := by
 have k0 : ∀ q, (w.alloc q).cell? ⟨b, 0, none⟩ = some (.int .i64 a) := fun q => cell_later (bl1 w q) h0
 have k1 : ∀ q, (w.alloc q).cell? ⟨b, 1, none⟩ = some (.int .i64 l) := fun q => cell_later (bl1 w q) h1
 go_enter Tryz.func229, Tryz.ntmps229
 go_wp2_with (go_at_call 26; refine (inside_any a l c m _).mono ?_; rintro e w1 ⟨rfl, hb1⟩)
 go_ret
 exact ⟨rfl, (bl1 w _).trans (hb1.mono (by simp))⟩
theorem MB (z c m : Int) (b : Nat) (w : World) (h0 : w.cell? ⟨b, 0, none⟩ = some (.int .i64 z)) :
  Calls Tryz.prog 210 #[.agg #[.int .i64 c, .int .i64 m], .pointer (some ⟨b, 0, none⟩)] w fun e w' => e = .returned (.bool (decide (m ≤ z))) ∧ Below w.heap.size w w' := by
 have k0 : ∀ q, (w.alloc q).cell? ⟨b, 0, none⟩ = some (.int .i64 z) := fun q => cell_later (bl1 w q) h0
 go_enter Tryz.func210, Tryz.ntmps210
 go_wp2
 go_ret
 exact ⟨rfl, bl1 w _⟩
def mtsAny (a l : Int) (ps : List (Int × Int)) : Bool := aK ps.length fun i => gF a l (dA ps i) (eA ps i)
def nK (a l : Int) (ps : List (Int × Int)) : Bool := aK ps.length fun i => iZ a l (dA ps i) (eA ps i)
theorem C9 (args : Array Value) (W : World) : (callFunc 231 args).run Tryz.prog W = .ok (.enter 231 args) W := by simp [go_sem]
theorem DA (args : Array Value) (W : World) : (callFunc 229 args).run Tryz.prog W = .ok (.enter 229 args) W := by simp [go_sem]
theorem JH (args : Array Value) (W : World) : (callFunc 210 args).run Tryz.prog W = .ok (.enter 210 args) W := by simp [go_sem]
theorem MC (a l : Int) (b n : Nat) (ps : List (Int × Int)) (w : World) (h0 : w.cell? ⟨b, 0, none⟩ = some (.int .i64 a)) (h1 : w.cell? ⟨b, 1, none⟩ = some (.int .i64 l)) :
  MA 231 #[.pointer (some ⟨b, 0, none⟩)] n ps (fun i => gF a l (dA ps i) (eA ps i)) w := fun _ _ W hW =>
 F4 a l _ _ b W (cell_later hW h0) (cell_later hW h1)
theorem AH (a l : Int) (b n : Nat) (ps : List (Int × Int)) (w : World) (h0 : w.cell? ⟨b, 0, none⟩ = some (.int .i64 a)) (h1 : w.cell? ⟨b, 1, none⟩ = some (.int .i64 l)) :
  MA 229 #[.pointer (some ⟨b, 0, none⟩)] n ps (fun i => iZ a l (dA ps i) (eA ps i)) w := fun _ _ W hW =>
 C8 a l _ _ b W (cell_later hW h0) (cell_later hW h1)
theorem qP (a l : Int) (x : Option Addr) (n c : Nat) (ps : List (Int × Int)) (w : World) (hp : PS w x n ps) (hn : n ≤ 64) :
  Calls Tryz.prog 227 #[.agg #[.int .i64 a, .int .i64 l], .slice x n c] w fun e w' => e = .returned (.bool (mtsAny a l ps)) ∧ Below w.heap.size w w' := by
 have hl := hp.len
 go_enter Tryz.func227, Tryz.ntmps227
 go_wp2_with fail
 refine (gO 231 _ x n c ps _ _ (hp.later (bl1 w _)) hn (MC a l w.heap.size n ps _ (by simp) (by simp)) C9).mono ?_
 rintro e w1 ⟨rfl, hb1⟩
 go_wp2
 go_ret
 exact ⟨aH (by unfold mtsAny; rw [hl]), (bl1 w _).trans (hb1.mono (by simp))⟩
open Go.RowKit Go.Shelf
attribute [local go_sem] Oper.semAt_some
def hol (ps : List (Int × Int)) : Nat → Int → Int → List (Int × Int)
 | 0, a, l => if mtsAny a l ps then [] else [(a, l)]
 | f + 1, a, l => if mtsAny a l ps then (if nK a l ps then [] else hol ps f a (l + 1) ++ hol ps f (a + sp (l + 1)) (l + 1)) else [(a, l)]
def TH (n₀ : Nat) (k : Nat) (o : Obj) : Prop := n₀ < k ∧ ∃ v, o = .cells #[v] 94 ∨ o = .cells #[v] 262
theorem wZ (a l : Int) (x : Option Addr) (n c m : Nat) (w : World) :
  CallsIn Fence.wide m Tryz.prog 223 #[.agg #[.int .i64 a, .int .i64 l], .slice x n c] w fun e w' =>
   e = .returned (.func (.func 226) #[] #[.pointer (some ⟨w.heap.size, 0, none⟩), .pointer (some ⟨w.heap.size + 1, 0, none⟩)]) ∧ w' = (w.alloc (.cells #[.int .i64 a, .int .i64 l] 49)).alloc (.cells #[.slice x n c] 94) := by
 refine callsIn_of_wp Tryz.func223 rfl trivial ?_ rfl
 simp only [Tryz.ntmps223, List.size_toArray, List.length_cons, List.length_nil, Nat.reduceAdd, Nat.reduceSub, Array.replicate_succ, Array.replicate_zero, List.push_toArray, List.append_toArray, List.nil_append, List.cons_append]
 gi_wp2
 go_ret
 exact ⟨rfl, rfl⟩
theorem nM (args : Array Value) (W : World) : (callFunc 226 args).run Tryz.prog W = .ok (.enter 226 args) W := by simp [go_sem]
theorem uT (n₀ : Nat) (x : Option Addr) (n c : Nat) (ps : List (Int × Int)) (hn : n ≤ 64) (f : Nat) (a l : Int) (hm : mtsAny a l ps = false) (m : Nat) (w : World) (pb ub : Nat)
  (p0 : w.cell? ⟨pb, 0, none⟩ = some (.int .i64 a)) (p1 : w.cell? ⟨pb, 1, none⟩ = some (.int .i64 l)) (u0 : w.cell? ⟨ub, 0, none⟩ = some (.slice x n c)) (hp : PS w x n ps) :
  JG (TH n₀) n₀ ub Fence.wide m Tryz.prog 226 #[.pointer (some ⟨pb, 0, none⟩), .pointer (some ⟨ub, 0, none⟩)] (fun x => #[lL x]) (fun xs => xs = hol ps f a l) (fun pre => pre <+: hol ps f a l) w := by
 have hh : hol ps f a l = [(a, l)] := by cases f <;> simp [hol, hm]
 intro yl L J Jx W hW hJ hJx hL hY h0
 rw [hh] at hY ⊢
 clear hh
 have HY : Hid (∀ W1, J [] W1 → YieldAt Fence.wide (m - 1) Tryz.prog yl #[lL (a, l)] W1 fun e W' => Kl (TH n₀) n₀ L W1 W' ∧ ((e = .returned (.bool true) ∧ J [(a, l)] W') ∨ (e = .returned (.bool false) ∧ Jx [(a, l)] W'))) := fun W1 h => hY [] (a, l) W1 (List.prefix_refl _) h
 have q0 := cell_later hW p0
 have q1 := cell_later hW p1
 have v0 := cell_later hW u0
 have hp' := hp.later hW
 clear hY p0 p1 u0 hp
 have k0 : ∀ q, (W.alloc q).cell? ⟨pb, 0, none⟩ = some (.int .i64 a) := fun q => cell_later (bl1 W q) q0
 have k1 : ∀ q, (W.alloc q).cell? ⟨pb, 1, none⟩ = some (.int .i64 l) := fun q => cell_later (bl1 W q) q1
 have k2 : ∀ q, (W.alloc q).cell? ⟨ub, 0, none⟩ = some (.slice x n c) := fun q => cell_later (bl1 W q) v0
 refine callsIn_of_wp_marks Tryz.func226 rfl trivial ?_ rfl
 simp only [Tryz.ntmps226, List.size_toArray, List.length_cons, List.length_nil, Nat.reduceAdd, Nat.reduceSub, Array.replicate_succ, Array.replicate_zero, List.push_toArray, List.append_toArray, List.nil_append, List.cons_append]
 gi_wp2_with fail
 refine ⟨trivial, (fun h => (by cases h)), ?_⟩
 refine (callsIn_wide.2 (qP a l x n c ps _ (hp'.later (bl1 W _)) hn)).mono ?_
 rintro e w1 ⟨rfl, hb1⟩
 have hB : Below W.heap.size W w1 := (bl1 W _).trans (hb1.mono (by simp))
 have y0 : w1.cell? ⟨W.heap.size, 0, none⟩ = some (.func (.yield yl) #[] #[]) := (hb1.cell (p := ⟨W.heap.size, 0, none⟩) (by simp)).trans (by simp)
 have r0 := cell_later hB q0
 have r1 := cell_later hB q1
 obtain ⟨fn, tmps, assign, body, hy, hR⟩ := HY.out w1 (OwnFrom.later hJ h0 hB)
 clear hb1 k0 k1 k2 q0 q1 v0
 simp only [lL] at hy
 rw [hm]
 gi_wp2_with fail
 refine ⟨(fun h => (by cases h)), ?_⟩
 refine hR.mono ?_
 rintro e W2 ⟨hk, (⟨rfl, hj⟩ | ⟨rfl, hx⟩)⟩
 ·gi_wp2
  refine ⟨_, results_none rfl _ _ _, ?_⟩
  exact ⟨⟨_, rfl⟩, (Kl.of_below hB).trans hk, .inl ⟨_, rfl, hj⟩⟩
 ·gi_wp2
  refine ⟨_, results_none rfl _ _ _, ?_⟩
  exact ⟨⟨_, rfl⟩, (Kl.of_below hB).trans hk, .inr ⟨_, List.prefix_refl _, hx⟩⟩
attribute [local go_sem] Oper.semAt_some
theorem AI (n₀ : Nat) (x : Option Addr) (n c : Nat) (ps : List (Int × Int)) (hn : n ≤ 64) (f : Nat) (a l : Int) (hm : mtsAny a l ps = true) (hi : nK a l ps = true) (m : Nat) (w : World) (pb ub : Nat)
  (p0 : w.cell? ⟨pb, 0, none⟩ = some (.int .i64 a)) (p1 : w.cell? ⟨pb, 1, none⟩ = some (.int .i64 l)) (u0 : w.cell? ⟨ub, 0, none⟩ = some (.slice x n c)) (hp : PS w x n ps) :
  JG (TH n₀) n₀ ub Fence.wide m Tryz.prog 226 #[.pointer (some ⟨pb, 0, none⟩), .pointer (some ⟨ub, 0, none⟩)] (fun x => #[lL x]) (fun xs => xs = hol ps f a l) (fun pre => pre <+: hol ps f a l) w := by
 have hh : hol ps f a l = [] := by cases f <;> simp [hol, hm, hi]
 intro yl L J Jx W hW hJ hJx hL hY h0
 rw [hh]
 clear hh
 have q0 := cell_later hW p0
 have q1 := cell_later hW p1
 have v0 := cell_later hW u0
 have hp' := hp.later hW
 clear hY p0 p1 u0 hp
 have k0 : ∀ q, (W.alloc q).cell? ⟨pb, 0, none⟩ = some (.int .i64 a) := fun q => cell_later (bl1 W q) q0
 have k1 : ∀ q, (W.alloc q).cell? ⟨pb, 1, none⟩ = some (.int .i64 l) := fun q => cell_later (bl1 W q) q1
 have k2 : ∀ q, (W.alloc q).cell? ⟨ub, 0, none⟩ = some (.slice x n c) := fun q => cell_later (bl1 W q) v0
 refine callsIn_of_wp_marks Tryz.func226 rfl trivial ?_ rfl
 simp only [Tryz.ntmps226, List.size_toArray, List.length_cons, List.length_nil, Nat.reduceAdd, Nat.reduceSub, Array.replicate_succ, Array.replicate_zero, List.push_toArray, List.append_toArray, List.nil_append, List.cons_append]
 gi_wp2_with fail
 refine ⟨trivial, (fun h => (by cases h)), ?_⟩
 refine (callsIn_wide.2 (qP a l x n c ps _ (hp'.later (bl1 W _)) hn)).mono ?_
 rintro e w1 ⟨rfl, hb1⟩
 have hB : Below W.heap.size W w1 := (bl1 W _).trans (hb1.mono (by simp))
 have y0 : w1.cell? ⟨W.heap.size, 0, none⟩ = some (.func (.yield yl) #[] #[]) := (hb1.cell (p := ⟨W.heap.size, 0, none⟩) (by simp)).trans (by simp)
 have r0 := cell_later hB q0
 have r1 := cell_later hB q1
 have v1 := cell_later hB v0
 have hl := hp'.len
 clear hb1 k0 k1 k2 q0 q1 v0
 rw [hm]
 gi_wp2_with fail
 refine ⟨trivial, (fun h => (by cases h)), ?_⟩
 refine (callsIn_wide.2 (gO 229 _ x n c ps _ _ (hp'.later hB) hn (AH a l pb n ps _ r0 r1) DA)).mono ?_
 rintro e w2 ⟨rfl, hb2⟩
 have hC : Below W.heap.size W w2 := hB.trans (hb2.mono hB.size)
 have hi' : aK n (fun i => iZ a l (dA ps i) (eA ps i)) = true := by rw [← hl]; exact hi
 rw [hi']
 gi_wp2
 refine ⟨_, results_none rfl _ _ _, ?_⟩
 exact ⟨⟨_, rfl⟩, Kl.of_below hC, .inl ⟨_, rfl, OwnFrom.later hJ h0 hC⟩⟩
theorem bB (h : iZ a l c m = true) : rt a l = true ∧ rt c m = true ∧ m ≤ l ∧ c ≤ a ∧ a + sp l ≤ c + sp m := by
 have h0 := h
 unfold iZ at h
 simp only [Bool.and_eq_true, decide_eq_true_eq] at h
 obtain ⟨⟨⟨h1, h2⟩, h3⟩, h4⟩ := h
 rw [IB a l c m h1 h2] at h0
 unfold qO at h0
 simp only [Bool.and_eq_true, decide_eq_true_eq] at h0
 exact ⟨h1, h2, h3, h0.1.1.2, by omega⟩
theorem nN (h1 : rt a l = true) (h2 : rt c m = true) (h3 : c ≤ a) (h4 : a + sp l ≤ c + sp m) : iZ a l c m = true := by
 have := cG l
 rw [IB a l c m h1 h2]
 unfold qO
 rw [h2]
 simp only [Bool.true_and, Bool.and_eq_true, decide_eq_true_eq]
 omega
theorem xA (h : gF a l c m = true) : rt a l = true ∧ rt c m = true ∧ a < c + sp m ∧ c < a + sp l := by
 have h1 : rt a l = true ∧ rt c m = true := by
  unfold gF at h
  rcases Bool.or_eq_true_iff.1 h with h | h
  ·exact ⟨(bB h).1, (bB h).2.1⟩
  ·exact ⟨(bB h).2.1, (bB h).1⟩
 rw [IC a l c m h1.1 h1.2] at h
 simp only [Bool.and_eq_true, decide_eq_true_eq] at h
 exact ⟨h1.1, h1.2, by omega, by omega⟩
theorem qQ (h1 : rt a l = true) (h2 : rt c m = true) (h3 : a < c + sp m) (h4 : c < a + sp l) : gF a l c m = true := by
 rw [IC a l c m h1 h2]
 simp only [Bool.and_eq_true, decide_eq_true_eq]
 omega
theorem fQ (a l c m : Int) : gF a l c m = gF c m a l := by unfold gF; exact Bool.or_comm _ _
theorem P1 (h : gF a l c m = true) : iZ a l c m = true ∨ iZ c m a l = true := by
 unfold gF at h; exact Bool.or_eq_true_iff.1 h
theorem oW {k : Int} (h : iZ a l c m = true) (g : iZ c m e k = true) : iZ a l e k = true := by
 obtain ⟨h1, h2, h3, h4, h5⟩ := bB h
 obtain ⟨g1, g2, g3, g4, g5⟩ := bB g
 exact nN h1 g2 (by omega) (by omega)
theorem P2 (h : iZ a l c m = true) : gF a l c m = true := by unfold gF; rw [h]; rfl
theorem DB (h : rt a l = true) : iZ a l a l = true := nN h h (by omega) (by omega)
theorem BP (h0 : 0 ≤ l) (h1 : l < 16) : sp l = 2 * sp (l + 1) := by
 rw [AG l h0 (by omega), AG (l + 1) (by omega) (by omega)]
 have : (16 - l).toNat = (16 - (l + 1)).toNat + 1 := by omega
 rw [this, Int.pow_succ]
 omega
theorem MD (h0 : 0 ≤ l) (h1 : l ≤ 16) (h2 : 0 ≤ a) (h3 : a ≤ 65535) (h4 : sp l ∣ a) : rt a l = true := by
 unfold rt chk
 rw [if_neg (by omega), if_pos (Int.emod_eq_zero_of_dvd h4)]
 rfl
theorem SE (h : rt a l = true) : a + sp l ≤ 65536 := by
 obtain ⟨h0, h1, h2, h3, h4⟩ := bH h
 have hd : sp l ∣ 65536 := by have := lB (l := l) (m := 0) (by omega) h0 h1; simpa [sp] using this
 exact rP (cG l) (Int.dvd_of_emod_eq_zero h4) hd (by omega)
theorem BQ (h : rt a l = true) (h16 : l < 16) : rt a (l + 1) = true := by
 obtain ⟨h0, h1, h2, h3, h4⟩ := bH h
 exact MD (by omega) (by omega) h2 h3 (Int.dvd_trans (lB h0 (by omega) (by omega)) (Int.dvd_of_emod_eq_zero h4))
theorem wQ (h : rt a l = true) (h16 : l < 16) : rt (a + sp (l + 1)) (l + 1) = true := by
 obtain ⟨h0, h1, h2, h3, h4⟩ := bH h
 have := SE h
 have := BP h0 h16
 have := cG (l + 1)
 exact MD (by omega) (by omega) (by omega) (by omega) (Int.dvd_add (Int.dvd_trans (lB h0 (by omega) (by omega)) (Int.dvd_of_emod_eq_zero h4)) (Int.dvd_refl _))
theorem jS : mtsAny a l ps = true ↔ ∃ u ∈ ps, gF a l u.1 u.2 = true := by
 unfold mtsAny aK
 rw [List.any_eq_true]
 constructor
 ·rintro ⟨i, hi, h⟩
  rw [List.mem_range] at hi
  refine ⟨ps[i], List.getElem_mem hi, ?_⟩
  simpa [dA, eA, List.getD_eq_getElem?_getD, List.getElem?_eq_getElem hi] using h
 ·rintro ⟨u, hu, h⟩
  obtain ⟨i, hi, rfl⟩ := List.getElem_of_mem hu
  refine ⟨i, List.mem_range.2 hi, ?_⟩
  simpa [dA, eA, List.getD_eq_getElem?_getD, List.getElem?_eq_getElem hi] using h
theorem qR : nK a l ps = true ↔ ∃ u ∈ ps, iZ a l u.1 u.2 = true := by
 unfold nK aK
 rw [List.any_eq_true]
 constructor
 ·rintro ⟨i, hi, h⟩
  rw [List.mem_range] at hi
  refine ⟨ps[i], List.getElem_mem hi, ?_⟩
  simpa [dA, eA, List.getD_eq_getElem?_getD, List.getElem?_eq_getElem hi] using h
 ·rintro ⟨u, hu, h⟩
  obtain ⟨i, hi, rfl⟩ := List.getElem_of_mem hu
  refine ⟨i, List.mem_range.2 hi, ?_⟩
  simpa [dA, eA, List.getD_eq_getElem?_getD, List.getElem?_eq_getElem hi] using h
theorem xB {b : Bool} (h : ¬ b = true) : b = false := by cases b <;> simp_all
structure DC (ps : List (Int × Int)) (a l : Int) (H : List (Int × Int)) : Prop where
 free : ∀ h ∈ H, iZ h.1 h.2 a l = true ∧ mtsAny h.1 h.2 ps = false
 all : ∀ x k, iZ x k a l = true → mtsAny x k ps = false → ∃ h ∈ H, iZ x k h.1 h.2 = true
 rise : H.Pairwise fun h g => h.1 + sp h.2 ≤ g.1
theorem P3 {x k : Int} (h : iZ x k a l = true) (hf : mtsAny a l ps = false) : mtsAny x k ps = false := by
 refine xB fun hm => ?_
 obtain ⟨u, hu, h1⟩ := jS.1 hm
 have h2 := xA h1
 have h3 := bB h
 have : mtsAny a l ps = true := jS.2 ⟨u, hu, qQ h3.2.1 h2.2.1 (by omega) (by omega)⟩
 rw [this] at hf; cases hf
theorem ME {x k : Int} (h : iZ x k a l = true) (hk : l < k) (h16 : l < 16) : iZ x k a (l + 1) = true ∨ iZ x k (a + sp (l + 1)) (l + 1) = true := by
 obtain ⟨h1, h2, h3, h4, h5⟩ := bB h
 obtain ⟨k0, k1, x0, x1, xd⟩ := bH h1
 obtain ⟨l0, l1, a0, a1, ad⟩ := bH h2
 have hs := BP l0 h16
 by_cases hx : x < a + sp (l + 1)
 ·left
  refine nN h1 (BQ h2 h16) h4 ?_
  have d1 : sp k ∣ sp (l + 1) := lB (by omega) (by omega) k1
  have d2 : sp (l + 1) ∣ a := Int.dvd_trans (lB l0 (by omega) (by omega)) (Int.dvd_of_emod_eq_zero ad)
  exact rP (cG k) (Int.dvd_of_emod_eq_zero xd) (Int.dvd_add (Int.dvd_trans d1 d2) d1) hx
 ·right
  exact nN h1 (wQ h2 h16) (by omega) (by omega)
theorem BR (ps : List (Int × Int)) : ∀ (f : Nat) (a l : Int), rt a l = true → (f : Int) = 16 - l → DC ps a l (hol ps f a l)
 | 0, a, l, hr, hf => by
  have hl : l = 16 := by omega
  cases hm : mtsAny a l ps
  ·simp only [hol, hm]
   exact ⟨by simp [DB hr, hm], fun x k hx _ => ⟨(a, l), by simp, hx⟩, by simp⟩
  ·simp only [hol, hm]
   refine ⟨by simp, fun x k hx hfr => ?_, by simp⟩
   exfalso
   obtain ⟨g1, g2, g3, g4, g5⟩ := bB hx
   have hxe : k = l := by have := bH g1; omega
   subst hxe
   have : x = a := by omega
   subst this
   rw [hm] at hfr; cases hfr
 | f + 1, a, l, hr, hf => by
  have h16 : l < 16 := by omega
  have l0 := (bH hr).1
  cases hm : mtsAny a l ps
  ·simp only [hol, hm]
   exact ⟨by simp [DB hr, hm], fun x k hx _ => ⟨(a, l), by simp, hx⟩, by simp⟩
  ·cases hi : nK a l ps
   ·simp only [hol, hm, hi]
    have A := BR ps f a (l + 1) (BQ hr h16) (by omega)
    have B := BR ps f (a + sp (l + 1)) (l + 1) (wQ hr h16) (by omega)
    have hs := BP l0 h16
    have pl := cG (l + 1)
    have iA : iZ a (l + 1) a l = true := nN (BQ hr h16) hr (by omega) (by omega)
    have iB : iZ (a + sp (l + 1)) (l + 1) a l = true := nN (wQ hr h16) hr (by omega) (by omega)
    refine ⟨?_, ?_, ?_⟩
    ·intro h hh
     simp only [if_true, Bool.false_eq_true, if_false, List.mem_append] at hh
     rcases hh with hh | hh
     ·exact ⟨oW (A.free h hh).1 iA, (A.free h hh).2⟩
     ·exact ⟨oW (B.free h hh).1 iB, (B.free h hh).2⟩
    ·intro x k hx hfr
     have hk : l < k := by
      obtain ⟨g1, g2, g3, g4, g5⟩ := bB hx
      by_cases hk : l < k
      ·exact hk
      ·have hkl : k = l := by omega
       subst hkl
       have : x = a := by omega
       subst this
       rw [hm] at hfr; cases hfr
     simp only [if_true, Bool.false_eq_true, if_false, List.mem_append]
     rcases ME hx hk h16 with h1 | h1
     ·obtain ⟨h, hh, h2⟩ := A.all x k h1 hfr
      exact ⟨h, .inl hh, h2⟩
     ·obtain ⟨h, hh, h2⟩ := B.all x k h1 hfr
      exact ⟨h, .inr hh, h2⟩
    ·simp only [if_true, Bool.false_eq_true, if_false]
     rw [List.pairwise_append]
     refine ⟨A.rise, B.rise, fun h hh g hg => ?_⟩
     have h1 := bB (A.free h hh).1
     have h2 := bB (B.free g hg).1
     omega
   ·simp only [hol, hm, hi]
    refine ⟨by simp, fun x k hx hfr => ?_, by simp⟩
    exfalso
    obtain ⟨u, hu, h1⟩ := qR.1 hi
    have : mtsAny x k ps = true := jS.2 ⟨u, hu, P2 (oW hx h1)⟩
    rw [this] at hfr; cases hfr
structure nE (ps : List (Int × Int)) (a l : Int) : Prop where
 inn : ∀ u ∈ ps, iZ u.1 u.2 a l = true
 rise : ps.Pairwise fun h g => h.1 + sp h.2 ≤ g.1
theorem jG (h : i < ps.length) : dA ps i = ps[i].1 := by
 simp [dA, List.getD_eq_getElem?_getD, List.getElem?_eq_getElem h]
theorem mE (h : i < ps.length) : eA ps i = ps[i].2 := by
 simp [eA, List.getD_eq_getElem?_getD, List.getElem?_eq_getElem h]
theorem IE (h : eN a l ps = true) : nE ps a l := by
 unfold eN at h
 rw [List.all_eq_true] at h
 have ok : ∀ i (hi : i < ps.length), iZ ps[i].1 ps[i].2 a l = true := fun i hi => by
  have := h i (List.mem_range.2 hi)
  unfold JE at this
  rw [Bool.and_eq_true, jG hi, mE hi] at this
  exact this.1
 have nx : ∀ i (hi : i + 1 < ps.length), ps[i].1 + sp ps[i].2 ≤ ps[i + 1].1 := fun i hi => by
  have := h (i + 1) (List.mem_range.2 hi)
  unfold JE at this
  rw [Bool.and_eq_true] at this
  have h2 := this.2
  simp only [Nat.add_sub_cancel, Nat.add_eq_zero_iff, Nat.one_ne_zero, and_false, Bool.or_eq_true, Bool.and_eq_true, decide_eq_true_eq, Bool.not_eq_true', beq_iff_eq, false_or] at h2
  rw [jG hi, mE hi, jG (by omega), mE (by omega)] at h2
  obtain ⟨h3, h4⟩ := h2
  have h5 := (bB (ok i (by omega))).1
  have h6 := (bB (ok (i + 1) hi)).1
  have p := cG ps[i + 1].2
  by_cases h7 : ps[i].1 + sp ps[i].2 ≤ ps[i + 1].1
  ·exact h7
  ·have := qQ h5 h6 (by omega) (by omega)
   rw [this] at h4; cases h4
 refine ⟨fun u hu => ?_, ?_⟩
 ·obtain ⟨i, hi, rfl⟩ := List.getElem_of_mem hu
  exact ok i hi
 ·rw [List.pairwise_iff_getElem]
  intro i j hi hj hij
  induction j with
  | zero => omega
  | succ j ih =>
   by_cases he : i = j
   ·subst he; exact nx i hj
   ·have h1 := ih (by omega) (by omega)
    have h2 := nx j hj
    have h3 := cG ps[j].2
    omega
def DD (ps : List (Int × Int)) (a l z x : Int) : Prop := iZ x z a l = true ∧ mtsAny x z ps = false
def UU (ps : List (Int × Int)) (a l z : Int) : Option Int → Prop
 | some x => DD ps a l z x ∧ ∀ y, DD ps a l z y → x ≤ y
 | none => ∀ y, ¬ DD ps a l z y
theorem P4 {x k : Int} (h : rt x k = true) (hz : k ≤ z) (h16 : z ≤ 16) : rt x z = true := by
 obtain ⟨h0, h1, h2, h3, h4⟩ := bH h
 exact MD (by omega) h16 h2 h3 (Int.dvd_trans (lB h0 hz h16) (Int.dvd_of_emod_eq_zero h4))
theorem MF {x k : Int} (h : rt x k = true) (hz : k ≤ z) (h16 : z ≤ 16) : iZ x z x k = true :=
 nN (P4 h hz h16) h (by omega) (by have := BN (bH h).1 hz h16; omega)
theorem F5 (hr : H.Pairwise fun h g => h.1 + sp h.2 ≤ g.1) {p : (Int × Int) → Bool} {h g : Int × Int} (hf : H.find? p = some h) (hg : g ∈ H) (hp : p g = true) : h.1 ≤ g.1 := by
 induction H with
 | nil => cases hg
 | cons e t ih =>
  rw [List.pairwise_cons] at hr
  rw [List.find?_cons] at hf
  cases he : p e
  ·rw [he] at hf
   rcases List.mem_cons.1 hg with rfl | hg
   ·rw [hp] at he; cases he
   ·exact ih hr.2 hf hg
  ·rw [he] at hf
   simp only [Option.some.injEq] at hf
   subst hf
   rcases List.mem_cons.1 hg with rfl | hg
   ·exact Int.le_refl _
   ·have := hr.1 g hg; have := cG e.2; omega
theorem P5 (hH : DC ps a l H) (h16 : z ≤ 16) :
  UU ps a l z ((H.find? fun h => decide (h.2 ≤ z)).map (·.1)) := by
 cases hf : H.find? fun h => decide (h.2 ≤ z) with
 | none =>
  intro y hy
  obtain ⟨g, hg, h1⟩ := hH.all y z hy.1 hy.2
  have := List.find?_eq_none.1 hf g hg
  have h2 := bB h1
  simp at this
  omega
 | some h =>
  have hm := List.mem_of_find?_eq_some hf
  have hz : h.2 ≤ z := by have := List.find?_some hf; simpa using this
  obtain ⟨h1, h2⟩ := hH.free h hm
  have hi := MF (bB h1).1 hz h16
  refine ⟨⟨oW hi h1, P3 hi h2⟩, fun y hy => ?_⟩
  obtain ⟨g, hg, h3⟩ := hH.all y z hy.1 hy.2
  have h4 := bB h3
  have := F5 hH.rise hf hg (by simpa using h4.2.2.1)
  show h.1 ≤ y
  omega
theorem MG {x : Int} : qO a l x = true ↔ rt a l = true ∧ a ≤ x ∧ x < a + sp l := by
 unfold qO
 simp only [Bool.and_eq_true, decide_eq_true_eq, and_assoc]
attribute [local go_sem] Oper.semAt_some
theorem PS.keeps {n n₀ : Nat} {ps : List (Int × Int)} (h : PS w x n ps) (hk : ∀ k o, k < n₀ → w.heap[k]? = some o → w'.heap[k]? = some o) (hx : 0 < n → ∀ q, x = some q → q.block < n₀) : PS w' x n ps where
 len := h.len
 cells := fun i hi => by
  obtain ⟨b, o, hb, c0, c1⟩ := h.cells i hi
  have hlt : b < n₀ := hx (by omega) _ hb
  have hs : b < w.heap.size := block_lt_of_cell c0
  have e : w'.heap[b]? = w.heap[b]? := by
   have e : w.heap[b]? = some w.heap[b] := Array.getElem?_eq_some_iff.2 ⟨hs, rfl⟩
   rw [hk b _ hlt e, e]
  exact ⟨b, o, hb, by rw [← c0]; simp [World.cell?, e], by rw [← c1]; simp [World.cell?, e]⟩
theorem jN {β : Type} {B D : Nat} {o : Obj} (h : D < B) : OwnFrom B (fun (_ : β) W => W.heap[D]? = some o) :=
 fun _ _ _ _ hs hg hr => lK hg hr h hs
theorem AJ {k' l' : Nat} {fn : FuncId} {assign body : Code} {R : Ending → World → Prop} (h : RoundIn Fence.wide k P yl fn tmps assign body V R) : RoundIn (Fence.wide.inRound l') k' P yl fn tmps assign body V R :=
 ⟨h.1, fun c cs _ => h.2 c cs (fun d h => by cases h)⟩
theorem P6 (p q r s : Value) (W : World) : Sem.run Tryz.prog (Instr.index 285 (.agg #[p, q, r, s]) (.int .i64 0)) W = .ok (.agg #[p, q]) W := by kernel_rfl
theorem P7 (p q r s : Value) (W : World) : Sem.run Tryz.prog (Instr.index 285 (.agg #[p, q, r, s]) (.int .i64 1)) W = .ok (.agg #[r, s]) W := by kernel_rfl
theorem uU (W : World) (o : Obj) (a l : Int) (x : Option Addr) (n c : Nat) : ∃ V, V = ((W.alloc o).alloc (.cells #[.int .i64 a, .int .i64 l] 49)).alloc (.cells #[.slice x n c] 94) ∧ Below W.heap.size W V ∧
  V.cell? ⟨W.heap.size + 1, 0, none⟩ = some (.int .i64 a) ∧ V.cell? ⟨W.heap.size + 1, 1, none⟩ = some (.int .i64 l) ∧ V.heap[W.heap.size + 1 + 1]? = some (.cells #[.slice x n c] 94) ∧ V.heap.size = W.heap.size + 3 := by
 refine ⟨_, rfl, (cB W _ _).alloc (by simp; omega) _, ?_, ?_, ?_, by simp⟩
 ·have h1 : ((W.alloc o).alloc (.cells #[.int .i64 a, .int .i64 l] 49)).cell? ⟨(W.alloc o).heap.size, 0, none⟩ = some (.int .i64 a) := by simp
  rw [World.size_alloc] at h1
  exact cell_later (bl1 _ _) h1
 ·have h1 : ((W.alloc o).alloc (.cells #[.int .i64 a, .int .i64 l] 49)).cell? ⟨(W.alloc o).heap.size, 1, none⟩ = some (.int .i64 l) := by simp
  rw [World.size_alloc] at h1
  exact cell_later (bl1 _ _) h1
 ·have h1 := World.alloc_heap_new ((W.alloc o).alloc (.cells #[.int .i64 a, .int .i64 l] 49)) (.cells #[.slice x n c] 94)
  rwa [World.size_alloc, World.size_alloc] at h1
def MH (n₀ : Nat) (x : Option Addr) (n c : Nat) (ps : List (Int × Int)) (f : Nat) : Prop :=
 ∀ (a l : Int), rt a l = true → (f : Int) = 16 - l → ∀ (m : Nat) (w : World) (pb ub : Nat),
  w.cell? ⟨pb, 0, none⟩ = some (.int .i64 a) → w.cell? ⟨pb, 1, none⟩ = some (.int .i64 l) → w.heap[ub]? = some (.cells #[.slice x n c] 94) → ub ≠ n₀ → n₀ < w.heap.size → PS w x n ps →
  JG (TH n₀) n₀ ub Fence.wide m Tryz.prog 226 #[.pointer (some ⟨pb, 0, none⟩), .pointer (some ⟨ub, 0, none⟩)] (fun x => #[lL x]) (fun xs => xs = hol ps f a l) (fun pre => pre <+: hol ps f a l) w
theorem BS (n₀ : Nat) (x : Option Addr) (n c : Nat) (ps : List (Int × Int)) (hn : n ≤ 64) (hx : 0 < n → ∀ q, x = some q → q.block < n₀) (f : Nat) (ih : MH n₀ x n c ps f) (a l : Int) (hm : mtsAny a l ps = true) (hi : nK a l ps = false) (hr : rt a l = true) (hf : ((f + 1 : Nat) : Int) = 16 - l) (m : Nat) (w : World) (pb ub : Nat)
  (p0 : w.cell? ⟨pb, 0, none⟩ = some (.int .i64 a)) (p1 : w.cell? ⟨pb, 1, none⟩ = some (.int .i64 l)) (u0 : w.heap[ub]? = some (.cells #[.slice x n c] 94)) (hub : ub ≠ n₀) (hn₀ : n₀ < w.heap.size) (hp : PS w x n ps) :
  JG (TH n₀) n₀ ub Fence.wide m Tryz.prog 226 #[.pointer (some ⟨pb, 0, none⟩), .pointer (some ⟨ub, 0, none⟩)] (fun x => #[lL x]) (fun xs => xs = hol ps (f + 1) a l) (fun pre => pre <+: hol ps (f + 1) a l) w := by
 have hh : hol ps (f + 1) a l = hol ps f a (l + 1) ++ hol ps f (a + sp (l + 1)) (l + 1) := by simp [hol, hm, hi]
 have h16 : l < 16 := by omega
 rw [hh]
 clear hh
 intro yl L J Jx W hW hJ hJx hL hY h0
 have HY : Hid (∀ pre x W1, pre ++ [x] <+: hol ps f a (l + 1) ++ hol ps f (a + sp (l + 1)) (l + 1) → J pre W1 → YieldAt Fence.wide (m - 1) Tryz.prog yl #[lL x] W1 fun e W' => Kl (TH n₀) n₀ L W1 W' ∧ ((e = .returned (.bool true) ∧ J (pre ++ [x]) W') ∨ (e = .returned (.bool false) ∧ Jx (pre ++ [x]) W'))) := hY
 have q0 := cell_later hW p0
 have q1 := cell_later hW p1
 have hub' : ub < w.heap.size := (Array.getElem?_eq_some_iff.1 u0).1
 have v0 : W.heap[ub]? = some (.cells #[.slice x n c] 94) := (hW.block ub hub').trans u0
 have vc : W.cell? ⟨ub, 0, none⟩ = some (.slice x n c) := by simp [World.cell?, v0]
 have hnW : n₀ < W.heap.size := Nat.lt_of_lt_of_le hn₀ hW.size
 have hp' := hp.later hW
 clear hY p0 p1 u0 hp
 have k0 : ∀ q, (W.alloc q).cell? ⟨pb, 0, none⟩ = some (.int .i64 a) := fun q => cell_later (bl1 W q) q0
 have k1 : ∀ q, (W.alloc q).cell? ⟨pb, 1, none⟩ = some (.int .i64 l) := fun q => cell_later (bl1 W q) q1
 have k2 : ∀ q, (W.alloc q).cell? ⟨ub, 0, none⟩ = some (.slice x n c) := fun q => cell_later (bl1 W q) vc
 refine callsIn_of_wp_marks Tryz.func226 rfl trivial ?_ rfl
 simp only [Tryz.ntmps226, List.size_toArray, List.length_cons, List.length_nil, Nat.reduceAdd, Nat.reduceSub, Array.replicate_succ, Array.replicate_zero, List.push_toArray, List.append_toArray, List.nil_append, List.cons_append]
 gi_wp2_with fail
 refine ⟨trivial, (fun h => (by cases h)), ?_⟩
 refine (callsIn_wide.2 (qP a l x n c ps _ (hp'.later (bl1 W _)) hn)).mono ?_
 rintro e w1 ⟨rfl, hb1⟩
 have hB : Below W.heap.size W w1 := (bl1 W _).trans (hb1.mono (by simp))
 have y0 : w1.heap[W.heap.size]? = some (.cells #[.func (.yield yl) #[] #[]] 262) := (hb1.block _ (by simp)).trans (World.alloc_heap_new W _)
 have r0 := cell_later hB q0
 have r1 := cell_later hB q1
 have v1 := cell_later hB vc
 have hl := hp'.len
 clear k0 k1 k2
 rw [hm]
 gi_wp2_with fail
 refine ⟨trivial, (fun h => (by cases h)), ?_⟩
 refine (callsIn_wide.2 (gO 229 _ x n c ps _ _ (hp'.later hB) hn (AH a l pb n ps _ r0 r1) DA)).mono ?_
 rintro e w2 ⟨rfl, hb2⟩
 have hC : Below W.heap.size W w2 := hB.trans (hb2.mono hB.size)
 have y2 : w2.heap[W.heap.size]? = _ := (hb2.block _ (Array.getElem?_eq_some_iff.1 y0).1).trans y0
 have hi' : aK n (fun i => iZ a l (dA ps i) (eA ps i)) = false := by rw [← hl]; exact hi
 rw [hi']
 have z0 := cell_later hC q0
 have z1 := cell_later hC q1
 gi_wp2_with fail
 refine ⟨trivial, (fun h => (by cases h)), ?_⟩
 refine (callsIn_wide.2 (JD a l _ hr h16)).mono ?_
 rintro e w3 ⟨rfl, hb3⟩
 have y3 : w3.heap[W.heap.size]? = _ := (hb3.block _ (Array.getElem?_eq_some_iff.1 y2).1).trans y2
 have hD : Below W.heap.size W w3 := hC.trans (hb3.mono hC.size)
 clear hb1 hb2 hb3 y0 y2 r0 r1 z0 z1 v1
 gi_wp2_with fail
 have hE : Below W.heap.size W ((w3.alloc (.cells #[.int .i64 a, .int .i64 (l + 1)] 49)).alloc (.cells #[.int .i64 (a + sp (l + 1)), .int .i64 (l + 1)] 49)) := hD.trans ((cB w3 _ _).mono hD.size)
 have y4 : ((w3.alloc (.cells #[.int .i64 a, .int .i64 (l + 1)] 49)).alloc (.cells #[.int .i64 (a + sp (l + 1)), .int .i64 (l + 1)] 49)).heap[W.heap.size]? = _ := ((cB w3 _ _).block _ (Array.getElem?_eq_some_iff.1 y3).1).trans y3
 generalize ((w3.alloc (.cells #[.int .i64 a, .int .i64 (l + 1)] 49)).alloc (.cells #[.int .i64 (a + sp (l + 1)), .int .i64 (l + 1)] 49)) = W4 at hE y4 ⊢
 clear hD y3 hB hC
 have v4 := cell_later hE vc
 have kv : ∀ q, (W4.alloc q).cell? ⟨ub, 0, none⟩ = some (.slice x n c) := fun q => cell_later (bl1 W4 q) v4
 refine vU ?_
 gi_wp2_with fail
 rw [P6]
 gi_wp2_with fail
 refine ⟨trivial, (fun h => (by cases h)), ?_⟩
 refine (wZ a (l + 1) x n c _ _).mono ?_
 rintro e w5 ⟨rfl, hw5⟩
 obtain ⟨W5, hW5, b5, c50, c51, u5, s5⟩ := uU W4 (.cells #[.int .i64 a, .int .i64 (l + 1)] 49) a (l + 1) x n c
 rw [← hW5] at hw5
 subst hw5
 clear hW5
 gi_wp2_with fail
 have hz4 := hE.size
 have hKW : Kl (TH n₀) n₀ L W W4 := Kl.of_below hE
 have hTy : ∀ {V : World}, Kl (TH n₀) n₀ L W4 V → V.heap[W.heap.size]? = some (.cells #[.func (.yield yl) #[] #[]] 262) := fun hk =>
  hk.same _ _ (fun hm => by have := (hL _ hm).2.1; omega) y4 (.inr (.inr ⟨hnW, _, .inr rfl⟩))
 have v4b : W4.heap[ub]? = some (.cells #[.slice x n c] 94) := (hE.block ub (Nat.lt_of_lt_of_le hub' hW.size)).trans v0
 have hTu : ∀ {V : World}, Kl (TH n₀) n₀ L W4 V → V.heap[ub]? = some (.cells #[.slice x n c] 94) := fun hk =>
  hk.same _ _ (fun hm => (hL _ hm).2.2 rfl) v4b (by rcases Nat.lt_or_gt_of_ne hub with h | h; exact .inl h; exact .inr (.inr ⟨h, _, .inl rfl⟩))
 have hTp : ∀ {V : World}, Kl (TH n₀) n₀ L W4 V → PS V x n ps := fun hk => (hp'.later hE).keeps (fun k o hkn ho => hk.same k o (fun hm => by have := (hL _ hm).1; omega) ho (.inl hkn)) hx
 refine gM (h := 9) (T := TH n₀) (n₀ := n₀) (L := L) rfl rfl (gf := 226) (lb := #[.pointer (some ⟨W4.heap.size + 1, 0, none⟩), .pointer (some ⟨W4.heap.size + 1 + 1, 0, none⟩)]) rfl trivial nM
  (ih a (l + 1) (BQ hr h16) (by omega) _ w5 _ _ c50 c51 u5 (by omega) (by omega) ((hp'.later hE).later b5)) (by omega) (by omega) (fun k hk => ⟨(hL k hk).1, by have := (hL k hk).2; omega, by have := (hL k hk).2; omega⟩)
  (fun pre V => J (pre) V ∧ Kl (TH n₀) n₀ L W4 V) (fun pre V => Jx (pre) V ∧ Kl (TH n₀) n₀ L W4 V)
  (eY (rQ hJ (by omega)) (BO (by omega))) (eY (rQ hJx (by omega)) (BO (by omega)))
  ⟨OwnFrom.later hJ (OwnFrom.later hJ h0 hE) b5, Kl.of_below b5⟩ ?assign ?body ?done ?stop
 case assign =>
  intro l' x' V K hK
  simp only [lL, List.setIfInBounds_toArray, List.set_cons_succ, List.set_cons_zero] at hK ⊢
  gi_wp2_with fail
  exact hK _ _ (bl1 V _) (Nat.le_refl _) (by simp) (by simp)
 case body =>
  rintro l' pre x' Bx V hl' hsp ⟨hj, hk⟩ c0 c1
  have hy := hTy hk
  have hyc : V.cell? ⟨W.heap.size, 0, none⟩ = some (.func (.yield yl) #[] #[]) := by simp [World.cell?, hy]
  obtain ⟨fn, tmps, assign, body, hyy, hR⟩ := HY.out _ x' V (hsp.trans (List.prefix_append _ _)) hj
  simp only [lL, List.setIfInBounds_toArray, List.set_cons_succ, List.set_cons_zero] at hyy ⊢
  gi_wp2_with fail
  refine ⟨(fun h => (by cases h)), ?_⟩
  refine (AJ hR).mono ?_
  rintro e V2 ⟨hk2, (⟨rfl, hj2⟩ | ⟨rfl, hj2⟩)⟩
  ·gi_wp2_with fail
   exact ⟨hk2, hj2, hk.trans hk2⟩
  ·gi_wp2_with fail
   exact ⟨hk2, hj2, hk.trans hk2⟩
 case stop =>
  rintro D pre V hD hpre ⟨hj, hk⟩ hkl hdef
  gi_wp2_with fail
  refine ⟨by simp, .inl ⟨_, _, rfl, run_takeDeferred hdef, ?_⟩⟩
  refine ⟨_, results_none rfl _ _ _, ?_⟩
  exact ⟨⟨_, rfl⟩, (hKW.trans hk).putNew _ _ (by omega), .inr ⟨pre, hpre.trans (List.prefix_append _ _), hJx.putObj _ hj (by omega) hdef rfl⟩⟩
 case done =>
  rintro D xs V hD rfl ⟨hj, hk⟩ hkl hdef
  have vV : V.cell? ⟨ub, 0, none⟩ = some (.slice x n c) := by simp [World.cell?, hTu hk]
  have kv : ∀ q, (V.alloc q).cell? ⟨ub, 0, none⟩ = some (.slice x n c) := fun q => cell_later (bl1 V q) vV
  have hV := hkl.size
  clear c50 c51 u5 hkl
  gi_wp2_with fail
  rw [P7]
  gi_wp2_with fail
  refine ⟨trivial, (fun h => (by cases h)), ?_⟩
  refine (wZ (a + sp (l + 1)) (l + 1) x n c _ _).mono ?_
  rintro e w6 ⟨rfl, hw6⟩
  obtain ⟨W6, hW6, b6, c60, c61, u6, s6⟩ := uU V (.cells #[.int .i64 (a + sp (l + 1)), .int .i64 (l + 1)] 49) (a + sp (l + 1)) (l + 1) x n c
  rw [← hW6] at hw6
  subst hw6
  clear hW6
  have hdef6 : w6.heap[D]? = some (.deferred (some [])) := (b6.block D (Array.getElem?_eq_some_iff.1 hdef).1).trans hdef
  have hk6 : Kl (TH n₀) n₀ L W4 w6 := hk.trans (Kl.of_below b6)
  gi_wp2_with fail
  have hDlt : D < w6.heap.size := (Array.getElem?_eq_some_iff.1 hdef6).1
  refine gM (h := 9) (T := TH n₀) (n₀ := n₀) (L := L) rfl rfl (gf := 226) (lb := #[.pointer (some ⟨V.heap.size + 1, 0, none⟩), .pointer (some ⟨V.heap.size + 1 + 1, 0, none⟩)]) rfl trivial nM
   (ih (a + sp (l + 1)) (l + 1) (wQ hr h16) (by omega) _ w6 _ _ c60 c61 u6 (by omega) (by omega) ((hTp hk).later b6)) (by omega) (by omega) (fun k hk => ⟨(hL k hk).1, by have := (hL k hk).2; omega, by have := (hL k hk).2; omega⟩)
   (fun pre V => J (hol ps f a (l + 1) ++ pre) V ∧ Kl (TH n₀) n₀ L W4 V ∧ V.heap[D]? = some (.deferred (some []))) (fun pre V => Jx (hol ps f a (l + 1) ++ pre) V ∧ Kl (TH n₀) n₀ L W4 V ∧ V.heap[D]? = some (.deferred (some [])))
   (eY (ID (rQ hJ (by omega)) _) (eY (BO (by omega)) (jN hDlt))) (eY (ID (rQ hJx (by omega)) _) (eY (BO (by omega)) (jN hDlt)))
   ⟨by rw [List.append_nil]; exact OwnFrom.later hJ hj b6, hk6, hdef6⟩ ?assign ?body ?done ?stop
  case assign =>
   intro l' x' V3 K hK
   simp only [lL, List.setIfInBounds_toArray, List.set_cons_succ, List.set_cons_zero] at hK ⊢
   gi_wp2_with fail
   exact hK _ _ (bl1 V3 _) (Nat.le_refl _) (by simp) (by simp)
  case body =>
   rintro l' pre x' Bx V3 hl' hsp ⟨hj, hk, hD2⟩ c0 c1
   have hy := hTy hk
   have hyc : V3.cell? ⟨W.heap.size, 0, none⟩ = some (.func (.yield yl) #[] #[]) := by simp [World.cell?, hy]
   obtain ⟨fn, tmps, assign, body, hyy, hR⟩ := HY.out _ x' V3 (by rw [List.append_assoc]; exact (List.prefix_append_right_inj _).2 hsp) hj
   simp only [lL, List.setIfInBounds_toArray, List.set_cons_succ, List.set_cons_zero] at hyy ⊢
   gi_wp2_with fail
   refine ⟨(fun h => (by cases h)), ?_⟩
   refine (AJ hR).mono ?_
   rintro e V2 ⟨hk2, (⟨rfl, hj2⟩ | ⟨rfl, hj2⟩)⟩
   ·gi_wp2_with fail
    exact ⟨hk2, by rw [← List.append_assoc]; exact hj2, hk.trans hk2, hk2.same _ _ (fun hm => by have := (hL _ hm).2.1; omega) hD2 (.inr (.inl rfl))⟩
   ·gi_wp2_with fail
    exact ⟨hk2, by rw [← List.append_assoc]; exact hj2, hk.trans hk2, hk2.same _ _ (fun hm => by have := (hL _ hm).2.1; omega) hD2 (.inr (.inl rfl))⟩
  case stop =>
   rintro D2 pre V3 hD2 hpre ⟨hj3, hk3, hD3⟩ hkl hdef2
   gi_wp2_with fail
   have hDne : D2 ≠ D := by omega
   refine ⟨by simp, .inl ⟨_, _, rfl, run_takeDeferred hdef2, ?_⟩⟩
   refine ⟨by simp, .inl ⟨_, _, rfl, run_takeDeferred ((World.putObj_heap_other hDne.symm).trans hD3), ?_⟩⟩
   refine ⟨_, results_none rfl _ _ _, ?_⟩
   exact ⟨⟨_, rfl⟩, ((hKW.trans hk3).putNew _ _ (by omega)).putNew _ _ (by omega), .inr ⟨_, (List.prefix_append_right_inj _).2 hpre, hJx.putObj _ (hJx.putObj _ hj3 (by omega) hdef2 rfl) (by omega) ((World.putObj_heap_other hDne.symm).trans hD3) rfl⟩⟩
  case done =>
   rintro D2 xs V3 hD2 rfl ⟨hj3, hk3, hD3⟩ hkl hdef2
   have hDne : D2 ≠ D := by omega
   gi_wp2_with fail
   refine ⟨by simp, .inl ⟨_, _, rfl, run_takeDeferred hdef2, ?_⟩⟩
   refine ⟨by simp, .inl ⟨_, _, rfl, run_takeDeferred ((World.putObj_heap_other hDne.symm).trans hD3), ?_⟩⟩
   refine ⟨_, results_none rfl _ _ _, ?_⟩
   exact ⟨⟨_, rfl⟩, ((hKW.trans hk3).putNew _ _ (by omega)).putNew _ _ (by omega), .inl ⟨_, rfl, hJ.putObj _ (hJ.putObj _ hj3 (by omega) hdef2 rfl) (by omega) ((World.putObj_heap_other hDne.symm).trans hD3) rfl⟩⟩
theorem JI (h : mtsAny a 16 ps = true) : nK a 16 ps = true := by
 obtain ⟨u, hu, hm⟩ := jS.1 h
 have n := xA hm
 rcases P1 hm with h1 | h1
 ·exact qR.2 ⟨u, hu, h1⟩
 ·have n1 := bB h1
  have := (bH n.2.1).2.1
  refine qR.2 ⟨u, hu, nN n.1 n.2.1 ?_ ?_⟩
  ·have e : u.2 = 16 := by omega
   rw [e] at n1; omega
  ·have e : u.2 = 16 := by omega
   rw [e] at n1 ⊢; omega
theorem IF (n₀ : Nat) (x : Option Addr) (n c : Nat) (ps : List (Int × Int)) (hn : n ≤ 64) (hx : 0 < n → ∀ q, x = some q → q.block < n₀) : ∀ f, MH n₀ x n c ps f
 | 0 => fun a l hr hf m w pb ub p0 p1 u0 hub hn₀ hp => by
  have u1 : w.cell? ⟨ub, 0, none⟩ = some (.slice x n c) := by simp [World.cell?, u0]
  cases hm : mtsAny a l ps
  ·exact uT n₀ x n c ps hn 0 a l hm m w pb ub p0 p1 u1 hp
  ·have hl : l = 16 := by omega
   subst hl
   exact AI n₀ x n c ps hn 0 a 16 hm (JI hm) m w pb ub p0 p1 u1 hp
 | f + 1 => fun a l hr hf m w pb ub p0 p1 u0 hub hn₀ hp => by
  have u1 : w.cell? ⟨ub, 0, none⟩ = some (.slice x n c) := by simp [World.cell?, u0]
  cases hm : mtsAny a l ps
  ·exact uT n₀ x n c ps hn (f + 1) a l hm m w pb ub p0 p1 u1 hp
  ·cases hi : nK a l ps
   ·exact BS n₀ x n c ps hn hx f (IF n₀ x n c ps hn hx f) a l hm hi hr hf m w pb ub p0 p1 u0 hub hn₀ hp
   ·exact AI n₀ x n c ps hn (f + 1) a l hm hi m w pb ub p0 p1 u1 hp
attribute [local go_sem] Oper.semAt_some
theorem AK {β : Type} {B : Nat} {w : World} (h : w.heap.size ≤ B) : OwnFrom B (fun (_ : β) V => Below w.heap.size w V) :=
 fun _ X Y row hs hg hr => ⟨hg.os.trans hs.os, hg.tape.trans hs.tape, hg.output.trans hs.output, Nat.le_trans hs.size hg.size, fun k hk =>
  (hg.block k (Nat.lt_of_lt_of_le hk hs.size) (fun e => by have := (hr k e.symm).1; omega)).trans (hs.block k hk)⟩
theorem JJ {β : Type} {B : Nat} {p : β → Prop} : OwnFrom B (fun s (_ : World) => p s) := fun _ _ _ _ hs _ _ => hs
theorem aF {v : Obj} (o : Obj) (h : W.heap[k]? = some v) : (W.alloc o).heap[k]? = some v := (Below.heap_alloc _ _ _ (Array.getElem?_eq_some_iff.1 h).1).trans h
theorem aC (o : Obj) (h : k = W.heap.size) : (W.alloc o).heap[k]? = some o := by subst h; exact World.alloc_heap_new W o
theorem AL (h : Below n w V) {l : Nat} (hl : n ≤ l) (o : Obj) : Below n w (V.putObj l o) :=
 ⟨h.os, h.tape, h.output, by simpa using h.size, fun k hk => (World.putObj_heap_other (by omega)).trans (h.block k hk)⟩
theorem MI (h : V.heap[b]? = some (.cells #[p] t)) : V.cell? ⟨b, 0, none⟩ = some p ∧ V.frozen? ⟨b, 0, none⟩ = false := by
 simp [World.cell?, World.frozen?, h]
theorem nO (h : V.heap[b]? = some (.cells #[p, q] t)) : V.cell? ⟨b, 0, none⟩ = some p ∧ V.cell? ⟨b, 1, none⟩ = some q ∧ V.frozen? ⟨b, 0, none⟩ = false ∧ V.frozen? ⟨b, 1, none⟩ = false := by
 simp [World.cell?, World.frozen?, h]
theorem DE (p' q' : Value) (h : V.heap[b]? = some (.cells #[p, q] t)) : ((V.setCell ⟨b, 0, none⟩ p').setCell ⟨b, 1, none⟩ q').heap[b]? = some (.cells #[p', q'] t) := by
 have h1 := heap_setCell_same V b 0 _ t p' h
 have h2 := heap_setCell_same (V.setCell ⟨b, 0, none⟩ p') b 1 _ t q' h1
 simpa using h2
def AM (sb : Nat) : Value := .func (.func 210) #[] #[.pointer (some ⟨sb, 0, none⟩)]
def qS : Option (Int × Int) → Value
 | some h => .tuple #[.agg #[.int .i64 h.1, .int .i64 h.2], .bool true]
 | none => .tuple #[.agg #[.int .i64 0, .int .i64 0], .bool false]
theorem JK (w : World) (a l : Int) (x : Option Addr) (n c : Nat) (f : Value) : ∃ V, V = (((((w.alloc (.cells #[.int .i64 a, .int .i64 l, .slice x n c] 134)).alloc (.cells #[f] 262)).alloc (.cells #[.int .i64 0, .int .i64 0] 49)).alloc (.cells #[.bool false] 4)).alloc (.cells #[.int .i64 a, .int .i64 l] 49)).alloc (.cells #[.slice x n c] 94) ∧
  Below w.heap.size w V ∧ V.heap[w.heap.size + 1]? = some (.cells #[f] 262) ∧ V.heap[w.heap.size + 1 + 1]? = some (.cells #[.int .i64 0, .int .i64 0] 49) ∧ V.heap[w.heap.size + 1 + 1 + 1]? = some (.cells #[.bool false] 4) ∧
  V.cell? ⟨w.heap.size + 4, 0, none⟩ = some (.int .i64 a) ∧ V.cell? ⟨w.heap.size + 4, 1, none⟩ = some (.int .i64 l) ∧ V.heap[w.heap.size + 5]? = some (.cells #[.slice x n c] 94) ∧ V.heap.size = w.heap.size + 6 := by
 refine ⟨_, rfl, ?_, ?_, ?_, ?_, ?_, ?_, ?_, ?_⟩
 ·exact ((((cB w _ _).alloc (by simp; omega) _).alloc (by simp; omega) _).alloc (by simp; omega) _).alloc (by simp; omega) _
 ·exact aF _ (aF _ (aF _ (aF _ (aC _ (by simp)))))
 ·exact aF _ (aF _ (aF _ (aC _ (by simp))))
 ·exact aF _ (aF _ (aC _ (by simp)))
 ·have h := aF (.cells #[.slice x n c] 94) (aC (k := w.heap.size + 4) (W := ((((w.alloc (.cells #[.int .i64 a, .int .i64 l, .slice x n c] 134)).alloc (.cells #[f] 262)).alloc (.cells #[.int .i64 0, .int .i64 0] 49)).alloc (.cells #[.bool false] 4))) (.cells #[.int .i64 a, .int .i64 l] 49) (by simp))
  simp only [World.cell?, h]
  rfl
 ·have h := aF (.cells #[.slice x n c] 94) (aC (k := w.heap.size + 4) (W := ((((w.alloc (.cells #[.int .i64 a, .int .i64 l, .slice x n c] 134)).alloc (.cells #[f] 262)).alloc (.cells #[.int .i64 0, .int .i64 0] 49)).alloc (.cells #[.bool false] 4))) (.cells #[.int .i64 a, .int .i64 l] 49) (by simp))
  simp only [World.cell?, h]
  rfl
 ·exact aC _ (by simp)
 ·simp
theorem JL (a l z : Int) (x : Option Addr) (n c : Nat) (ps : List (Int × Int)) (hr : rt a l = true) (hn : n ≤ 64) (sb m : Nat) (w : World) (hp : PS w x n ps) (hs : w.cell? ⟨sb, 0, none⟩ = some (.int .i64 z)) :
  CallsIn Fence.wide m Tryz.prog 209 #[.agg #[.int .i64 a, .int .i64 l, .slice x n c], AM sb] w fun e w' =>
   e = .returned (qS ((hol ps (16 - l).toNat a l).find? fun h => decide (h.2 ≤ z))) ∧ Below w.heap.size w w' := by
 refine callsIn_of_wp_marks Tryz.func209 rfl trivial ?_ rfl
 simp only [Tryz.ntmps209, List.size_toArray, List.length_cons, List.length_nil, Nat.reduceAdd, Nat.reduceSub, Array.replicate_succ, Array.replicate_zero, List.push_toArray, List.append_toArray, List.nil_append, List.cons_append]
 gi_wp2_with fail
 refine ⟨trivial, (fun h => (by cases h)), ?_⟩
 refine (wZ a l x n c _ _).mono ?_
 rintro e w5 ⟨rfl, hw5⟩
 obtain ⟨W6, hW6, hB, y1, y2, y3, c0, c1, u5, s6⟩ := JK w a l x n c (AM sb)
 rw [← hW6] at hw5
 subst hw5
 clear hW6
 obtain ⟨l0, l1, -, -, -⟩ := bH hr
 gi_wp2_with fail
 have hx : 0 < n → ∀ q, x = some q → q.block < w.heap.size := fun h0 q hq => by
  obtain ⟨b, o, hb, c0, _⟩ := hp.cells 0 h0
  rw [hb] at hq
  cases hq
  exact block_lt_of_cell c0
 refine gM (h := 6) (T := TH w.heap.size) (n₀ := w.heap.size) (L := []) rfl rfl (gf := 226) (lb := #[.pointer (some ⟨w.heap.size + 4, 0, none⟩), .pointer (some ⟨w.heap.size + 5, 0, none⟩)]) rfl trivial nM
  (IF w.heap.size x n c ps hn hx (16 - l).toNat a l hr (by omega) _ w5 _ _ c0 c1 u5 (by omega) (by omega) (hp.later hB)) (by omega) (by omega) (fun k hk => (by cases hk))
  (fun pre V => (∀ h ∈ pre, decide (h.2 ≤ z) = false) ∧ Below w.heap.size w V ∧ V.heap[w.heap.size + 1]? = some (.cells #[AM sb] 262) ∧ V.heap[w.heap.size + 1 + 1]? = some (.cells #[.int .i64 0, .int .i64 0] 49) ∧ V.heap[w.heap.size + 1 + 1 + 1]? = some (.cells #[.bool false] 4))
  (fun pre V => (∃ pre' h, pre = pre' ++ [h] ∧ (∀ g ∈ pre', decide (g.2 ≤ z) = false) ∧ decide (h.2 ≤ z) = true ∧ V.heap[w.heap.size + 1 + 1]? = some (.cells #[.int .i64 h.1, .int .i64 h.2] 49)) ∧ Below w.heap.size w V ∧ V.heap[w.heap.size + 1 + 1 + 1]? = some (.cells #[.bool true] 4))
  (eY JJ (eY (AK (by omega)) (eY (jN (by omega)) (eY (jN (by omega)) (jN (by omega))))))
  (eY (fun s X Y row hs hg hr => by
   obtain ⟨p, h, e1, e2, e3, e4⟩ := hs
   exact ⟨p, h, e1, e2, e3, lK hg hr (by omega) e4⟩) (eY (AK (by omega)) (jN (by omega))))
  ⟨(fun h hh => (by cases hh)), hB, y1, y2, y3⟩ ?assign ?body ?done ?stop
 case assign =>
  intro l' x' V K hK
  simp only [lL, List.setIfInBounds_toArray, List.set_cons_succ, List.set_cons_zero] at hK ⊢
  gi_wp2_with fail
  exact hK _ _ (bl1 V _) (Nat.le_refl _) (by simp) (by simp)
 case body =>
  rintro l' pre x' Bx V hl' hsp ⟨hno, hb, g1, g2, g3⟩ d0 d1
  simp only [lL, List.setIfInBounds_toArray, List.set_cons_succ, List.set_cons_zero]
  have hw : V.cell? ⟨w.heap.size + 1, 0, none⟩ = some (AM sb) := by simp [World.cell?, g1]
  unfold AM at hw ⊢
  have hcall := JH
  obtain ⟨f0, f1, z0, z1⟩ := nO g2
  obtain ⟨f2, z2⟩ := MI g3
  gi_wp2_with fail
  refine ⟨trivial, (fun h => (by cases h)), ?_⟩
  have hsb : V.cell? ⟨sb, 0, none⟩ = some (.int .i64 z) := (hb.cell (p := ⟨sb, 0, none⟩) (block_lt_of_cell hs)).trans hs
  refine (CallsIn.inRound l' (callsIn_wide.2 (MB z x'.1 x'.2 sb V hsb))).mono ?_
  rintro e V2 ⟨rfl, hb2⟩
  have hV := hb.size
  have e1 := (hb2.block _ (Array.getElem?_eq_some_iff.1 g1).1).trans g1
  have e2 := (hb2.block _ (Array.getElem?_eq_some_iff.1 g2).1).trans g2
  have e3 := (hb2.block _ (Array.getElem?_eq_some_iff.1 g3).1).trans g3
  have d0' := cell_later hb2 d0
  have d1' := cell_later hb2 d1
  have hbb : Below w.heap.size w V2 := hb.trans (hb2.mono hV)
  clear f0 f1 f2 z0 z1 z2 hw d0 d1 hsb
  obtain ⟨f0, f1, z0, z1⟩ := nO e2
  obtain ⟨f2, z2⟩ := MI e3
  cases hd : decide (x'.2 ≤ z)
  ·gi_wp2_with fail
   refine ⟨Kl.of_below hb2, ?_, hbb, e1, e2, e3⟩
   intro h hh
   rcases List.mem_append.1 hh with hh | hh
   ·exact hno h hh
   ·rw [List.mem_singleton.1 hh]; exact hd
  ·gi_wp2_with fail
   refine ⟨?_, ⟨pre, x', rfl, hno, hd, ?_⟩, ?_, ?_⟩
   ·refine (Kl.of_below hb2).trans ⟨rfl, rfl, rfl, by simp, fun k o _ ho hq => ?_⟩
    have n2 : k ≠ w.heap.size + 1 + 1 := by
     rintro rfl
     rw [e2] at ho
     cases ho
     rcases hq with h | h | ⟨_, v, h | h⟩
     ·omega
     ·cases h
     ·cases h
     ·cases h
    have n3 : k ≠ w.heap.size + 1 + 1 + 1 := by
     rintro rfl
     rw [e3] at ho
     cases ho
     rcases hq with h | h | ⟨_, v, h | h⟩
     ·omega
     ·cases h
     ·cases h
     ·cases h
    rw [heap_setCell_other _ _ _ _ n3, heap_setCell_other _ _ _ _ n2, heap_setCell_other _ _ _ _ n2]
    exact ho
   ·rw [heap_setCell_other _ _ _ _ (by simp)]
    exact DE _ _ e2
   ·exact ((hbb.setCell (by simp; omega) _).setCell (by simp; omega) _).setCell (by simp; omega) _
   ·refine one_setCell (v := .bool false) ?_
    exact ((heap_setCell_other _ _ _ _ (by simp)).trans (heap_setCell_other _ _ _ _ (by simp))).trans e3
 case done =>
  rintro D xs V hD rfl ⟨hno, hb, g1, g2, g3⟩ hkl hdef
  obtain ⟨f0, f1, z0, z1⟩ := nO g2
  obtain ⟨f2, z2⟩ := MI g3
  have hV := hb.size
  have hfind : (hol ps (16 - l).toNat a l).find? (fun h => decide (h.2 ≤ z)) = none := List.find?_eq_none.2 (fun h hh => by rw [hno h hh]; simp)
  gi_wp2_with fail
  have nD : ∀ {k : Nat}, k ≤ w.heap.size + 5 → k ≠ D := fun h => by omega
  have hD' : (((V.setCell ⟨w.heap.size + 1 + 1, 0, none⟩ (.int .i64 0)).setCell ⟨w.heap.size + 1 + 1, 1, none⟩ (.int .i64 0)).setCell ⟨w.heap.size + 1 + 1 + 1, 0, none⟩ (.bool false)).heap[D]? = some (.deferred (some [])) := by
   rw [heap_setCell_other _ _ _ _ (by simp; omega), heap_setCell_other _ _ _ _ (by simp; omega), heap_setCell_other _ _ _ _ (by simp; omega)]
   exact hdef
  have h2' : (((V.setCell ⟨w.heap.size + 1 + 1, 0, none⟩ (.int .i64 0)).setCell ⟨w.heap.size + 1 + 1, 1, none⟩ (.int .i64 0)).setCell ⟨w.heap.size + 1 + 1 + 1, 0, none⟩ (.bool false)).heap[w.heap.size + 1 + 1]? = some (.cells #[.int .i64 0, .int .i64 0] 49) := by
   rw [heap_setCell_other _ _ _ _ (by simp)]
   exact DE _ _ g2
  have h3' : (((V.setCell ⟨w.heap.size + 1 + 1, 0, none⟩ (.int .i64 0)).setCell ⟨w.heap.size + 1 + 1, 1, none⟩ (.int .i64 0)).setCell ⟨w.heap.size + 1 + 1 + 1, 0, none⟩ (.bool false)).heap[w.heap.size + 1 + 1 + 1]? = some (.cells #[.bool false] 4) :=
   one_setCell (((heap_setCell_other _ _ _ _ (by simp)).trans (heap_setCell_other _ _ _ _ (by simp))).trans g3)
  have hb' : Below w.heap.size w (((V.setCell ⟨w.heap.size + 1 + 1, 0, none⟩ (.int .i64 0)).setCell ⟨w.heap.size + 1 + 1, 1, none⟩ (.int .i64 0)).setCell ⟨w.heap.size + 1 + 1 + 1, 0, none⟩ (.bool false)) := ((hb.setCell (by simp; omega) _).setCell (by simp; omega) _).setCell (by simp; omega) _
  generalize (((V.setCell ⟨w.heap.size + 1 + 1, 0, none⟩ (.int .i64 0)).setCell ⟨w.heap.size + 1 + 1, 1, none⟩ (.int .i64 0)).setCell ⟨w.heap.size + 1 + 1 + 1, 0, none⟩ (.bool false)) = V2 at hD' h2' h3' hb' ⊢
  refine ⟨by simp, .inl ⟨_, _, rfl, run_takeDeferred hD', ?_⟩⟩
  obtain ⟨e0, e1, -, -⟩ := nO ((World.putObj_heap_other (o := .deferred none) (nD (by omega))).trans h2')
  obtain ⟨e2, -⟩ := MI ((World.putObj_heap_other (o := .deferred none) (nD (by omega))).trans h3')
  refine ⟨qS none, by simp [results, Tryz.results209, go_sem, e0, e1, e2, qS], by rw [hfind], AL hb' (by omega) _⟩
 case stop =>
  rintro D pre V hD hpre ⟨⟨pre', h, rfl, hno, hyes, g2⟩, hb, g3⟩ hkl hdef
  have hV := hb.size
  have hfind : (hol ps (16 - l).toNat a l).find? (fun h => decide (h.2 ≤ z)) = some h := by
   obtain ⟨rest, hrest⟩ := hpre
   rw [← hrest, List.append_assoc, List.find?_append, List.find?_eq_none.2 (fun g hg => by rw [hno g hg]; simp)]
   simp only [Option.none_or, List.cons_append, List.nil_append, List.find?_cons, hyes]
  gi_wp2_with fail
  have nD : ∀ {k : Nat}, k ≤ w.heap.size + 5 → k ≠ D := fun h => by omega
  refine ⟨by simp, .inl ⟨_, _, rfl, run_takeDeferred hdef, ?_⟩⟩
  obtain ⟨e0, e1, -, -⟩ := nO ((World.putObj_heap_other (o := .deferred none) (nD (by omega))).trans g2)
  obtain ⟨e2, -⟩ := MI ((World.putObj_heap_other (o := .deferred none) (nD (by omega))).trans g3)
  refine ⟨qS (some h), by simp [results, Tryz.results209, go_sem, e0, e1, e2, qS], by rw [hfind], AL hb (by omega) _⟩
theorem JM (a l : Int) (w : World) :
  Calls Tryz.prog 168 #[.agg #[.int .i64 a, .int .i64 l]] w fun e w' => e = .returned (.int .i64 a) ∧ Below w.heap.size w w' := by
 go_enter Tryz.func168, Tryz.ntmps168
 go_wp2
 go_ret
 exact ⟨rfl, bl1 _ _⟩
theorem F6 (args : Array Value) (W : World) : (callFunc 168 args).run Tryz.prog W = .ok (.enter 168 args) W := by simp [go_sem]
theorem isNaN_any (a : Int) (w : World) :
  Calls Tryz.prog 198 #[.int .i64 a] w fun e w' => e = .returned (.bool false) ∧ w' = w := by
 have h : (a != a) = false := by simp
 go_enter Tryz.func198, Tryz.ntmps198
 go_wp2
 go_ret
 exact ⟨rfl, rfl⟩
def zM (a c v : Int) : Prop := (a < c ∧ v = -1) ∨ (a = c ∧ v = 0) ∨ (c < a ∧ v = 1)
theorem xC (a c v : Int) (hv : zM a c v) (w : World) :
  Calls Tryz.prog 159 #[.int .i64 a, .int .i64 c] w fun e w' => e = .returned (.int .i64 v) ∧ w' = w := by
 rcases hv with ⟨h, rfl⟩ | ⟨h, rfl⟩ | ⟨h, rfl⟩
 ·go_enter Tryz.func159, Tryz.ntmps159
  go_wp2_with (go_at_call 198; refine (isNaN_any _ _).mono ?_; rintro e w1 ⟨rfl, rfl⟩)
  go_ret
  exact ⟨rfl, rfl⟩
 ·subst h
  have h1 : ¬ a < a := by omega
  go_enter Tryz.func159, Tryz.ntmps159
  go_wp2_with (go_at_call 198; refine (isNaN_any _ _).mono ?_; rintro e w1 ⟨rfl, rfl⟩)
  go_ret
  exact ⟨rfl, rfl⟩
 ·have h1 : ¬ a < c := by omega
  go_enter Tryz.func159, Tryz.ntmps159
  go_wp2_with (go_at_call 198; refine (isNaN_any _ _).mono ?_; rintro e w1 ⟨rfl, rfl⟩)
  go_ret
  exact ⟨rfl, rfl⟩
theorem F7 (a l c m v : Int) (hv : zM a c v) (bb k : Nat) (w : World) (hby : w.cell? ⟨bb, 0, none⟩ = some (.func (.func 168) #[] #[])) :
  Calls Tryz.prog 207 #[.agg #[.int .i64 a, .int .i64 l], .agg #[.int .i64 c, .int .i64 m], .slice (some ⟨bb, 0, none⟩) 1 k] w fun e w' => e = .returned (.int .i64 v) ∧ Below w.heap.size w w' := by
 have hcall := F6
 go_enter Tryz.func207, Tryz.ntmps207
 go_wp2
 go_loopw [12] (fun i wr => ∃ j : Nat, (j = 0 ∨ (j = 1 ∧ v = 0)) ∧ i = .int .i64 j ∧ Below (w.heap.size + 1 + 1) ((w.alloc (.cells #[.int .i64 a, .int .i64 l] 49)).alloc (.cells #[.int .i64 c, .int .i64 m] 49)) wr) (fun i _ => 1 - (intOf i).toNat)
 case atStart => exact ⟨0, .inl rfl, rfl, Below.refl _ _⟩
 case round =>
  obtain ⟨j, hj, rfl, hB⟩ := hrel
  rcases hj with rfl | ⟨rfl, hv0⟩
  ·have hz := hB.size
   simp only [World.size_alloc] at hz
   have hbl : bb < w.heap.size := block_lt_of_cell hby
   have e0 : wr.cell? ⟨w.heap.size, 0, none⟩ = some (.int .i64 a) := (hB.cell (p := ⟨w.heap.size, 0, none⟩) (by show w.heap.size < _; omega)).trans (by simp)
   have e1 : wr.cell? ⟨w.heap.size, 1, none⟩ = some (.int .i64 l) := (hB.cell (p := ⟨w.heap.size, 1, none⟩) (by show w.heap.size < _; omega)).trans (by simp)
   have e2 : wr.cell? ⟨w.heap.size + 1, 0, none⟩ = some (.int .i64 c) := (hB.cell (p := ⟨w.heap.size + 1, 0, none⟩) (by show w.heap.size + 1 < _; omega)).trans (by simp)
   have e3 : wr.cell? ⟨w.heap.size + 1, 1, none⟩ = some (.int .i64 m) := (hB.cell (p := ⟨w.heap.size + 1, 1, none⟩) (by show w.heap.size + 1 < _; omega)).trans (by simp)
   have e4 : wr.cell? ⟨bb, 0, none⟩ = some (.func (.func 168) #[] #[]) := (hB.cell (p := ⟨bb, 0, none⟩) (by show bb < _; omega)).trans (cell_later (cB w _ _) hby)
   have g0 := Ws.here e0
   have g1 := Ws.here e1
   have g2 := Ws.here e2
   have g3 := Ws.here e3
   go_upto_region 4 with fail
   clear e0 e1 e2 e3 e4
   refine aI wr.heap.size (by kernel_rfl) (by kernel_rfl) ?_
   repeat (go_big_quiet_step (first | (go_at_call 168; exact Calls.in_ws (Nat.le_refl _) (JM _ _ _)) | (go_at_call 159; exact Calls.in_ws_same (xC _ _ _ hv _))))
   refine wpQuiet_nil ?_
   rintro _ ⟨u, rfl⟩
   have hu := hB.trans (u.property.mono hz)
   generalize u.val = wu at hu ⊢
   clear u g0 g1 g2 g3
   rcases hv with ⟨h, rfl⟩ | ⟨h, rfl⟩ | ⟨h, rfl⟩
   ·go_wp2
    go_ret
    exact ⟨rfl, (cB w _ _).trans (hu.mono (by omega))⟩
   ·go_wp2
    go_roundw
    case rel => exact ⟨1, .inr ⟨rfl, trivial⟩, by go_num, hu⟩
    case measure => simp [intOf]
   ·go_wp2
    go_ret
    exact ⟨rfl, (cB w _ _).trans (hu.mono (by omega))⟩
  ·subst hv0
   go_wp2
   go_ret
   exact ⟨rfl, (cB w _ _).trans (hB.mono (by omega))⟩
def qT (ps : List (Int × Int)) (i : Nat) : Bool := i == 0 || decide (dA ps (i - 1) < dA ps i)
def uW (ps : List (Int × Int)) : Bool := (List.range ps.length).all (qT ps)
theorem P8 (hk : k < ps.length) (h : qT ps k = false) : uW ps = false := by
 unfold uW
 rw [List.all_eq_false]
 exact ⟨k, by simpa using hk, by simp [h]⟩
theorem MJ (h : ∀ j, j < ps.length → qT ps j = true) : uW ps = true := by
 unfold uW
 rw [List.all_eq_true]
 intro j hj
 exact h j (by simpa using hj)
theorem rise_any (x : Option Addr) (n c : Nat) (ps : List (Int × Int)) (bb k : Nat) (w : World) (hp : PS w x n ps) (hn : n ≤ 64) (hby : w.cell? ⟨bb, 0, none⟩ = some (.func (.func 168) #[] #[])) :
  Calls Tryz.prog 167 #[.slice x n c, .slice (some ⟨bb, 0, none⟩) 1 k] w fun e w' => e = .returned (.bool (uW ps)) ∧ Below w.heap.size w w' := by
 go_enter Tryz.func167, Tryz.ntmps167
 go_wp2
 go_loopw [5] (fun i wr => ∃ j : Nat, 1 ≤ j ∧ j ≤ n + 1 ∧ i = .int .i64 j ∧ Below w.heap.size w wr ∧ (∀ i, i < j → i < n → qT ps i = true)) (fun i _ => n + 1 - (intOf i).toNat)
 case atStart => exact ⟨1, by omega, by omega, rfl, Below.refl _ _, fun i hi _ => by
  obtain rfl : i = 0 := by omega
  rfl⟩
 case round =>
  obtain ⟨j, hj1, hjn, rfl, hB, hok⟩ := hrel
  have hz := hB.size
  have hpl := hp.len
  by_cases hlt : j < n
  ·obtain ⟨i, rfl⟩ : ∃ i, j = i + 1 := ⟨j - 1, by omega⟩
   have hp2 := hp.later hB
   obtain ⟨b, o, rfl, c0, c1⟩ := hp2.cells i (by omega)
   obtain ⟨b2, o2, hbo, c2, c3⟩ := hp2.cells (i + 1) (by omega)
   simp only [Option.some.injEq, Addr.mk.injEq, and_true] at hbo
   obtain ⟨rfl, rfl⟩ := hbo
   have hby' := cell_later hB hby
   have hlt' := hlt
   have g0 := Ws.here c0
   have g1 := Ws.here c1
   have g2 := Ws.here c2
   have g3 := Ws.here c3
   have g4 := Ws.here hby'
   have hv : ∃ v, zM (dA ps i) (dA ps (i + 1)) v ∧ (decide (dA ps i < dA ps (i + 1)) = !(decide (0 ≤ v))) := by
    rcases Int.lt_trichotomy (dA ps i) (dA ps (i + 1)) with h | h | h
    ·exact ⟨-1, .inl ⟨h, rfl⟩, by simp [h]⟩
    ·exact ⟨0, .inr (.inl ⟨h, rfl⟩), by simp [h]⟩
    ·exact ⟨1, .inr (.inr ⟨h, rfl⟩), by simp; omega⟩
   obtain ⟨v, hv, hd⟩ := hv
   go_upto_region 4 with fail
   clear c0 c1 c2 c3
   refine aI wr.heap.size (by kernel_rfl) (by kernel_rfl) ?_
   cases hg : decide (0 ≤ v)
   all_goals rw [hg] at hd
   all_goals have hge : decide (v ≥ 0) = _ := hg
   all_goals repeat (go_big_quiet_step ((go_at_call 207; exact Calls.in_ws (Nat.le_refl _) (F7 _ _ _ _ _ hv _ _ _ (g4 _)))))
   all_goals refine wpQuiet_nil ?_
   all_goals rintro _ ⟨u, rfl⟩
   all_goals have hu := hB.trans (u.property.mono hz)
   all_goals generalize u.val = wu at hu ⊢
   all_goals clear u g0 g1 g2 g3 g4
   all_goals go_wp2
   ·go_roundw
    case rel => exact ⟨i + 1 + 1, by omega, by omega, by go_num, hu, fun q hq hqn => by
     by_cases hq2 : q < i + 1
     ·exact hok q hq2 hqn
     ·obtain rfl : q = i + 1 := by omega
      simp only [qT, Nat.add_sub_cancel, hd]
      simp⟩
    case measure => simp [intOf]; omega
   ·go_ret
    exact ⟨aH (P8 (k := i + 1) (by omega) (by simp only [qT, Nat.add_sub_cancel, hd]; simp)).symm, hu⟩
  ·go_wp2
   go_ret
   exact ⟨aH (MJ (fun i hi => hok i (by omega) (by omega))).symm, hB⟩
theorem DF : eN a l ps = ((List.range ps.length).all (fun i => iZ (dA ps i) (eA ps i) a l && (i == 0 || !gF (dA ps (i - 1)) (eA ps (i - 1)) (dA ps i) (eA ps i))) && uW ps) := by
 rw [Bool.eq_iff_iff]
 unfold eN uW
 simp only [Bool.and_eq_true, List.all_eq_true, List.mem_range, JE, qT, Bool.or_eq_true, beq_iff_eq]
 constructor
 ·intro h
  exact ⟨fun i hi => ⟨(h i hi).1, (h i hi).2.imp id (·.2)⟩, fun i hi => (h i hi).2.imp id (·.1)⟩
 ·rintro ⟨h, g⟩ i hi
  refine ⟨(h i hi).1, ?_⟩
  rcases (h i hi).2 with h1 | h1
  ·exact .inl h1
  ·rcases g i hi with g1 | g1
   ·exact .inl g1
   ·exact .inr ⟨g1, h1⟩
def nP (a l : Int) (ps : List (Int × Int)) (i : Nat) : Bool := iZ (dA ps i) (eA ps i) a l && (i == 0 || !gF (dA ps (i - 1)) (eA ps (i - 1)) (dA ps i) (eA ps i))
theorem IG (hk : k < ps.length) (h : nP a l ps k = false) : eN a l ps = false := by
 rw [DF, Bool.and_eq_false_iff]
 left
 rw [List.all_eq_false]
 exact ⟨k, by simpa using hk, by unfold nP at h; simp only [h]; simp⟩
theorem MK (h : ∀ j, j < ps.length → nP a l ps j = true) : eN a l ps = uW ps := by
 rw [DF]
 have : (List.range ps.length).all (fun i => iZ (dA ps i) (eA ps i) a l && (i == 0 || !gF (dA ps (i - 1)) (eA ps (i - 1)) (dA ps i) (eA ps i))) = true := by
  rw [List.all_eq_true]
  intro j hj
  exact h j (by simpa using hj)
 rw [this, Bool.true_and]
theorem JN (a l : Int) (x : Option Addr) (n c : Nat) (ps : List (Int × Int)) (w : World) (hp : PS w x n ps) (hn : n ≤ 32) :
  Calls Tryz.prog 122 #[.agg #[.int .i64 a, .int .i64 l, .slice x n c]] w fun e w' => e = .returned (.bool (eN a l ps)) ∧ Below w.heap.size w w' := by
 go_enter Tryz.func122, Tryz.ntmps122
 go_wp2
 go_loopw [8] (fun i wr => ∃ k : Nat, k ≤ n ∧ i = .int .i64 k ∧ Below (w.heap.size + 1) (w.alloc (.cells #[.int .i64 a, .int .i64 l, .slice x n c] 134)) wr ∧ (∀ j, j < k → nP a l ps j = true)) (fun i _ => n - (intOf i).toNat)
 case atStart => exact ⟨0, by omega, rfl, Below.refl _ _, fun j hj => by omega⟩
 case round =>
  obtain ⟨k, hk, rfl, hB, hok⟩ := hrel
  have hpl := hp.len
  have hz := hB.size
  simp only [World.size_alloc] at hz
  by_cases hlt : k < n
  ·have hp2 := (hp.later (bl1 w (.cells #[.int .i64 a, .int .i64 l, .slice x n c] 134)))
   obtain ⟨b, o, rfl, c0, c1⟩ := hp2.cells k hlt
   have hbl := block_lt_of_cell c0
   simp only [World.size_alloc] at hbl
   have d0 : wr.cell? ⟨b, o + k * 2, none⟩ = some (.int .i64 (dA ps k)) := (hB.cell (p := ⟨b, o + k * 2, none⟩) hbl).trans c0
   have d1 : wr.cell? ⟨b, o + k * 2 + 1, none⟩ = some (.int .i64 (eA ps k)) := (hB.cell (p := ⟨b, o + k * 2 + 1, none⟩) hbl).trans c1
   have e0 : wr.cell? ⟨w.heap.size, 0, none⟩ = some (.int .i64 a) := (hB.cell (p := ⟨w.heap.size, 0, none⟩) (by show w.heap.size < _; omega)).trans (by simp)
   have e1 : wr.cell? ⟨w.heap.size, 1, none⟩ = some (.int .i64 l) := (hB.cell (p := ⟨w.heap.size, 1, none⟩) (by show w.heap.size < _; omega)).trans (by simp)
   have e2 : wr.cell? ⟨w.heap.size, 2, none⟩ = some (.slice (some ⟨b, o, none⟩) n c) := (hB.cell (p := ⟨w.heap.size, 2, none⟩) (by show w.heap.size < _; omega)).trans (by simp)
   have hW : Below (w.heap.size + 1) (w.alloc (.cells #[.int .i64 a, .int .i64 l, .slice (some ⟨b, o, none⟩) n c] 134)) (wr.alloc (.cells #[.int .i64 (dA ps k), .int .i64 (eA ps k)] 49)) := hB.trans ((bl1 wr _).mono hz)
   have g0 : ∀ u : Ws (wr.heap.size + 1) (wr.alloc (.cells #[.int .i64 (dA ps k), .int .i64 (eA ps k)] 49)), u.val.cell? ⟨w.heap.size, 0, none⟩ = some (.int .i64 a) := Ws.cell (by omega) (cell_later (bl1 wr _) e0)
   have g1 : ∀ u : Ws (wr.heap.size + 1) (wr.alloc (.cells #[.int .i64 (dA ps k), .int .i64 (eA ps k)] 49)), u.val.cell? ⟨w.heap.size, 1, none⟩ = some (.int .i64 l) := Ws.cell (by omega) (cell_later (bl1 wr _) e1)
   have g2 : ∀ u : Ws (wr.heap.size + 1) (wr.alloc (.cells #[.int .i64 (dA ps k), .int .i64 (eA ps k)] 49)), u.val.cell? ⟨w.heap.size, 2, none⟩ = some (.slice (some ⟨b, o, none⟩) n c) := Ws.cell (by omega) (cell_later (bl1 wr _) e2)
   have g3 : ∀ u : Ws (wr.heap.size + 1) (wr.alloc (.cells #[.int .i64 (dA ps k), .int .i64 (eA ps k)] 49)), u.val.cell? ⟨wr.heap.size, 0, none⟩ = some (.int .i64 (dA ps k)) := Ws.cell (by omega) (by simp)
   have g4 : ∀ u : Ws (wr.heap.size + 1) (wr.alloc (.cells #[.int .i64 (dA ps k), .int .i64 (eA ps k)] 49)), u.val.cell? ⟨wr.heap.size, 1, none⟩ = some (.int .i64 (eA ps k)) := Ws.cell (by omega) (by simp)
   have hlt' := hlt
   go_upto_region 4 with fail
   clear e0 e1 e2 c0 c1 d0 d1
   refine aI (wr.heap.size + 1) (by kernel_rfl) (by kernel_rfl) ?_
   cases hI : iZ (dA ps k) (eA ps k) a l
   ·repeat (go_big_quiet_step ((go_at_call 26; exact Calls.in_ws (by simp) (tL _ _ _ _ _ hI _))))
    refine wpQuiet_nil ?_
    rintro _ ⟨u, rfl⟩
    have hu := hW.trans (u.property.mono (by omega))
    generalize u.val = wu at hu ⊢
    clear u g0 g1 g2 g3 g4
    go_wp2
    go_ret
    exact ⟨aH (IG (k := k) (by omega) (by unfold nP; rw [hI]; rfl)).symm, (bl1 w _).trans (hu.mono (by omega))⟩
   ·cases k with
    | zero =>
     repeat (go_big_quiet_step ((go_at_call 26; exact Calls.in_ws (by simp) (tL _ _ _ _ _ hI _))))
     refine wpQuiet_nil ?_
     rintro _ ⟨u, rfl⟩
     have hu := hW.trans (u.property.mono (by omega))
     generalize u.val = wu at hu ⊢
     clear u g0 g1 g2 g3 g4
     go_wp2
     go_roundw
     case rel => exact ⟨1, hlt', by go_num, hu, fun j hj => by
      obtain rfl : j = 0 := Nat.lt_one_iff.1 hj
      unfold nP; rw [hI]; rfl⟩
     case measure => simp [intOf]; omega
    | succ k' =>
     obtain ⟨b2, o2, hbo, c2, c3⟩ := hp2.cells k' (by omega)
     simp only [Option.some.injEq, Addr.mk.injEq, and_true] at hbo
     obtain ⟨rfl, rfl⟩ := hbo
     have t0 : wr.cell? ⟨b, o + k' * 2, none⟩ = some (.int .i64 (dA ps k')) := (hB.cell (p := ⟨b, o + k' * 2, none⟩) hbl).trans c2
     have t1 : wr.cell? ⟨b, o + k' * 2 + 1, none⟩ = some (.int .i64 (eA ps k')) := (hB.cell (p := ⟨b, o + k' * 2 + 1, none⟩) hbl).trans c3
     have g5 : ∀ u : Ws (wr.heap.size + 1) (wr.alloc (.cells #[.int .i64 (dA ps (k' + 1)), .int .i64 (eA ps (k' + 1))] 49)), u.val.cell? ⟨b, o + k' * 2, none⟩ = some (.int .i64 (dA ps k')) := Ws.cell (by omega) (cell_later (bl1 wr _) t0)
     have g6 : ∀ u : Ws (wr.heap.size + 1) (wr.alloc (.cells #[.int .i64 (dA ps (k' + 1)), .int .i64 (eA ps (k' + 1))] 49)), u.val.cell? ⟨b, o + k' * 2 + 1, none⟩ = some (.int .i64 (eA ps k')) := Ws.cell (by omega) (cell_later (bl1 wr _) t1)
     clear c2 c3 t0 t1
     cases hM : gF (dA ps k') (eA ps k') (dA ps (k' + 1)) (eA ps (k' + 1))
     all_goals repeat (go_big_quiet_step (first | (go_at_call 26; exact Calls.in_ws (by simp) (tL _ _ _ _ _ hI _)) | (go_at_call 15; exact Calls.in_ws (by simp) (L9 _ _ _ _ _ hM _))))
     all_goals refine wpQuiet_nil ?_
     all_goals rintro _ ⟨u, rfl⟩
     all_goals have hu := hW.trans (u.property.mono (by omega))
     all_goals generalize u.val = wu at hu ⊢
     all_goals clear u g0 g1 g2 g3 g4 g5 g6
     all_goals go_wp2
     ·go_roundw
      case rel => exact ⟨k' + 1 + 1, hlt', by go_num, hu, fun j hj => by
       by_cases hj2 : j < k' + 1
       ·exact hok j hj2
       ·obtain rfl : j = k' + 1 := by omega
        unfold nP; rw [hI, Nat.add_sub_cancel, hM]; simp⟩
      case measure => simp [intOf]; omega
     ·go_ret
      exact ⟨aH (IG (k := k' + 1) (by omega) (by unfold nP; rw [hI, Nat.add_sub_cancel, hM]; simp)).symm, (bl1 w _).trans (hu.mono (by omega))⟩
  ·have e2 : wr.cell? ⟨w.heap.size, 2, none⟩ = some (.slice x n c) := (hB.cell (p := ⟨w.heap.size, 2, none⟩) (by show w.heap.size < _; omega)).trans (by simp)
   have k2 : ∀ q, (wr.alloc q).cell? ⟨w.heap.size, 2, none⟩ = some (.slice x n c) := fun q => cell_later (bl1 wr q) e2
   have hB2 : Below (w.alloc (.cells #[.int .i64 a, .int .i64 l, .slice x n c] 134)).heap.size (w.alloc (.cells #[.int .i64 a, .int .i64 l, .slice x n c] 134)) wr := by rw [World.size_alloc]; exact hB
   have hpw : PS wr x n ps := (hp.later (bl1 w _)).later hB2
   go_wp2_with (go_at_call 167; refine (rise_any x n c ps wr.heap.size 1 _ (hpw.later (bl1 wr _)) (by omega) (by simp)).mono ?_; rintro e w1 ⟨rfl, hb1⟩)
   go_ret
   exact ⟨aH (MK (fun j hj => hok j (by omega))).symm, (bl1 w _).trans ((hB.trans (((bl1 wr _).trans (hb1.mono (by simp))).mono hz)).mono (by omega))⟩
end Go.Proofs.YtndpilfpejfloaaGreat
