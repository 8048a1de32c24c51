/- Small laws of my own: a region that draws its order, walked once in the text's order, while the world grows above a mark. -/
import Derived.WalkKit
import Derived.WalkSpells
import Derived.WalkLawsBesides
import Derived.Deep.RegionWith
import Derived.BigQuiet
import Derived.Deep.QuietTactic
namespace Go.Proofs.Ytbnkgecblaffeaa
open Go.RowKit

/-- The worlds that are as w was below block n. -/
structure Ws (n : Nat) (w : World) : Type where
  val : World
  property : Below n w val
@[simp] theorem Ws.all_const (n : Nat) (w : World) (p : Prop) : (Ws n w → p) ↔ p := ⟨fun h => h ⟨w, Below.refl _ _⟩, fun h _ => h⟩

theorem Ws.cell {n : Nat} {w : World} {b o : Nat} {v : Option Value} (hb : b < n) (h : w.cell? ⟨b, o, none⟩ = v) (u : Ws n w) : u.val.cell? ⟨b, o, none⟩ = v :=
  (u.property.cell (p := ⟨b, o, none⟩) hb).trans h

/-- A region that draws, its own operations reading alone, its callees making memory above n. -/
theorem wp_region_ws {P : Program} {id : Nat} {Q : Exit → Act → World → Prop} {a : Act} {w : World} (n : Nat) {l : List Oper} (hm : P.follows .mixedOrders = true) (hB : Region.lexB .any l.toArray = true)
    (h : wpQuiet P l.toArray (fun w' => ∃ u : Ws n w, w' = u.val) (fun a' => ∀ w', (∃ u : Ws n w, w' = u.val) → Q .normal a' w') l a) : (Code.region id l.toArray true).wp P Q a w :=
  wp_region_quiet (C := fun w' => ∃ u : Ws n w, w' = u.val) hm hB ⟨⟨_, (Below.refl n w).drew⟩, rfl⟩ (by simpa using h)

/-- The same from the k-th operation on, those ahead of it having come up. -/
theorem wpAny_ws {P : Program} {Q : Exit → Act → World → Prop} {a : Act} {w : World} (n k : Nat) {ops l : List Oper} {listed : Array Bool} {m : Nat} (hs : Region.noSelect ops.toArray = true)
    (hl : ops.drop k = l) (hm : l.length = m) (hB : Region.lexFrom .any ops.toArray l.length k listed = true)
    (h : wpQuiet P ops.toArray (fun w' => ∃ u : Ws n w, w' = u.val) (fun a' => ∀ w', (∃ u : Ws n w, w' = u.val) → Q .normal a' w') l a) : wpAny P .any ops.toArray Q m listed a w := by
  subst hm
  refine wpAny_of_quiet (Q := fun a' => ∀ w', (∃ u : Ws n w, w' = u.val) → Q .normal a' w') (fun _ w' hw' h => h w' hw') _ _ _ _ ⟨⟨w, Below.refl _ _⟩, rfl⟩ ?_
  refine wpAnyQ_lex hs l k listed a (fun j => ?_) hB h
  rw [← hl]
  simp

/-- A region that draws nothing, by the same walk. -/
theorem wpList_of_quiet {P : Program} {ops : Array Oper} {C : World → Prop} {Q : Act → Prop} {Q' : Exit → Act → World → Prop} (hQ : ∀ a w, C w → Q a → Q' .normal a w) :
    ∀ (l : List Oper) (a : Act) (w : World), C w → wpQuiet P ops C Q l a → wpList P ops Q' l a w
  | [], a, w, hw, h => hQ a w hw h
  | o :: rest, a, w, hw, h => by
    unfold wpQuiet at h
    unfold wpList
    by_cases hg : Region.wanted o (yielded ops a.tmps) = true
    · rw [if_pos hg] at h
      rw [if_pos hg]
      exact .inl (Oper.wp_of_quiet hw (fun a' w' hw' h' => wpList_of_quiet hQ rest a' w' hw' h') h)
    · rw [if_neg hg] at h
      rw [if_neg hg]
      exact wpList_of_quiet hQ rest _ w hw h
theorem wp_region_wf {P : Program} {id : Nat} {Q : Exit → Act → World → Prop} {a : Act} {w : World} (n : Nat) {l : List Oper}
    (h : wpQuiet P l.toArray (fun w' => ∃ u : Ws n w, w' = u.val) (fun a' => ∀ w', (∃ u : Ws n w, w' = u.val) → Q .normal a' w') l a) : (Code.region id l.toArray false).wp P Q a w :=
  wp_region_lit (wpList_of_quiet (Q := fun a' => ∀ w', (∃ u : Ws n w, w' = u.val) → Q .normal a' w') (fun _ w' hw' h => h w' hw') l a w ⟨⟨w, Below.refl _ _⟩, rfl⟩ h)

/-- A callee's contract, met in a world of the class. -/
theorem Calls.in_ws {P : Program} {f : FuncId} {args : Array Value} {n : Nat} {w : World} {u : Ws n w} {v : Value} (hn : n ≤ w.heap.size)
    (h : Calls P f args u.val fun e w' => e = .returned v ∧ Below u.val.heap.size u.val w') : Calls P f args u.val fun e w'' => e = .returned v ∧ ∃ u' : Ws n w, w'' = u'.val :=
  h.mono fun _ w' ⟨he, hb⟩ => ⟨he, ⟨w', u.property.trans (hb.mono (Nat.le_trans hn u.property.size))⟩, rfl⟩
theorem Calls.in_ws_same {P : Program} {f : FuncId} {args : Array Value} {n : Nat} {w : World} {u : Ws n w} {v : Value}
    (h : Calls P f args u.val fun e w' => e = .returned v ∧ w' = u.val) : Calls P f args u.val fun e w'' => e = .returned v ∧ ∃ u' : Ws n w, w'' = u'.val :=
  h.mono fun _ _ ⟨he, hb⟩ => ⟨he, u, hb⟩

theorem bcell {W w1 : World} (hb : Below W.heap.size W w1) : (∀ b o, b < W.heap.size → w1.cell? ⟨b, o, none⟩ = W.cell? ⟨b, o, none⟩) ∧ (∀ b o, b < W.heap.size → w1.frozen? ⟨b, o, none⟩ = W.frozen? ⟨b, o, none⟩) :=
  ⟨fun b o h => hb.cell (p := ⟨b, o, none⟩) h, fun b o h => hb.frozen (p := ⟨b, o, none⟩) h⟩
end Go.Proofs.Ytbnkgecblaffeaa
