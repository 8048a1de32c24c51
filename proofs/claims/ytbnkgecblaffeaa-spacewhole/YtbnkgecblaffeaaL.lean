/- A range over a function whose body may call the yield of another range: a law over 'what must outlast a round' (no program in it). -/
import Derived.RangeFuncNested
import Derived.RangeFuncBound
import Derived.RangeFuncCalls
import Derived.RangeFuncLeaves
import Derived.Shelf.Abstract
import Derived.Shelf.RegionOpen
import Derived.WalkKit
import Derived.OwnWalkIn
import Derived.TacticsInMore
import Derived.LoopNIn
import Derived.LoopIn
namespace Go.Proofs.Ytbnkgecblaffeaa
open Go Go.RowKit Go.Shelf

/-- From W to W' the world's other parts are the same, and of the blocks, those outside of L that lie below n₀, or hold no cells, or are of the kind T. -/
structure Kl (T : Nat → Obj → Prop) (n₀ : Nat) (L : List Nat) (W W' : World) : Prop where
  os : W'.os = W.os
  tape : W'.tape = W.tape
  output : W'.output = W.output
  size : W.heap.size ≤ W'.heap.size
  same : ∀ (k : Nat) (o : Obj), k ∉ L → W.heap[k]? = some o → (k < n₀ ∨ o.isCells = false ∨ T k o) → W'.heap[k]? = some o

variable {T : Nat → Obj → Prop} {n₀ : Nat} {L : List Nat}

theorem Kl.refl (W : World) : Kl T n₀ L W W := ⟨rfl, rfl, rfl, Nat.le_refl _, fun _ _ _ h _ => h⟩
theorem Kl.trans {A B C : World} (h : Kl T n₀ L A B) (k : Kl T n₀ L B C) : Kl T n₀ L A C :=
  ⟨k.os.trans h.os, k.tape.trans h.tape, k.output.trans h.output, Nat.le_trans h.size k.size, fun i o hi ho hg => k.same i o hi (h.same i o hi ho hg) hg⟩
theorem Kl.more {A B : World} {L' : List Nat} (h : Kl T n₀ L A B) (hs : ∀ k, k ∈ L → k ∈ L') : Kl T n₀ L' A B :=
  ⟨h.os, h.tape, h.output, h.size, fun i o hi ho hg => h.same i o (fun hk => hi (hs i hk)) ho hg⟩
/-- What lay in A is not among the newer ones. -/
theorem Kl.less {A B : World} {L' : List Nat} (h : Kl T n₀ L' A B) (hs : ∀ k, k ∈ L' → k ∈ L ∨ A.heap.size ≤ k) : Kl T n₀ L A B :=
  ⟨h.os, h.tape, h.output, h.size, fun i o hi ho hg => h.same i o (fun hk => by
    rcases hs i hk with h1 | h1
    · exact hi h1
    · have := (Array.getElem?_eq_some_iff.1 ho).1; omega) ho hg⟩
theorem Kl.below {A B : World} (h : Kl T n₀ L A B) (hL : ∀ k, k ∈ L → n₀ ≤ k) (hn : n₀ ≤ A.heap.size) : Below n₀ A B :=
  ⟨h.os, h.tape, h.output, h.size, fun k hk => by
    have hkA : k < A.heap.size := by omega
    have e : A.heap[k]? = some A.heap[k] := Array.getElem?_eq_some_iff.2 ⟨hkA, rfl⟩
    rw [e]
    exact h.same k _ (fun hm => by have := hL k hm; omega) e (.inl hk)⟩
theorem Kl.of_below {A B : World} (h : Below A.heap.size A B) : Kl T n₀ L A B :=
  ⟨h.os, h.tape, h.output, h.size, fun k _ _ ho _ => (h.block k (Array.getElem?_eq_some_iff.1 ho).1).trans ho⟩
theorem Kl.put (W : World) (l : Nat) (o : Obj) (hl : l ∈ L) : Kl T n₀ L W (W.putObj l o) :=
  ⟨rfl, rfl, rfl, by simp, fun k _ hk ho _ => (World.putObj_heap_other (fun e => by subst e; exact hk hl)).trans ho⟩
/-- A turn of a block that was not in A. -/
theorem Kl.putNew {A B : World} (h : Kl T n₀ L A B) (l : Nat) (o : Obj) (hl : A.heap.size ≤ l) : Kl T n₀ L A (B.putObj l o) :=
  ⟨h.os, h.tape, h.output, by simpa using h.size, fun k o' hk ho hg => (World.putObj_heap_other (fun e => by have := (Array.getElem?_eq_some_iff.1 ho).1; omega)).trans (h.same k o' hk ho hg)⟩

/-- An iterator's contract. -/
def SeqL (T : Nat → Obj → Prop) (n₀ pr : Nat) {α : Type} (F : Fence) (n : Nat) (P : Program) (g : Nat) (lb : Array Value) (encs : α → Array Value) (S Sp : List α → Prop) (w : World) : Prop :=
  ∀ (l : Nat) (L : List Nat) (J Jx : List α → World → Prop) (W : World), Below w.heap.size w W → OwnFrom W.heap.size J → OwnFrom W.heap.size Jx → (∀ k, k ∈ L → n₀ ≤ k ∧ k < W.heap.size ∧ k ≠ pr) →
    (∀ pre x W1, Sp (pre ++ [x]) → J pre W1 → YieldAt F (n - 1) P l (encs x) W1 fun e W' =>
      Kl T n₀ L W1 W' ∧ ((e = .returned (.bool true) ∧ J (pre ++ [x]) W') ∨ (e = .returned (.bool false) ∧ Jx (pre ++ [x]) W'))) →
    J [] W →
    CallsIn F n P g (#[.func (.yield l) #[] #[]] ++ lb) W fun e W' => (∃ v, e = .returned v) ∧ Kl T n₀ L W W' ∧ ((∃ xs, S xs ∧ J xs W') ∨ (∃ pre, Sp pre ∧ Jx pre W'))

/-- How the body of a round may be left. -/
def postL (T : Nat → Obj → Prop) (n₀ : Nat) (L : List Nat) {α : Type} (I Ix : List α → World → Prop) (xs : List α) (W : World) : Exit → Act → World → Prop
  | .normal, _, W' => Kl T n₀ L W W' ∧ I xs W'
  | .ret, _, W' => Kl T n₀ L W W' ∧ Ix xs W'
  | _, _, _ => False

variable {F : Fence} {n : Nat} {P : Program}

theorem keeps_at {X Y : World} {row : Option Nat} {B k : Nat} {o : Obj} (hg : X.grownBy Y row) (hr : ∀ r, row = some r → B ≤ r ∧ ∃ o : Obj, X.heap[r]? = some o ∧ o.isCells = false) (hk : k < B) (h : X.heap[k]? = some o) : Y.heap[k]? = some o :=
  (hg.block k (Array.getElem?_eq_some_iff.1 h).1 (fun e => by have := (hr k e.symm).1; omega)).trans h

theorem wpIn_rangeFunc_L {α : Type} {g : Operand} {ps : Array Tmp} {assign body : Code} {Q : Exit → Act → World → Prop} {a : Act} {w : World}
    (hro : F.round = none) (hd : F.depth = none) {gf : Nat} {lb : Array Value} (hg : a.eval g = .func (.func gf) #[] lb) (hFg : F.fn gf) (eg : ∀ args w, (callFunc gf args).run P w = .ok (.enter gf args) w)
    {encs : α → Array Value} {S Sp : List α → Prop} {pr : Nat} (hseq : SeqL T n₀ pr F (n - 1) P gf lb encs S Sp w)
    (hn₀ : n₀ ≤ w.heap.size) (hpr : pr < w.heap.size) (hL : ∀ k, k ∈ L → n₀ ≤ k ∧ k < w.heap.size ∧ k ≠ pr) (hps : ∀ x, (encs x).size = ps.size)
    (I Ix : List α → World → Prop) (hI : OwnFrom w.heap.size I) (hIx : OwnFrom w.heap.size Ix) (h0 : I [] w)
    (Ax : α → Act → World → Prop) (hAx : ∀ x a', OwnFrom w.heap.size (fun (_ : Unit) W => Ax x a' W))
    (hassign : ∀ (l : Nat) (pre : List α) (x : α) (W : World) (K : Act → World → Prop), I pre W → (∀ a' W', Kl T n₀ L W W' → I pre W' → Ax x a' W' → K a' W') →
      assign.wpIn (F.inRound l) (n - 1 - 1) P (Exit.then K (fun _ _ _ => False)) { tmps := (ps.zip (encs x)).foldl (fun t (p, v) => t.setIfInBounds p v) a.tmps, defers := [] } W)
    (hbody : ∀ (l : Nat) (pre : List α) (x : α) (a' : Act) (W : World), w.heap.size ≤ l → Sp (pre ++ [x]) → I pre W → Ax x a' W → body.wpIn (F.inRound l) (n - 1 - 1) P (postL T n₀ L I Ix (pre ++ [x]) W) a' W)
    (hdone : ∀ (D : Nat) (xs : List α) (W : World), w.heap.size ≤ D → S xs → I xs W → Kl T n₀ L w W → W.heap[D]? = some (.deferred (some [])) → Q .normal { a with defers := { target := .collected D, args := #[] } :: a.defers } W)
    (hstop : ∀ (D : Nat) (pre : List α) (W : World), w.heap.size ≤ D → Sp pre → Ix pre W → Kl T n₀ L w W → W.heap[D]? = some (.deferred (some [])) → Code.ret.wpIn F n P Q { a with defers := { target := .collected D, args := #[] } :: a.defers } W) :
    (Code.rangeFunc g ps assign body).wpIn F n P Q a w := by
  refine wpIn_rangeFunc ?_
  intro fn hfn
  rw [hro]
  obtain ⟨rec, hrec⟩ : ∃ rec : LoopState → Option Code → Loop, rec = fun st pe => { state := st, pending := pe, fn, tmps := a.tmps, params := ps, assign, body, defers := w.heap.size } := ⟨_, rfl⟩
  obtain ⟨W1, hW1⟩ : ∃ W1, (w.alloc (.deferred (some []))).alloc (.loop (rec .ready none)) = W1 := ⟨_, rfl⟩
  obtain ⟨N, hN⟩ : ∃ N, w.heap.size = N := ⟨_, rfl⟩
  have hz1 : W1.heap.size = N + 2 := by rw [← hW1, ← hN]; simp
  have hL1 : W1.heap[N + 1]? = some (.loop (rec .ready none)) := by
    rw [← hW1, ← hN]; have := World.alloc_heap_new (w.alloc (.deferred (some []))) (.loop (rec .ready none)); rwa [World.size_alloc] at this
  have hK1 : W1.heap[N]? = some (.deferred (some [])) := by
    rw [← hW1, ← hN]; exact (Below.heap_alloc _ _ _ (by simp)).trans (World.alloc_heap_new w _)
  have hI1 : I [] W1 := by rw [← hW1]; exact hI.alloc _ (hI.alloc _ h0)
  have hb1 : Below w.heap.size w W1 := by
    rw [← hW1]; exact ((Below.refl _ w).alloc (Nat.le_refl _) _).alloc (by simp) _
  refine ⟨N + 1, [{ target := .collected N, args := #[] }], W1, { target := .fn (.func gf) lb, args := #[.func (.yield (N + 1)) #[] #[]] }, W1, gf,
    #[.func (.yield (N + 1)) #[] #[]] ++ lb, W1, ?_, ?_, ?_, ?_, fun h => (by rw [hd] at h; cases h), ?_⟩
  · rw [← hW1, hrec, ← hN]; exact run_enterLoop_outer _ _ _ _ _
  · simp only [resolve, hg]
    simp [go_sem]
  · intro f' hf'; simp [Target.leads] at hf'; subst hf'; exact hFg
  · simp [invoke, go_sem, eg]
  · have hOf : ∀ {A B : World} {row : Option Nat}, (∀ r, row = some r → W1.heap.size ≤ r ∧ ∃ o : Obj, A.heap[r]? = some o ∧ o.isCells = false) → (∀ r, row = some r → w.heap.size ≤ r ∧ ∃ o : Obj, A.heap[r]? = some o ∧ o.isCells = false) :=
      fun hr r e => ⟨by have := (hr r e).1; omega, (hr r e).2⟩
    refine (hseq (N + 1) ((N + 1) :: L)
      (fun pre W => I pre W ∧ W.heap[N + 1]? = some (.loop (rec .ready none)) ∧ W.heap[N]? = some (.deferred (some [])))
      (fun pre W => Ix pre W ∧ W.heap[N + 1]? = some (.loop (rec .done (some .ret))) ∧ W.heap[N]? = some (.deferred (some [])))
      W1 hb1
      (fun s A B row hs hg' hr => ⟨hI s A B row hs.1 hg' (hOf (B := B) hr), keeps_at hg' hr (by omega) hs.2.1, keeps_at hg' hr (by omega) hs.2.2⟩)
      (fun s A B row hs hg' hr => ⟨hIx s A B row hs.1 hg' (hOf (B := B) hr), keeps_at hg' hr (by omega) hs.2.1, keeps_at hg' hr (by omega) hs.2.2⟩)
      (fun k hk => by
        rcases List.mem_cons.1 hk with rfl | hk
        · exact ⟨by omega, by omega, by omega⟩
        · have := hL k hk; exact ⟨this.1, by omega, this.2.2⟩)
      ?_ ⟨hI1, hL1, hK1⟩).mono ?_
    · rintro pre x W hsp ⟨hi, hl, hk⟩
      have hy := run_yield (P := P) (args := encs x) hl (by rw [hrec]; exact hps x)
      rw [hrec] at hy
      refine ⟨fn, _, assign, body, hy, roundIn_of_wpIn hfn (hassign _ pre x W _ hi ?_)⟩
      clear hy
      intro a' Wa hka hia hax
      have nL : N + 1 ∉ L := fun hm => by have := (hL _ hm).2.1; omega
      have nD : N ∉ L := fun hm => by have := (hL _ hm).2.1; omega
      replace hl := hka.same _ _ nL hl (.inr (.inl rfl))
      replace hk := hka.same _ _ nD hk (.inr (.inl rfl))
      have hlt : N + 1 < Wa.heap.size := (Array.getElem?_eq_some_iff.1 hl).1
      refine ⟨_, run_beginRound hl (by rw [hrec]), ?_⟩
      have hl2 : (Wa.putObj (N + 1) (.loop { rec .ready none with state := .busy })).heap[N + 1]? = some (.loop { rec .ready none with state := .busy }) := World.putObj_heap_same hlt
      have hk2 : (Wa.putObj (N + 1) (.loop { rec .ready none with state := .busy })).heap[N]? = some (.deferred (some [])) := (World.putObj_heap_other (by omega)).trans hk
      have hm : ∀ k, k ∈ L → k ∈ (N + 1) :: L := fun k hk => List.mem_cons_of_mem _ hk
      have hw2 : Kl T n₀ ((N + 1) :: L) W (Wa.putObj (N + 1) (.loop { rec .ready none with state := .busy })) := (hka.more hm).trans (Kl.put _ _ _ (by simp))
      refine wpIn_mono (hbody _ pre x a' _ (by omega) hsp (hI.putObj _ hia (by omega) hl rfl) ((hAx x a').putObj (s := ()) _ hax (by omega) hl rfl)) ?_
      have fin : ∀ (jump : Option Code) (W3 : World), Kl T n₀ L (Wa.putObj (N + 1) (.loop { rec .ready none with state := .busy })) W3 →
          (Instr.endRound (N + 1) jump).run P W3 = .ok (.bool jump.isNone) (W3.putObj (N + 1) (.loop (rec (if jump.isNone then .ready else .done) jump))) ∧
          W3.heap[N + 1]? = some (.loop { rec .ready none with state := .busy }) ∧
          (W3.putObj (N + 1) (.loop (rec (if jump.isNone then .ready else .done) jump))).heap[N + 1]? = some (.loop (rec (if jump.isNone then .ready else .done) jump)) ∧
          (W3.putObj (N + 1) (.loop (rec (if jump.isNone then .ready else .done) jump))).heap[N]? = some (.deferred (some [])) ∧
          Kl T n₀ ((N + 1) :: L) W (W3.putObj (N + 1) (.loop (rec (if jump.isNone then .ready else .done) jump))) := fun jump W3 hk3 => by
        have hl3 := hk3.same _ _ nL hl2 (.inr (.inl rfl))
        have hkk := hk3.same _ _ nD hk2 (.inr (.inl rfl))
        have hq := (hw2.trans (hk3.more hm)).trans (Kl.put W3 (N + 1) (.loop (rec (if jump.isNone then .ready else .done) jump)) (by simp))
        have := run_endRound (P := P) jump hl3
        rw [hrec] at this ⊢
        rw [hrec] at hl3 hq
        exact ⟨this, hl3, World.putObj_heap_same (Array.getElem?_eq_some_iff.1 hl3).1, (World.putObj_heap_other (by omega)).trans hkk, hq⟩
      rintro e a3 W3 hp
      cases e with
      | normal =>
        obtain ⟨hk3, hi3⟩ := hp
        obtain ⟨hr, hl3, hl4, hk4, hq⟩ := fin none W3 hk3
        exact ⟨_, _, hr, hq, .inl ⟨rfl, hI.putObj _ hi3 (by omega) hl3 rfl, hl4, hk4⟩⟩
      | ret =>
        obtain ⟨hk3, hi3⟩ := hp
        obtain ⟨hr, hl3, hl4, hk4, hq⟩ := fin (some .ret) W3 hk3
        exact ⟨_, _, hr, hq, .inr ⟨rfl, hIx.putObj _ hi3 (by omega) hl3 rfl, hl4, hk4⟩⟩
      | exit id => exact hp.elim
      | goto t => exact hp.elim
      | panic ch => exact hp.elim
      | outgrown => exact hp.elim
    · have hend : ∀ (W2 : World) (o : Obj), Kl T n₀ ((N + 1) :: L) W1 W2 → Kl T n₀ L w (W2.putObj (N + 1) o) := fun W2 o hq =>
        Kl.less (((Kl.of_below hb1).trans hq).trans (Kl.put W2 (N + 1) o (by simp))) (fun k hk => by
          rcases List.mem_cons.1 hk with rfl | hk
          · exact .inr (by omega)
          · exact .inl hk)
      rintro e W2 ⟨⟨v, rfl⟩, hq, (⟨xs, hS, hi, hl, hk⟩ | ⟨pre, hSp, hi, hl, hk⟩)⟩
      · exact ⟨none, _, by have := run_endLoop (P := P) hl (by rw [hrec]; simp); rw [hrec] at this; exact this, hdone _ xs _ (by omega) hS (hI.putObj _ hi (by omega) hl rfl) (hend _ _ hq) ((World.putObj_heap_other (by omega)).trans hk)⟩
      · exact ⟨some .ret, _, by have := run_endLoop (P := P) hl (by rw [hrec]; simp); rw [hrec] at this; exact this, hstop _ pre _ (by omega) hSp (hIx.putObj _ hi (by omega) hl rfl) (hend _ _ hq) ((World.putObj_heap_other (by omega)).trans hk)⟩
end Go.Proofs.Ytbnkgecblaffeaa
