/- A range over a function whose body may call the yield of another range: a law over 'what must outlast a round' (no program in it). -/
import Derived.RangeFuncNested
import Derived.RangeFuncBound
import Derived.RangeFuncCalls
import Derived.RangeFuncLeaves
import Derived.Shelf.Abstract
import Derived.Shelf.RegionOpen
import Derived.WalkKit
import Derived.OwnWalkIn
import Derived.TacticsInMore
import Derived.LoopNIn
import Derived.LoopIn
import Derived.Test.YtlalgkjollgcbaaGreatMN05
import Derived.Test.YtlalgkjollgcbaaGreatMN04
import Derived.Laws.EntriesVeiled
namespace Go.Proofs.YtlalgkjollgcbaaGreat
open Go Go.RowKit Go.Shelf

/-- From W to W' the world's other parts are the same, and of the blocks, those outside of L that lie below n₀, or hold no cells, or are of the kind T. -/
structure Kl (T : Nat → Obj → Prop) (n₀ : Nat) (L : List Nat) (W W' : World) : Prop where
  os : W'.os = W.os
  tape : W'.tape = W.tape
  output : W'.output = W.output
  size : W.heap.size ≤ W'.heap.size
  same : ∀ (k : Nat) (o : Obj), k ∉ L → W.heap[k]? = some o → (k < n₀ ∨ o.isCells = false ∨ T k o) → W'.heap[k]? = some o

variable {T : Nat → Obj → Prop} {n₀ : Nat} {L : List Nat}

theorem Kl.refl (W : World) : Kl T n₀ L W W := ⟨rfl, rfl, rfl, Nat.le_refl _, fun _ _ _ h _ => h⟩
theorem Kl.trans {A B C : World} (h : Kl T n₀ L A B) (k : Kl T n₀ L B C) : Kl T n₀ L A C :=
  ⟨k.os.trans h.os, k.tape.trans h.tape, k.output.trans h.output, Nat.le_trans h.size k.size, fun i o hi ho hg => k.same i o hi (h.same i o hi ho hg) hg⟩
theorem Kl.more {A B : World} {L' : List Nat} (h : Kl T n₀ L A B) (hs : ∀ k, k ∈ L → k ∈ L') : Kl T n₀ L' A B :=
  ⟨h.os, h.tape, h.output, h.size, fun i o hi ho hg => h.same i o (fun hk => hi (hs i hk)) ho hg⟩
/-- What lay in A is not among the newer ones. -/
theorem Kl.less {A B : World} {L' : List Nat} (h : Kl T n₀ L' A B) (hs : ∀ k, k ∈ L' → k ∈ L ∨ A.heap.size ≤ k) : Kl T n₀ L A B :=
  ⟨h.os, h.tape, h.output, h.size, fun i o hi ho hg => h.same i o (fun hk => by
    rcases hs i hk with h1 | h1
    · exact hi h1
    · have := (Array.getElem?_eq_some_iff.1 ho).1; omega) ho hg⟩
theorem Kl.below {A B : World} (h : Kl T n₀ L A B) (hL : ∀ k, k ∈ L → n₀ ≤ k) (hn : n₀ ≤ A.heap.size) : Below n₀ A B :=
  ⟨h.os, h.tape, h.output, h.size, fun k hk => by
    have hkA : k < A.heap.size := by omega
    have e : A.heap[k]? = some A.heap[k] := Array.getElem?_eq_some_iff.2 ⟨hkA, rfl⟩
    rw [e]
    exact h.same k _ (fun hm => by have := hL k hm; omega) e (.inl hk)⟩
theorem Kl.of_below {A B : World} (h : Below A.heap.size A B) : Kl T n₀ L A B :=
  ⟨h.os, h.tape, h.output, h.size, fun k _ _ ho _ => (h.block k (Array.getElem?_eq_some_iff.1 ho).1).trans ho⟩
theorem Kl.put (W : World) (l : Nat) (o : Obj) (hl : l ∈ L) : Kl T n₀ L W (W.putObj l o) :=
  ⟨rfl, rfl, rfl, by simp, fun k _ hk ho _ => (World.putObj_heap_other (fun e => by subst e; exact hk hl)).trans ho⟩
/-- A turn of a block that was not in A. -/
theorem Kl.putNew {A B : World} (h : Kl T n₀ L A B) (l : Nat) (o : Obj) (hl : A.heap.size ≤ l) : Kl T n₀ L A (B.putObj l o) :=
  ⟨h.os, h.tape, h.output, by simpa using h.size, fun k o' hk ho hg => (World.putObj_heap_other (fun e => by have := (Array.getElem?_eq_some_iff.1 ho).1; omega)).trans (h.same k o' hk ho hg)⟩

/-- An iterator's contract. -/
def SeqL (T : Nat → Obj → Prop) (n₀ pr : Nat) {α : Type} (F : Fence) (n : Nat) (P : Program) (g : Nat) (lb : Array Value) (encs : α → Array Value) (S Sp : List α → Prop) (w : World) : Prop :=
  ∀ (l : Nat) (L : List Nat) (J Jx : List α → World → Prop) (W : World), Below w.heap.size w W → OwnFrom W.heap.size J → OwnFrom W.heap.size Jx → (∀ k, k ∈ L → n₀ ≤ k ∧ k < W.heap.size ∧ k ≠ pr) →
    (∀ pre x W1, Sp (pre ++ [x]) → J pre W1 → YieldAt F (n - 1) P l (encs x) W1 fun e W' =>
      Kl T n₀ L W1 W' ∧ ((e = .returned (.bool true) ∧ J (pre ++ [x]) W') ∨ (e = .returned (.bool false) ∧ Jx (pre ++ [x]) W'))) →
    J [] W →
    CallsIn F n P g (#[.func (.yield l) #[] #[]] ++ lb) W fun e W' => (∃ v, e = .returned v) ∧ Kl T n₀ L W W' ∧ ((∃ xs, S xs ∧ J xs W') ∨ (∃ pre, Sp pre ∧ Jx pre W'))

/-- How the body of a round may be left. -/
def postL (T : Nat → Obj → Prop) (n₀ : Nat) (L : List Nat) {α : Type} (I Ix : List α → World → Prop) (xs : List α) (W : World) : Exit → Act → World → Prop
  | .normal, _, W' => Kl T n₀ L W W' ∧ I xs W'
  | .ret, _, W' => Kl T n₀ L W W' ∧ Ix xs W'
  | _, _, _ => False

variable {F : Fence} {n : Nat} {P : Program}

theorem keeps_at {X Y : World} {row : Option Nat} {B k : Nat} {o : Obj} (hg : X.grownBy Y row) (hr : ∀ r, row = some r → B ≤ r ∧ ∃ o : Obj, X.heap[r]? = some o ∧ o.isCells = false) (hk : k < B) (h : X.heap[k]? = some o) : Y.heap[k]? = some o :=
  (hg.block k (Array.getElem?_eq_some_iff.1 h).1 (fun e => by have := (hr k e.symm).1; omega)).trans h

theorem wpIn_rangeFunc_L {α : Type} {g : Operand} {ps : Array Tmp} {assign body : Code} {Q : Exit → Act → World → Prop} {a : Act} {w : World}
    (hro : F.round = none) (hd : F.depth = none) {gf : Nat} {lb : Array Value} (hg : a.eval g = .func (.func gf) #[] lb) (hFg : F.fn gf) (eg : ∀ args w, (callFunc gf args).run P w = .ok (.enter gf args) w)
    {encs : α → Array Value} {S Sp : List α → Prop} {pr : Nat} (hseq : SeqL T n₀ pr F (n - 1) P gf lb encs S Sp w)
    (hn₀ : n₀ ≤ w.heap.size) (hpr : pr < w.heap.size) (hL : ∀ k, k ∈ L → n₀ ≤ k ∧ k < w.heap.size ∧ k ≠ pr) (hps : ∀ x, (encs x).size = ps.size)
    (I Ix : List α → World → Prop) (hI : OwnFrom w.heap.size I) (hIx : OwnFrom w.heap.size Ix) (h0 : I [] w)
    (Ax : α → Act → World → Prop) (hAx : ∀ x a', OwnFrom w.heap.size (fun (_ : Unit) W => Ax x a' W))
    (hassign : ∀ (l : Nat) (pre : List α) (x : α) (W : World) (K : Act → World → Prop), I pre W → (∀ a' W', Kl T n₀ L W W' → I pre W' → Ax x a' W' → K a' W') →
      assign.wpIn (F.inRound l) (n - 1 - 1) P (Exit.then K (fun _ _ _ => False)) { tmps := (ps.zip (encs x)).foldl (fun t (p, v) => t.setIfInBounds p v) a.tmps, defers := [] } W)
    (hbody : ∀ (l : Nat) (pre : List α) (x : α) (a' : Act) (W : World), w.heap.size ≤ l → Sp (pre ++ [x]) → I pre W → Ax x a' W → body.wpIn (F.inRound l) (n - 1 - 1) P (postL T n₀ L I Ix (pre ++ [x]) W) a' W)
    (hdone : ∀ (D : Nat) (xs : List α) (W : World), w.heap.size ≤ D → S xs → I xs W → Kl T n₀ L w W → W.heap[D]? = some (.deferred (some [])) → Q .normal { a with defers := { target := .collected D, args := #[] } :: a.defers } W)
    (hstop : ∀ (D : Nat) (pre : List α) (W : World), w.heap.size ≤ D → Sp pre → Ix pre W → Kl T n₀ L w W → W.heap[D]? = some (.deferred (some [])) → Code.ret.wpIn F n P Q { a with defers := { target := .collected D, args := #[] } :: a.defers } W) :
    (Code.rangeFunc g ps assign body).wpIn F n P Q a w := by
  refine wpIn_rangeFunc ?_
  intro fn hfn
  rw [hro]
  obtain ⟨rec, hrec⟩ : ∃ rec : LoopState → Option Code → Loop, rec = fun st pe => { state := st, pending := pe, fn, tmps := a.tmps, params := ps, assign, body, defers := w.heap.size } := ⟨_, rfl⟩
  obtain ⟨W1, hW1⟩ : ∃ W1, (w.alloc (.deferred (some []))).alloc (.loop (rec .ready none)) = W1 := ⟨_, rfl⟩
  obtain ⟨N, hN⟩ : ∃ N, w.heap.size = N := ⟨_, rfl⟩
  have hz1 : W1.heap.size = N + 2 := by rw [← hW1, ← hN]; simp
  have hL1 : W1.heap[N + 1]? = some (.loop (rec .ready none)) := by
    rw [← hW1, ← hN]; have := World.alloc_heap_new (w.alloc (.deferred (some []))) (.loop (rec .ready none)); rwa [World.size_alloc] at this
  have hK1 : W1.heap[N]? = some (.deferred (some [])) := by
    rw [← hW1, ← hN]; exact (Below.heap_alloc _ _ _ (by simp)).trans (World.alloc_heap_new w _)
  have hI1 : I [] W1 := by rw [← hW1]; exact hI.alloc _ (hI.alloc _ h0)
  have hb1 : Below w.heap.size w W1 := by
    rw [← hW1]; exact ((Below.refl _ w).alloc (Nat.le_refl _) _).alloc (by simp) _
  refine ⟨N + 1, [{ target := .collected N, args := #[] }], W1, { target := .fn (.func gf) lb, args := #[.func (.yield (N + 1)) #[] #[]] }, W1, gf,
    #[.func (.yield (N + 1)) #[] #[]] ++ lb, W1, ?_, ?_, ?_, ?_, fun h => (by rw [hd] at h; cases h), ?_⟩
  · rw [← hW1, hrec, ← hN]; exact run_enterLoop_outer _ _ _ _ _
  · simp only [resolve, hg]
    simp [go_sem]
  · intro f' hf'; simp [Target.leads] at hf'; subst hf'; exact hFg
  · simp [invoke, go_sem, eg]
  · have hOf : ∀ {A B : World} {row : Option Nat}, (∀ r, row = some r → W1.heap.size ≤ r ∧ ∃ o : Obj, A.heap[r]? = some o ∧ o.isCells = false) → (∀ r, row = some r → w.heap.size ≤ r ∧ ∃ o : Obj, A.heap[r]? = some o ∧ o.isCells = false) :=
      fun hr r e => ⟨by have := (hr r e).1; omega, (hr r e).2⟩
    refine (hseq (N + 1) ((N + 1) :: L)
      (fun pre W => I pre W ∧ W.heap[N + 1]? = some (.loop (rec .ready none)) ∧ W.heap[N]? = some (.deferred (some [])))
      (fun pre W => Ix pre W ∧ W.heap[N + 1]? = some (.loop (rec .done (some .ret))) ∧ W.heap[N]? = some (.deferred (some [])))
      W1 hb1
      (fun s A B row hs hg' hr => ⟨hI s A B row hs.1 hg' (hOf (B := B) hr), keeps_at hg' hr (by omega) hs.2.1, keeps_at hg' hr (by omega) hs.2.2⟩)
      (fun s A B row hs hg' hr => ⟨hIx s A B row hs.1 hg' (hOf (B := B) hr), keeps_at hg' hr (by omega) hs.2.1, keeps_at hg' hr (by omega) hs.2.2⟩)
      (fun k hk => by
        rcases List.mem_cons.1 hk with rfl | hk
        · exact ⟨by omega, by omega, by omega⟩
        · have := hL k hk; exact ⟨this.1, by omega, this.2.2⟩)
      ?_ ⟨hI1, hL1, hK1⟩).mono ?_
    · rintro pre x W hsp ⟨hi, hl, hk⟩
      have hy := run_yield (P := P) (args := encs x) hl (by rw [hrec]; exact hps x)
      rw [hrec] at hy
      refine ⟨fn, _, assign, body, hy, roundIn_of_wpIn hfn (hassign _ pre x W _ hi ?_)⟩
      clear hy
      intro a' Wa hka hia hax
      have nL : N + 1 ∉ L := fun hm => by have := (hL _ hm).2.1; omega
      have nD : N ∉ L := fun hm => by have := (hL _ hm).2.1; omega
      replace hl := hka.same _ _ nL hl (.inr (.inl rfl))
      replace hk := hka.same _ _ nD hk (.inr (.inl rfl))
      have hlt : N + 1 < Wa.heap.size := (Array.getElem?_eq_some_iff.1 hl).1
      refine ⟨_, run_beginRound hl (by rw [hrec]), ?_⟩
      have hl2 : (Wa.putObj (N + 1) (.loop { rec .ready none with state := .busy })).heap[N + 1]? = some (.loop { rec .ready none with state := .busy }) := World.putObj_heap_same hlt
      have hk2 : (Wa.putObj (N + 1) (.loop { rec .ready none with state := .busy })).heap[N]? = some (.deferred (some [])) := (World.putObj_heap_other (by omega)).trans hk
      have hm : ∀ k, k ∈ L → k ∈ (N + 1) :: L := fun k hk => List.mem_cons_of_mem _ hk
      have hw2 : Kl T n₀ ((N + 1) :: L) W (Wa.putObj (N + 1) (.loop { rec .ready none with state := .busy })) := (hka.more hm).trans (Kl.put _ _ _ (by simp))
      refine wpIn_mono (hbody _ pre x a' _ (by omega) hsp (hI.putObj _ hia (by omega) hl rfl) ((hAx x a').putObj (s := ()) _ hax (by omega) hl rfl)) ?_
      have fin : ∀ (jump : Option Code) (W3 : World), Kl T n₀ L (Wa.putObj (N + 1) (.loop { rec .ready none with state := .busy })) W3 →
          (Instr.endRound (N + 1) jump).run P W3 = .ok (.bool jump.isNone) (W3.putObj (N + 1) (.loop (rec (if jump.isNone then .ready else .done) jump))) ∧
          W3.heap[N + 1]? = some (.loop { rec .ready none with state := .busy }) ∧
          (W3.putObj (N + 1) (.loop (rec (if jump.isNone then .ready else .done) jump))).heap[N + 1]? = some (.loop (rec (if jump.isNone then .ready else .done) jump)) ∧
          (W3.putObj (N + 1) (.loop (rec (if jump.isNone then .ready else .done) jump))).heap[N]? = some (.deferred (some [])) ∧
          Kl T n₀ ((N + 1) :: L) W (W3.putObj (N + 1) (.loop (rec (if jump.isNone then .ready else .done) jump))) := fun jump W3 hk3 => by
        have hl3 := hk3.same _ _ nL hl2 (.inr (.inl rfl))
        have hkk := hk3.same _ _ nD hk2 (.inr (.inl rfl))
        have hq := (hw2.trans (hk3.more hm)).trans (Kl.put W3 (N + 1) (.loop (rec (if jump.isNone then .ready else .done) jump)) (by simp))
        have := run_endRound (P := P) jump hl3
        rw [hrec] at this ⊢
        rw [hrec] at hl3 hq
        exact ⟨this, hl3, World.putObj_heap_same (Array.getElem?_eq_some_iff.1 hl3).1, (World.putObj_heap_other (by omega)).trans hkk, hq⟩
      rintro e a3 W3 hp
      cases e with
      | normal =>
        obtain ⟨hk3, hi3⟩ := hp
        obtain ⟨hr, hl3, hl4, hk4, hq⟩ := fin none W3 hk3
        exact ⟨_, _, hr, hq, .inl ⟨rfl, hI.putObj _ hi3 (by omega) hl3 rfl, hl4, hk4⟩⟩
      | ret =>
        obtain ⟨hk3, hi3⟩ := hp
        obtain ⟨hr, hl3, hl4, hk4, hq⟩ := fin (some .ret) W3 hk3
        exact ⟨_, _, hr, hq, .inr ⟨rfl, hIx.putObj _ hi3 (by omega) hl3 rfl, hl4, hk4⟩⟩
      | exit id => exact hp.elim
      | goto t => exact hp.elim
      | panic ch => exact hp.elim
      | outgrown => exact hp.elim
    · have hend : ∀ (W2 : World) (o : Obj), Kl T n₀ ((N + 1) :: L) W1 W2 → Kl T n₀ L w (W2.putObj (N + 1) o) := fun W2 o hq =>
        Kl.less (((Kl.of_below hb1).trans hq).trans (Kl.put W2 (N + 1) o (by simp))) (fun k hk => by
          rcases List.mem_cons.1 hk with rfl | hk
          · exact .inr (by omega)
          · exact .inl hk)
      rintro e W2 ⟨⟨v, rfl⟩, hq, (⟨xs, hS, hi, hl, hk⟩ | ⟨pre, hSp, hi, hl, hk⟩)⟩
      · exact ⟨none, _, by have := run_endLoop (P := P) hl (by rw [hrec]; simp); rw [hrec] at this; exact this, hdone _ xs _ (by omega) hS (hI.putObj _ hi (by omega) hl rfl) (hend _ _ hq) ((World.putObj_heap_other (by omega)).trans hk)⟩
      · exact ⟨some .ret, _, by have := run_endLoop (P := P) hl (by rw [hrec]; simp); rw [hrec] at this; exact this, hstop _ pre _ (by omega) hSp (hIx.putObj _ hi (by omega) hl rfl) (hend _ _ hq) ((World.putObj_heap_other (by omega)).trans hk)⟩
end Go.Proofs.YtlalgkjollgcbaaGreat
/- The law of L, where the loop's variable is a box of two numbers; a loop of three rounds; helpers (no program in it). -/
namespace Go.Proofs.YtlalgkjollgcbaaGreat
open Go Go.RowKit Go.Shelf

variable {T : Nat → Obj → Prop} {n₀ : Nat} {L : List Nat} {F : Fence} {n : Nat} {P : Program}

theorem grown_of_below {X Y : World} (h : Below X.heap.size X Y) : X.grownBy Y none :=
  ⟨h.os, h.tape, h.output, h.size, fun k hk _ => h.block k hk⟩
theorem OwnFrom.later {β : Type} {B : Nat} {I : β → World → Prop} (h : OwnFrom B I) {s : β} {X Y : World} (hs : I s X) (hb : Below X.heap.size X Y) : I s Y :=
  h s X Y none hs (grown_of_below hb) (fun r e => by cases e)
theorem own_and {β : Type} {B : Nat} {I I' : β → World → Prop} (h : OwnFrom B I) (h' : OwnFrom B I') : OwnFrom B (fun s W => I s W ∧ I' s W) :=
  fun s X Y row hs hg hr => ⟨h s X Y row hs.1 hg hr, h' s X Y row hs.2 hg hr⟩
theorem own_mono {β : Type} {B B' : Nat} {I : β → World → Prop} (h : OwnFrom B I) (hB : B ≤ B') : OwnFrom B' I :=
  fun s X Y row hs hg hr => h s X Y row hs hg (fun r e => ⟨Nat.le_trans hB (hr r e).1, (hr r e).2⟩)
theorem own_map {β γ : Type} {B : Nat} {I : β → World → Prop} (h : OwnFrom B I) (f : γ → β) : OwnFrom B (fun s W => I (f s) W) :=
  fun s X Y row hs hg hr => h (f s) X Y row hs hg hr
theorem own_kl {β : Type} {B : Nat} {W0 : World} (hB : W0.heap.size ≤ B) : OwnFrom B (fun (_ : β) W => Kl T n₀ L W0 W) :=
  fun _ X Y row hs hg hr => ⟨hg.os.trans hs.os, hg.tape.trans hs.tape, hg.output.trans hs.output, Nat.le_trans hs.size hg.size, fun k o hk ho hq => by
    have hX := hs.same k o hk ho hq
    refine (hg.block k (Array.getElem?_eq_some_iff.1 hX).1 (fun e => ?_)).trans hX
    have h1 := (hr k e.symm).1
    have h2 := (Array.getElem?_eq_some_iff.1 ho).1
    omega⟩

/-- A loop whose body is left by the third round at the latest. -/
theorem wpIn_loop_three {c : Code} {Q : Exit → Act → World → Prop} {a : Act} {w : World}
    (h : c.wpIn F n P (Exit.then (c.wpIn F n P (Exit.then (c.wpIn F n P (Exit.then (fun _ _ => False) Q)) Q)) Q) a w) : (Code.loop c).wpIn F n P Q a w := by
  classical
  refine wpIn_loop (fun a' w' => c.wpIn F n P (Exit.then (fun _ _ => False) Q) a' w' ∨ c.wpIn F n P (Exit.then (c.wpIn F n P (Exit.then (fun _ _ => False) Q)) Q) a' w' ∨ (a' = a ∧ w' = w))
    (fun a' w' => if c.wpIn F n P (Exit.then (fun _ _ => False) Q) a' w' then 0 else if c.wpIn F n P (Exit.then (c.wpIn F n P (Exit.then (fun _ _ => False) Q)) Q) a' w' then 1 else 2) (.inr (.inr ⟨rfl, rfl⟩)) ?_
  intro a' w' hI
  by_cases h0 : c.wpIn F n P (Exit.then (fun _ _ => False) Q) a' w'
  · exact Go.wpIn_mono h0 (fun e a w q => by cases e <;> first | exact q | exact q.elim)
  · by_cases h1 : c.wpIn F n P (Exit.then (c.wpIn F n P (Exit.then (fun _ _ => False) Q)) Q) a' w'
    · refine Go.wpIn_mono h1 (fun e a w q => ?_)
      cases e with
      | normal => exact ⟨.inl q, by simp only [if_pos (show c.wpIn F n P (Exit.then (fun _ _ => False) Q) a w from q), if_neg h0, if_pos h1]; omega⟩
      | _ => exact q
    · have hs : a' = a ∧ w' = w := by
        rcases hI with h | h | h
        · exact absurd h h0
        · exact absurd h h1
        · exact h
      obtain ⟨rfl, rfl⟩ := hs
      refine Go.wpIn_mono h (fun e a w q => ?_)
      cases e with
      | normal =>
        refine ⟨.inr (.inl q), ?_⟩
        simp only [if_neg h0, if_neg h1, if_pos (show c.wpIn F n P (Exit.then (c.wpIn F n P (Exit.then (fun _ _ => False) Q)) Q) a w from q)]
        split <;> omega
      | _ => exact q

def enc2 (x : Int × Int) : Value := .agg #[.int .i64 x.1, .int .i64 x.2]

/-- The law, where the loop's variable (slot h) is a box of the two numbers that come (slot p). -/
theorem wpIn_rangeFunc_B {g : Operand} {p h : Nat} {assign body : Code} {Q : Exit → Act → World → Prop} {a : Act} {w : World}
    (hro : F.round = none) (hd : F.depth = none) {gf : Nat} {lb : Array Value} (hg : a.eval g = .func (.func gf) #[] lb) (hFg : F.fn gf) (eg : ∀ args w, (callFunc gf args).run P w = .ok (.enter gf args) w)
    {S Sp : List (Int × Int) → Prop} {pr : Nat} (hseq : SeqL T n₀ pr F (n - 1) P gf lb (fun x => #[enc2 x]) S Sp w)
    (hn₀ : n₀ ≤ w.heap.size) (hpr : pr < w.heap.size) (hL : ∀ k, k ∈ L → n₀ ≤ k ∧ k < w.heap.size ∧ k ≠ pr)
    (I Ix : List (Int × Int) → World → Prop) (hI : OwnFrom w.heap.size I) (hIx : OwnFrom w.heap.size Ix) (h0 : I [] w)
    (hassign : ∀ (l : Nat) (x : Int × Int) (W : World) (K : Act → World → Prop), (∀ Bx W', Below W.heap.size W W' → W.heap.size ≤ Bx → W'.cell? ⟨Bx, 0, none⟩ = some (.int .i64 x.1) → W'.cell? ⟨Bx, 1, none⟩ = some (.int .i64 x.2) →
        K { tmps := (a.tmps.setIfInBounds p (enc2 x)).setIfInBounds h (.pointer (some ⟨Bx, 0, none⟩)), defers := [] } W') →
      assign.wpIn (F.inRound l) (n - 1 - 1) P (Exit.then K (fun _ _ _ => False)) { tmps := a.tmps.setIfInBounds p (enc2 x), defers := [] } W)
    (hbody : ∀ (l : Nat) (pre : List (Int × Int)) (x : Int × Int) (Bx : Nat) (W : World), w.heap.size ≤ l → Sp (pre ++ [x]) → I pre W → W.cell? ⟨Bx, 0, none⟩ = some (.int .i64 x.1) → W.cell? ⟨Bx, 1, none⟩ = some (.int .i64 x.2) →
      body.wpIn (F.inRound l) (n - 1 - 1) P (postL T n₀ L I Ix (pre ++ [x]) W) { tmps := (a.tmps.setIfInBounds p (enc2 x)).setIfInBounds h (.pointer (some ⟨Bx, 0, none⟩)), defers := [] } W)
    (hdone : ∀ (D : Nat) (xs : List (Int × Int)) (W : World), w.heap.size ≤ D → S xs → I xs W → Kl T n₀ L w W → W.heap[D]? = some (.deferred (some [])) → Q .normal { a with defers := { target := .collected D, args := #[] } :: a.defers } W)
    (hstop : ∀ (D : Nat) (pre : List (Int × Int)) (W : World), w.heap.size ≤ D → Sp pre → Ix pre W → Kl T n₀ L w W → W.heap[D]? = some (.deferred (some [])) → Code.ret.wpIn F n P Q { a with defers := { target := .collected D, args := #[] } :: a.defers } W) :
    (Code.rangeFunc g #[p] assign body).wpIn F n P Q a w :=
  wpIn_rangeFunc_L hro hd hg hFg eg hseq hn₀ hpr hL (fun _ => rfl) I Ix hI hIx h0
    (fun x a' W => ∃ Bx, W.cell? ⟨Bx, 0, none⟩ = some (.int .i64 x.1) ∧ W.cell? ⟨Bx, 1, none⟩ = some (.int .i64 x.2) ∧ a' = { tmps := (a.tmps.setIfInBounds p (enc2 x)).setIfInBounds h (.pointer (some ⟨Bx, 0, none⟩)), defers := [] })
    (fun x a' _ X Y row hs hg hr => by
      obtain ⟨Bx, c0, c1, ha⟩ := hs
      exact ⟨Bx, cell_kept c0 hg (fun r e => (hr r e).2), cell_kept c1 hg (fun r e => (hr r e).2), ha⟩)
    (fun l pre x W K hi hK => by
      have := hassign l x W K (fun Bx W' hb _ c0 c1 => hK _ _ (Kl.of_below hb) (OwnFrom.later hI hi hb) ⟨Bx, c0, c1, rfl⟩)
      have e : (#[p].zip #[enc2 x]).foldl (fun t (p, v) => t.setIfInBounds p v) a.tmps = a.tmps.setIfInBounds p (enc2 x) := by simp
      rw [e]
      exact this)
    (fun l pre x a' W hl hsp hi hax => by
      obtain ⟨Bx, c0, c1, rfl⟩ := hax
      exact hbody l pre x Bx W hl hsp hi c0 c1)
    hdone hstop
end Go.Proofs.YtlalgkjollgcbaaGreat
/- What holes of package space comes to: the iterator. -/
namespace Go.Proofs.YtlalgkjollgcbaaGreat
open Go.RowKit Go.Shelf
attribute [local go_sem] Oper.semAt_some

/-- The greatest free parts of a prefix, by way of its halves, some f levels down. -/
def hol (ps : List (Int × Int)) : Nat → Int → Int → List (Int × Int)
  | 0, a, l => if mtsAny a l ps then [] else [(a, l)]
  | f + 1, a, l => if mtsAny a l ps then (if insAny a l ps then [] else hol ps f a (l + 1) ++ hol ps f (a + sp (l + 1)) (l + 1)) else [(a, l)]

def TH (n₀ : Nat) (k : Nat) (o : Obj) : Prop := n₀ < k ∧ ∃ v, o = .cells #[v] 147 ∨ o = .cells #[v] 86

theorem yield_any {m m' : Nat} {P : Program} {l : Nat} {args : Array Value} {W : World} {R : Ending → World → Prop} (h : YieldAt Fence.wide m P l args W R) : YieldAt Fence.wide m' P l args W R := by
  obtain ⟨fn, tmps, assign, body, hy, hR⟩ := h
  exact ⟨fn, tmps, assign, body, hy, hR.1, fun c cs _ => hR.2 c cs (fun d h => by cases h)⟩

end Go.Proofs.YtlalgkjollgcbaaGreat
/- What the iterator of holes comes to where the prefix is inside of a used one. -/
namespace Go.Proofs.YtlalgkjollgcbaaGreat
open Go.RowKit Go.Shelf
attribute [local go_sem] Oper.semAt_some
end Go.Proofs.YtlalgkjollgcbaaGreat
/- The mathematics of holes: what they are, which fits, how the document's own walk finds them (no program in it). -/
namespace Go.Proofs.YtlalgkjollgcbaaGreat
/-- What the numbers say of a prefix inside of another one. -/
theorem ins_nums {a l c m : Int} (h : ins a l c m = true) : rt a l = true ∧ rt c m = true ∧ m ≤ l ∧ c ≤ a ∧ a + sp l ≤ c + sp m := by
  have h0 := h
  unfold ins at h
  simp only [Bool.and_eq_true, decide_eq_true_eq] at h
  obtain ⟨⟨⟨h1, h2⟩, h3⟩, h4⟩ := h
  rw [ins_iff a l c m h1 h2] at h0
  unfold hld at h0
  simp only [Bool.and_eq_true, decide_eq_true_eq] at h0
  exact ⟨h1, h2, h3, h0.1.1.2, by omega⟩
theorem ins_of {a l c m : Int} (h1 : rt a l = true) (h2 : rt c m = true) (h3 : c ≤ a) (h4 : a + sp l ≤ c + sp m) : ins a l c m = true := by
  have := sp_pos l
  rw [ins_iff a l c m h1 h2]
  unfold hld
  rw [h2]
  simp only [Bool.true_and, Bool.and_eq_true, decide_eq_true_eq]
  omega
theorem mts_nums {a l c m : Int} (h : mts a l c m = true) : rt a l = true ∧ rt c m = true ∧ a < c + sp m ∧ c < a + sp l := by
  have h1 : rt a l = true ∧ rt c m = true := by
    unfold mts at h
    rcases Bool.or_eq_true_iff.1 h with h | h
    · exact ⟨(ins_nums h).1, (ins_nums h).2.1⟩
    · exact ⟨(ins_nums h).2.1, (ins_nums h).1⟩
  rw [mts_iff a l c m h1.1 h1.2] at h
  simp only [Bool.and_eq_true, decide_eq_true_eq] at h
  exact ⟨h1.1, h1.2, by omega, by omega⟩
theorem mts_of {a l c m : Int} (h1 : rt a l = true) (h2 : rt c m = true) (h3 : a < c + sp m) (h4 : c < a + sp l) : mts a l c m = true := by
  rw [mts_iff a l c m h1 h2]
  simp only [Bool.and_eq_true, decide_eq_true_eq]
  omega
theorem mts_comm (a l c m : Int) : mts a l c m = mts c m a l := by unfold mts; exact Bool.or_comm _ _
/-- Two that meet: one is inside of the other. -/
theorem mts_ins {a l c m : Int} (h : mts a l c m = true) : ins a l c m = true ∨ ins c m a l = true := by
  unfold mts at h; exact Bool.or_eq_true_iff.1 h
theorem ins_trans {a l c m e k : Int} (h : ins a l c m = true) (g : ins c m e k = true) : ins a l e k = true := by
  obtain ⟨h1, h2, h3, h4, h5⟩ := ins_nums h
  obtain ⟨g1, g2, g3, g4, g5⟩ := ins_nums g
  exact ins_of h1 g2 (by omega) (by omega)
theorem ins_mts {a l c m : Int} (h : ins a l c m = true) : mts a l c m = true := by unfold mts; rw [h]; rfl
theorem ins_self {a l : Int} (h : rt a l = true) : ins a l a l = true := ins_of h h (by omega) (by omega)
theorem ins_anti {a l c m : Int} (h : ins a l c m = true) (g : ins c m a l = true) : a = c ∧ l = m := by
  obtain ⟨h1, h2, h3, h4, h5⟩ := ins_nums h
  obtain ⟨g1, g2, g3, g4, g5⟩ := ins_nums g
  omega

theorem sp_half {l : Int} (h0 : 0 ≤ l) (h1 : l < 16) : sp l = 2 * sp (l + 1) := by
  rw [sp_eq l h0 (by omega), sp_eq (l + 1) (by omega) (by omega)]
  have : (16 - l).toNat = (16 - (l + 1)).toNat + 1 := by omega
  rw [this, Int.pow_succ]
  omega
theorem rt_of {a l : Int} (h0 : 0 ≤ l) (h1 : l ≤ 16) (h2 : 0 ≤ a) (h3 : a ≤ 65535) (h4 : sp l ∣ a) : rt a l = true := by
  unfold rt chk
  rw [if_neg (by omega), if_pos (Int.emod_eq_zero_of_dvd h4)]
  rfl
theorem sp_16 : sp 16 = 1 := by decide
theorem rt_top {a l : Int} (h : rt a l = true) : a + sp l ≤ 65536 := by
  obtain ⟨h0, h1, h2, h3, h4⟩ := rt_range h
  have hd : sp l ∣ 65536 := by have := sp_dvd (l := l) (m := 0) (by omega) h0 h1; simpa [sp] using this
  exact step_le (sp_pos l) (Int.dvd_of_emod_eq_zero h4) hd (by omega)
theorem rt_low {a l : Int} (h : rt a l = true) (h16 : l < 16) : rt a (l + 1) = true := by
  obtain ⟨h0, h1, h2, h3, h4⟩ := rt_range h
  exact rt_of (by omega) (by omega) h2 h3 (Int.dvd_trans (sp_dvd h0 (by omega) (by omega)) (Int.dvd_of_emod_eq_zero h4))
theorem rt_high {a l : Int} (h : rt a l = true) (h16 : l < 16) : rt (a + sp (l + 1)) (l + 1) = true := by
  obtain ⟨h0, h1, h2, h3, h4⟩ := rt_range h
  have := rt_top h
  have := sp_half h0 h16
  have := sp_pos (l + 1)
  exact rt_of (by omega) (by omega) (by omega) (by omega) (Int.dvd_add (Int.dvd_trans (sp_dvd h0 (by omega) (by omega)) (Int.dvd_of_emod_eq_zero h4)) (Int.dvd_refl _))

theorem mtsAny_iff {a l : Int} {ps : List (Int × Int)} : mtsAny a l ps = true ↔ ∃ u ∈ ps, mts a l u.1 u.2 = true := by
  unfold mtsAny anyAt
  rw [List.any_eq_true]
  constructor
  · rintro ⟨i, hi, h⟩
    rw [List.mem_range] at hi
    refine ⟨ps[i], List.getElem_mem hi, ?_⟩
    simpa [at0, at1, List.getD_eq_getElem?_getD, List.getElem?_eq_getElem hi] using h
  · rintro ⟨u, hu, h⟩
    obtain ⟨i, hi, rfl⟩ := List.getElem_of_mem hu
    refine ⟨i, List.mem_range.2 hi, ?_⟩
    simpa [at0, at1, List.getD_eq_getElem?_getD, List.getElem?_eq_getElem hi] using h
theorem insAny_iff {a l : Int} {ps : List (Int × Int)} : insAny a l ps = true ↔ ∃ u ∈ ps, ins a l u.1 u.2 = true := by
  unfold insAny anyAt
  rw [List.any_eq_true]
  constructor
  · rintro ⟨i, hi, h⟩
    rw [List.mem_range] at hi
    refine ⟨ps[i], List.getElem_mem hi, ?_⟩
    simpa [at0, at1, List.getD_eq_getElem?_getD, List.getElem?_eq_getElem hi] using h
  · rintro ⟨u, hu, h⟩
    obtain ⟨i, hi, rfl⟩ := List.getElem_of_mem hu
    refine ⟨i, List.mem_range.2 hi, ?_⟩
    simpa [at0, at1, List.getD_eq_getElem?_getD, List.getElem?_eq_getElem hi] using h
theorem not_true {b : Bool} (h : ¬ b = true) : b = false := by cases b <;> simp_all

/-- What the holes of a prefix are: free, inside of it, rising and apart, and each free prefix inside of it is in one. -/
structure HolesAre (ps : List (Int × Int)) (a l : Int) (H : List (Int × Int)) : Prop where
  free : ∀ h ∈ H, ins h.1 h.2 a l = true ∧ mtsAny h.1 h.2 ps = false
  all : ∀ x k, ins x k a l = true → mtsAny x k ps = false → ∃ h ∈ H, ins x k h.1 h.2 = true
  rise : H.Pairwise fun h g => h.1 + sp h.2 ≤ g.1

/-- What is inside of a prefix and meets something that it meets too. -/
theorem free_in {x k a l : Int} {ps : List (Int × Int)} (h : ins x k a l = true) (hf : mtsAny a l ps = false) : mtsAny x k ps = false := by
  refine not_true fun hm => ?_
  obtain ⟨u, hu, h1⟩ := mtsAny_iff.1 hm
  have h2 := mts_nums h1
  have h3 := ins_nums h
  have : mtsAny a l ps = true := mtsAny_iff.2 ⟨u, hu, mts_of h3.2.1 h2.2.1 (by omega) (by omega)⟩
  rw [this] at hf; cases hf

/-- A prefix inside of another one, and not the same, is inside of one of its halves. -/
theorem ins_half {x k a l : Int} (h : ins x k a l = true) (hk : l < k) (h16 : l < 16) : ins x k a (l + 1) = true ∨ ins x k (a + sp (l + 1)) (l + 1) = true := by
  obtain ⟨h1, h2, h3, h4, h5⟩ := ins_nums h
  obtain ⟨k0, k1, x0, x1, xd⟩ := rt_range h1
  obtain ⟨l0, l1, a0, a1, ad⟩ := rt_range h2
  have hs := sp_half l0 h16
  by_cases hx : x < a + sp (l + 1)
  · left
    refine ins_of h1 (rt_low h2 h16) h4 ?_
    have d1 : sp k ∣ sp (l + 1) := sp_dvd (by omega) (by omega) k1
    have d2 : sp (l + 1) ∣ a := Int.dvd_trans (sp_dvd l0 (by omega) (by omega)) (Int.dvd_of_emod_eq_zero ad)
    exact step_le (sp_pos k) (Int.dvd_of_emod_eq_zero xd) (Int.dvd_add (Int.dvd_trans d1 d2) d1) hx
  · right
    exact ins_of h1 (rt_high h2 h16) (by omega) (by omega)

theorem hol_are (ps : List (Int × Int)) : ∀ (f : Nat) (a l : Int), rt a l = true → (f : Int) = 16 - l → HolesAre ps a l (hol ps f a l)
  | 0, a, l, hr, hf => by
    have hl : l = 16 := by omega
    cases hm : mtsAny a l ps
    · simp only [hol, hm]
      exact ⟨by simp [ins_self hr, hm], fun x k hx _ => ⟨(a, l), by simp, hx⟩, by simp⟩
    · simp only [hol, hm]
      refine ⟨by simp, fun x k hx hfr => ?_, by simp⟩
      exfalso
      obtain ⟨g1, g2, g3, g4, g5⟩ := ins_nums hx
      have hxe : k = l := by have := rt_range g1; omega
      subst hxe
      have : x = a := by omega
      subst this
      rw [hm] at hfr; cases hfr
  | f + 1, a, l, hr, hf => by
    have h16 : l < 16 := by omega
    have l0 := (rt_range hr).1
    cases hm : mtsAny a l ps
    · simp only [hol, hm]
      exact ⟨by simp [ins_self hr, hm], fun x k hx _ => ⟨(a, l), by simp, hx⟩, by simp⟩
    · cases hi : insAny a l ps
      · simp only [hol, hm, hi]
        have A := hol_are ps f a (l + 1) (rt_low hr h16) (by omega)
        have B := hol_are ps f (a + sp (l + 1)) (l + 1) (rt_high hr h16) (by omega)
        have hs := sp_half l0 h16
        have pl := sp_pos (l + 1)
        have iA : ins a (l + 1) a l = true := ins_of (rt_low hr h16) hr (by omega) (by omega)
        have iB : ins (a + sp (l + 1)) (l + 1) a l = true := ins_of (rt_high hr h16) hr (by omega) (by omega)
        refine ⟨?_, ?_, ?_⟩
        · intro h hh
          simp only [if_true, Bool.false_eq_true, if_false, List.mem_append] at hh
          rcases hh with hh | hh
          · exact ⟨ins_trans (A.free h hh).1 iA, (A.free h hh).2⟩
          · exact ⟨ins_trans (B.free h hh).1 iB, (B.free h hh).2⟩
        · intro x k hx hfr
          have hk : l < k := by
            obtain ⟨g1, g2, g3, g4, g5⟩ := ins_nums hx
            by_cases hk : l < k
            · exact hk
            · have hkl : k = l := by omega
              subst hkl
              have : x = a := by omega
              subst this
              rw [hm] at hfr; cases hfr
          simp only [if_true, Bool.false_eq_true, if_false, List.mem_append]
          rcases ins_half hx hk h16 with h1 | h1
          · obtain ⟨h, hh, h2⟩ := A.all x k h1 hfr
            exact ⟨h, .inl hh, h2⟩
          · obtain ⟨h, hh, h2⟩ := B.all x k h1 hfr
            exact ⟨h, .inr hh, h2⟩
        · simp only [if_true, Bool.false_eq_true, if_false]
          rw [List.pairwise_append]
          refine ⟨A.rise, B.rise, fun h hh g hg => ?_⟩
          have h1 := ins_nums (A.free h hh).1
          have h2 := ins_nums (B.free g hg).1
          omega
      · simp only [hol, hm, hi]
        refine ⟨by simp, fun x k hx hfr => ?_, by simp⟩
        exfalso
        obtain ⟨u, hu, h1⟩ := insAny_iff.1 hi
        have : mtsAny x k ps = true := mtsAny_iff.2 ⟨u, hu, ins_mts (ins_trans hx h1)⟩
        rw [this] at hfr; cases hfr

/-- A list of used prefixes as a right space has it. -/
structure Used (ps : List (Int × Int)) (a l : Int) : Prop where
  inn : ∀ u ∈ ps, ins u.1 u.2 a l = true
  rise : ps.Pairwise fun h g => h.1 + sp h.2 ≤ g.1

theorem at0_get {ps : List (Int × Int)} {i : Nat} (h : i < ps.length) : at0 ps i = ps[i].1 := by
  simp [at0, List.getD_eq_getElem?_getD, List.getElem?_eq_getElem h]
theorem at1_get {ps : List (Int × Int)} {i : Nat} (h : i < ps.length) : at1 ps i = ps[i].2 := by
  simp [at1, List.getD_eq_getElem?_getD, List.getElem?_eq_getElem h]

theorem used_of {ps : List (Int × Int)} {a l : Int} (h : apartB a l ps = true) : Used ps a l := by
  unfold apartB at h
  rw [List.all_eq_true] at h
  have ok : ∀ i (hi : i < ps.length), ins ps[i].1 ps[i].2 a l = true := fun i hi => by
    have := h i (List.mem_range.2 hi)
    unfold okAt at this
    rw [Bool.and_eq_true, at0_get hi, at1_get hi] at this
    exact this.1
  have nx : ∀ i (hi : i + 1 < ps.length), ps[i].1 + sp ps[i].2 ≤ ps[i + 1].1 := fun i hi => by
    have := h (i + 1) (List.mem_range.2 hi)
    unfold okAt at this
    rw [Bool.and_eq_true] at this
    have h2 := this.2
    simp only [Nat.add_sub_cancel, Nat.add_eq_zero_iff, Nat.one_ne_zero, and_false, Bool.or_eq_true, Bool.and_eq_true, decide_eq_true_eq, Bool.not_eq_true', beq_iff_eq, false_or] at h2
    rw [at0_get hi, at1_get hi, at0_get (by omega), at1_get (by omega)] at h2
    obtain ⟨h3, h4⟩ := h2
    have h5 := (ins_nums (ok i (by omega))).1
    have h6 := (ins_nums (ok (i + 1) hi)).1
    have p := sp_pos ps[i + 1].2
    by_cases h7 : ps[i].1 + sp ps[i].2 ≤ ps[i + 1].1
    · exact h7
    · have := mts_of h5 h6 (by omega) (by omega)
      rw [this] at h4; cases h4
  refine ⟨fun u hu => ?_, ?_⟩
  · obtain ⟨i, hi, rfl⟩ := List.getElem_of_mem hu
    exact ok i hi
  · rw [List.pairwise_iff_getElem]
    intro i j hi hj hij
    induction j with
    | zero => omega
    | succ j ih =>
      by_cases he : i = j
      · subst he; exact nx i hj
      · have h1 := ih (by omega) (by omega)
        have h2 := nx j hj
        have h3 := sp_pos ps[j].2
        omega

/-- A prefix of that length that is free. -/
def okFit (ps : List (Int × Int)) (a l z x : Int) : Prop := ins x z a l = true ∧ mtsAny x z ps = false
/-- The least one that is free; none, if there is none. -/
def FitIs (ps : List (Int × Int)) (a l z : Int) : Option Int → Prop
  | some x => okFit ps a l z x ∧ ∀ y, okFit ps a l z y → x ≤ y
  | none => ∀ y, ¬ okFit ps a l z y
theorem FitIs.one {ps : List (Int × Int)} {a l z : Int} : ∀ {r s : Option Int}, FitIs ps a l z r → FitIs ps a l z s → r = s
  | some x, some y, h, g => by have := h.2 y g.1; have := g.2 x h.1; congr 1; omega
  | some x, none, h, g => absurd h.1 (g x)
  | none, some y, h, g => absurd g.1 (h y)
  | none, none, _, _ => rfl

theorem rt_part {x k z : Int} (h : rt x k = true) (hz : k ≤ z) (h16 : z ≤ 16) : rt x z = true := by
  obtain ⟨h0, h1, h2, h3, h4⟩ := rt_range h
  exact rt_of (by omega) h16 h2 h3 (Int.dvd_trans (sp_dvd h0 hz h16) (Int.dvd_of_emod_eq_zero h4))
theorem ins_part {x k z : Int} (h : rt x k = true) (hz : k ≤ z) (h16 : z ≤ 16) : ins x z x k = true :=
  ins_of (rt_part h hz h16) h (by omega) (by have := sp_anti (rt_range h).1 hz h16; omega)

theorem rise_first {H : List (Int × Int)} (hr : H.Pairwise fun h g => h.1 + sp h.2 ≤ g.1) {p : (Int × Int) → Bool} {h g : Int × Int} (hf : H.find? p = some h) (hg : g ∈ H) (hp : p g = true) : h.1 ≤ g.1 := by
  induction H with
  | nil => cases hg
  | cons e t ih =>
    rw [List.pairwise_cons] at hr
    rw [List.find?_cons] at hf
    cases he : p e
    · rw [he] at hf
      rcases List.mem_cons.1 hg with rfl | hg
      · rw [hp] at he; cases he
      · exact ih hr.2 hf hg
    · rw [he] at hf
      simp only [Option.some.injEq] at hf
      subst hf
      rcases List.mem_cons.1 hg with rfl | hg
      · exact Int.le_refl _
      · have := hr.1 g hg; have := sp_pos e.2; omega

theorem fit_hol {ps : List (Int × Int)} {a l z : Int} {H : List (Int × Int)} (hH : HolesAre ps a l H) (h16 : z ≤ 16) :
    FitIs ps a l z ((H.find? fun h => decide (h.2 ≤ z)).map (·.1)) := by
  cases hf : H.find? fun h => decide (h.2 ≤ z) with
  | none =>
    intro y hy
    obtain ⟨g, hg, h1⟩ := hH.all y z hy.1 hy.2
    have := List.find?_eq_none.1 hf g hg
    have h2 := ins_nums h1
    simp at this
    omega
  | some h =>
    have hm := List.mem_of_find?_eq_some hf
    have hz : h.2 ≤ z := by have := List.find?_some hf; simpa using this
    obtain ⟨h1, h2⟩ := hH.free h hm
    have hi := ins_part (ins_nums h1).1 hz h16
    refine ⟨⟨ins_trans hi h1, free_in hi h2⟩, fun y hy => ?_⟩
    obtain ⟨g, hg, h3⟩ := hH.all y z hy.1 hy.2
    have h4 := ins_nums h3
    have := rise_first hH.rise hf hg (by simpa using h4.2.2.1)
    show h.1 ≤ y
    omega

/-- How far the used ones that a place meets reach. -/
def farOf (ps : List (Int × Int)) (x z : Int) : Int := ps.foldl (fun f u => if mts u.1 u.2 x z then max f (u.1 + sp u.2 - 1) else f) x
theorem far_foldl {ps : List (Int × Int)} {x z : Int} (f : Int) : f ≤ ps.foldl (fun f u => if mts u.1 u.2 x z then max f (u.1 + sp u.2 - 1) else f) f ∧
    (ps.foldl (fun f u => if mts u.1 u.2 x z then max f (u.1 + sp u.2 - 1) else f) f = f ∨ ∃ u ∈ ps, mts u.1 u.2 x z = true ∧ ps.foldl (fun f u => if mts u.1 u.2 x z then max f (u.1 + sp u.2 - 1) else f) f = u.1 + sp u.2 - 1) := by
  induction ps generalizing f with
  | nil => exact ⟨Int.le_refl _, .inl rfl⟩
  | cons u t ih =>
    simp only [List.foldl_cons]
    cases hm : mts u.1 u.2 x z
    · simp only [Bool.false_eq_true, if_false]
      obtain ⟨h1, h2⟩ := ih f
      refine ⟨h1, ?_⟩
      rcases h2 with h2 | ⟨v, hv, h3⟩
      · exact .inl h2
      · exact .inr ⟨v, List.mem_cons_of_mem _ hv, h3⟩
    · simp only [if_true]
      obtain ⟨h1, h2⟩ := ih (max f (u.1 + sp u.2 - 1))
      refine ⟨by omega, ?_⟩
      rcases h2 with h2 | ⟨v, hv, h3⟩
      · rw [h2]
        by_cases hx : f ≤ u.1 + sp u.2 - 1
        · exact .inr ⟨u, by simp, hm, by omega⟩
        · exact .inl (by omega)
      · exact .inr ⟨v, List.mem_cons_of_mem _ hv, h3⟩

/-- A place that no free one is ahead of, and that is not free: where none is ahead of then. -/
theorem fit_step {ps : List (Int × Int)} {a l z x : Int} (hd : sp z ∣ x) (hlow : ∀ y, okFit ps a l z y → x ≤ y) (hno : mtsAny x z ps = true) :
    ∀ y, okFit ps a l z y → max x (farOf ps x z / sp z * sp z) + sp z ≤ y := by
  intro y hy
  have pz := sp_pos z
  have hxy := hlow y hy
  have ry := (ins_nums hy.1).1
  have dy : sp z ∣ y := Int.dvd_of_emod_eq_zero (rt_range ry).2.2.2.2
  have hne : x < y := by
    by_cases h : x = y
    · subst h; have := hy.2; rw [hno] at this; cases this
    · omega
  have hxz := step_le pz hd dy hne
  have hfar : farOf ps x z < y := by
    obtain ⟨h1, h2⟩ := far_foldl (ps := ps) (x := x) (z := z) x
    rcases h2 with h2 | ⟨u, hu, h3, h4⟩
    · unfold farOf; rw [h2]; exact hne
    · unfold farOf; rw [h4]
      by_cases h5 : u.1 + sp u.2 - 1 < y
      · exact h5
      · exfalso
        have h6 := mts_nums h3
        have : mtsAny y z ps = true := mtsAny_iff.2 ⟨u, hu, mts_of ry h6.1 (by omega) (by omega)⟩
        have h7 := hy.2
        rw [this] at h7; cases h7
  have hq : farOf ps x z / sp z * sp z ≤ farOf ps x z := Int.ediv_mul_le _ (by omega)
  have hq2 := step_le (s := sp z) (a := farOf ps x z / sp z * sp z) (e := y) pz (Int.dvd_mul_left _ _) dy (by omega)
  omega

/-- Where the document's own walk through the holes stands. -/
structure HInv (ps : List (Int × Int)) (a l : Int) (H : List (Int × Int)) (x : Int) (out : List (Int × Int)) : Prop where
  low : a ≤ x
  high : x ≤ a + sp l
  parts : ∃ rest, H = out ++ rest ∧ ∀ h ∈ rest, x ≤ h.1
  past : ∀ h ∈ out, h.1 + sp h.2 ≤ x
  used : ∀ u ∈ ps, x ≤ u.1 ∨ u.1 + sp u.2 ≤ x

theorem HInv.start {ps : List (Int × Int)} {a l : Int} {H : List (Int × Int)} (hH : HolesAre ps a l H) (hu : Used ps a l) : HInv ps a l H a [] :=
  ⟨Int.le_refl _, by have := sp_pos l; omega, ⟨H, rfl, fun h hh => (ins_nums (hH.free h hh).1).2.2.2.1⟩, by simp, fun u hm => .inl (ins_nums (hu.inn u hm)).2.2.2.1⟩

theorem HInv.done {ps : List (Int × Int)} {a l x : Int} {H out : List (Int × Int)} (h : HInv ps a l H x out) (hH : HolesAre ps a l H) (hx : a + sp l ≤ x) : out = H := by
  obtain ⟨rest, hr, hge⟩ := h.parts
  cases rest with
  | nil => simpa using hr.symm
  | cons g t =>
    exfalso
    have h1 := ins_nums (hH.free g (by rw [hr]; simp)).1
    have h2 := hge g (by simp)
    have h3 := sp_pos g.2
    omega

theorem rt_point {a l x : Int} (h : rt a l = true) (h1 : a ≤ x) (h2 : x < a + sp l) : rt x 16 = true ∧ ins x 16 a l = true := by
  have := rt_top h
  have h3 := rt_range h
  have hr : rt x 16 = true := rt_of (by omega) (by omega) (by omega) (by omega) (by rw [sp_16]; exact Int.one_dvd _)
  exact ⟨hr, ins_of hr h h1 (by rw [sp_16]; omega)⟩

/-- The place is free: the next hole begins there, and is the greatest free one that does. -/
theorem HInv.free {ps : List (Int × Int)} {a l x : Int} {H out : List (Int × Int)} (h : HInv ps a l H x out) (hr : rt a l = true) (hH : HolesAre ps a l H) (hU : Used ps a l) (hx : x < a + sp l) (hf : mtsAny x 16 ps = false) :
    ∃ m, rt x m = true ∧ l ≤ m ∧ (∀ k, l ≤ k → k ≤ 16 → ((rt x k && ins x k a l && !mtsAny x k ps) = decide (m ≤ k))) ∧ HInv ps a l H (x + sp m) (out ++ [(x, m)]) := by
  obtain ⟨hp, hpi⟩ := rt_point hr h.low hx
  obtain ⟨g, hg, hgi⟩ := hH.all x 16 hpi hf
  have n1 := ins_nums hgi
  rw [sp_16] at n1
  obtain ⟨rest, hrest, hge⟩ := h.parts
  obtain ⟨g0, m⟩ := g
  have hgr : (g0, m) ∈ rest := by
    rw [hrest, List.mem_append] at hg
    rcases hg with hg | hg
    · have := h.past _ hg; simp only at n1 this; omega
    · exact hg
  have he : g0 = x := by have := hge _ hgr; simp only at n1 this; omega
  subst he
  simp only at n1
  obtain ⟨hin, hfr⟩ := hH.free _ hg
  simp only at hin hfr
  have n2 := ins_nums hin
  -- the first of the rest
  cases rest with
  | nil => cases hgr
  | cons e t =>
    have hrise := hH.rise
    rw [hrest, List.pairwise_append, List.pairwise_cons] at hrise
    have hee : e = (g0, m) := by
      rcases List.mem_cons.1 hgr with h1 | h1
      · exact h1.symm
      · have h2 := hrise.2.1.1 _ h1
        have h3 := hge e (by simp)
        have h4 := sp_pos e.2
        simp only at h2
        omega
    subst hee
    refine ⟨m, n2.1, n2.2.2.1, fun k hk hk16 => ?_, ?_⟩
    · rw [Bool.eq_iff_iff]
      simp only [Bool.and_eq_true, Bool.not_eq_true', decide_eq_true_eq]
      constructor
      · rintro ⟨⟨h1, h2⟩, h3⟩
        obtain ⟨e, he, h4⟩ := hH.all g0 k h2 h3
        have n4 := ins_nums h4
        have he2 : e = (g0, m) := by
          rw [hrest, List.mem_append] at he
          rcases he with he | he
          · have := h.past _ he
            have := sp_pos k
            omega
          · rcases List.mem_cons.1 he with he | he
            · exact he
            · have h5 := hrise.2.1.1 _ he
              have := sp_pos m
              simp only at h5
              omega
        subst he2
        exact n4.2.2.1
      · intro h1
        have hi := ins_part n2.1 h1 hk16
        exact ⟨⟨(ins_nums hi).1, ins_trans hi hin⟩, free_in hi hfr⟩
    · have pm := sp_pos m
      refine ⟨by have := h.low; omega, n2.2.2.2.2, ⟨t, by rw [hrest]; simp, fun e he => ?_⟩, fun e he => ?_, fun u hu => ?_⟩
      · exact hrise.2.1.1 e he
      · rcases List.mem_append.1 he with he | he
        · have := h.past e he; omega
        · rw [List.mem_singleton.1 he]; exact Int.le_refl _
      · rcases h.used u hu with h1 | h1
        · by_cases h2 : g0 + sp m ≤ u.1
          · exact .inl h2
          · exfalso
            have : mtsAny g0 m ps = true := mtsAny_iff.2 ⟨u, hu, mts_of n2.1 (ins_nums (hU.inn u hu)).1 (by have := sp_pos u.2; omega) (by omega)⟩
            rw [this] at hfr; cases hfr
        · exact .inr (by omega)

/-- The place is used: behind that one. -/
theorem HInv.skip {ps : List (Int × Int)} {a l x : Int} {H out : List (Int × Int)} {u : Int × Int} (h : HInv ps a l H x out) (hH : HolesAre ps a l H) (hu : Used ps a l) (hm : u ∈ ps) (h1 : u.1 ≤ x) (h2 : x < u.1 + sp u.2) :
    HInv ps a l H (u.1 + sp u.2) out := by
  have hi := ins_nums (hu.inn u hm)
  obtain ⟨rest, hrest, hge⟩ := h.parts
  refine ⟨by omega, hi.2.2.2.2, ⟨rest, hrest, fun g hg => ?_⟩, fun g hg => by have := h.past g hg; omega, fun v hv => ?_⟩
  · have h3 := hge g hg
    by_cases h4 : u.1 + sp u.2 ≤ g.1
    · exact h4
    · exfalso
      obtain ⟨g1, g2⟩ := hH.free g (by rw [hrest]; exact List.mem_append_right _ hg)
      have : mtsAny g.1 g.2 ps = true := mtsAny_iff.2 ⟨u, hm, mts_of (ins_nums g1).1 hi.1 (by omega) (by have := sp_pos g.2; omega)⟩
      rw [this] at g2; cases g2
  · have pv := sp_pos v.2
    have pu := sp_pos u.2
    obtain ⟨i, hi', rfl⟩ := List.getElem_of_mem hm
    obtain ⟨j, hj', rfl⟩ := List.getElem_of_mem hv
    have hp := List.pairwise_iff_getElem.1 hu.rise
    rcases Nat.lt_trichotomy i j with hij | hij | hij
    · exact .inl (hp i j hi' hj' hij)
    · subst hij; exact .inr (Int.le_refl _)
    · have := hp j i hj' hi' hij
      exact .inr (by omega)

/-- The place is used: nothing free begins there, and one used one has it. -/
theorem busy_at {ps : List (Int × Int)} {x : Int} (hf : mtsAny x 16 ps = true) :
    (∃ u ∈ ps, hld u.1 u.2 x = true) ∧ ∀ k, rt x k = true → mtsAny x k ps = true := by
  obtain ⟨u, hu, h⟩ := mtsAny_iff.1 hf
  have n := mts_nums h
  rw [sp_16] at n
  refine ⟨⟨u, hu, ?_⟩, fun k hk => mtsAny_iff.2 ⟨u, hu, mts_of hk n.2.1 (by omega) (by have := sp_pos k; omega)⟩⟩
  unfold hld
  rw [n.2.1]
  simp only [Bool.true_and, Bool.and_eq_true, decide_eq_true_eq]
  omega

theorem hld_nums {a l x : Int} : hld a l x = true ↔ rt a l = true ∧ a ≤ x ∧ x < a + sp l := by
  unfold hld
  simp only [Bool.and_eq_true, decide_eq_true_eq, and_assoc]

theorem count_no {L : List (Int × Int)} {x : Int} (h : ∀ g ∈ L, hld g.1 g.2 x = false) : L.countP (fun g => hld g.1 g.2 x) = 0 := by
  rw [List.countP_eq_zero]
  intro g hg; rw [h g hg]; simp
theorem count_one {L : List (Int × Int)} {x : Int} (hr : L.Pairwise fun h g => h.1 + sp h.2 ≤ g.1) (h : ∃ g ∈ L, hld g.1 g.2 x = true) : L.countP (fun g => hld g.1 g.2 x) = 1 := by
  induction L with
  | nil => obtain ⟨g, hg, _⟩ := h; cases hg
  | cons e t ih =>
    rw [List.pairwise_cons] at hr
    cases he : hld e.1 e.2 x
    · rw [List.countP_cons_of_neg (by simp [he])]
      refine ih hr.2 ?_
      obtain ⟨g, hg, h1⟩ := h
      rcases List.mem_cons.1 hg with rfl | hg
      · rw [h1] at he; cases he
      · exact ⟨g, hg, h1⟩
    · rw [List.countP_cons_of_pos (by simp [he]), count_no]
      intro g hg
      refine not_true fun h1 => ?_
      have := hr.1 g hg
      have := hld_nums.1 h1
      have := hld_nums.1 he
      omega

/-- Each address of the root is in just one used prefix or just one hole. -/
theorem whole {ps H : List (Int × Int)} {a l x : Int} (hr : rt a l = true) (hH : HolesAre ps a l H) (hU : Used ps a l) (h1 : a ≤ x) (h2 : x < a + sp l) :
    H.countP (fun g => hld g.1 g.2 x) + ps.countP (fun g => hld g.1 g.2 x) = 1 := by
  obtain ⟨hp, hpi⟩ := rt_point hr h1 h2
  cases hf : mtsAny x 16 ps
  · obtain ⟨g, hg, hi⟩ := hH.all x 16 hpi hf
    have n := ins_nums hi
    rw [sp_16] at n
    rw [count_one hH.rise ⟨g, hg, hld_nums.2 ⟨n.2.1, n.2.2.2.1, by omega⟩⟩, count_no]
    intro u hu
    refine not_true fun h => ?_
    have h3 := hld_nums.1 h
    have : mtsAny x 16 ps = true := mtsAny_iff.2 ⟨u, hu, mts_of hp h3.1 h3.2.2 (by rw [sp_16]; omega)⟩
    rw [this] at hf; cases hf
  · obtain ⟨⟨u, hu, hh⟩, _⟩ := busy_at hf
    rw [count_one hU.rise ⟨u, hu, hh⟩, count_no]
    intro g hg
    refine not_true fun h => ?_
    have h3 := hld_nums.1 h
    have h4 := hld_nums.1 hh
    obtain ⟨h5, h6⟩ := hH.free g hg
    have : mtsAny g.1 g.2 ps = true := mtsAny_iff.2 ⟨u, hu, mts_of h3.1 h4.1 (by omega) (by omega)⟩
    rw [this] at h6; cases h6

/-- A prefix is inside of a hole just if it is inside of the root, and meets no used one. -/
theorem in_hole {ps H : List (Int × Int)} {a l x k : Int} (hH : HolesAre ps a l H) : (∃ h ∈ H, ins x k h.1 h.2 = true) ↔ (ins x k a l = true ∧ mtsAny x k ps = false) := by
  constructor
  · rintro ⟨h, hh, h1⟩
    obtain ⟨h2, h3⟩ := hH.free h hh
    exact ⟨ins_trans h1 h2, free_in h1 h3⟩
  · rintro ⟨h1, h2⟩
    exact hH.all x k h1 h2
end Go.Proofs.YtlalgkjollgcbaaGreat
/- What the iterator of holes comes to where the prefix is parted. -/
namespace Go.Proofs.YtlalgkjollgcbaaGreat
open Go.RowKit Go.Shelf
attribute [local go_sem] Oper.semAt_some

theorem PS.keeps {w w' : World} {x : Option Addr} {n n₀ : Nat} {ps : List (Int × Int)} (h : PS w x n ps) (hk : ∀ k o, k < n₀ → w.heap[k]? = some o → w'.heap[k]? = some o) (hx : 0 < n → ∀ q, x = some q → q.block < n₀) : PS w' x n ps where
  len := h.len
  cells := fun i hi => by
    obtain ⟨b, o, hb, c0, c1⟩ := h.cells i hi
    have hlt : b < n₀ := hx (by omega) _ hb
    have hs : b < w.heap.size := block_lt_of_cell c0
    have e : w'.heap[b]? = w.heap[b]? := by
      have e : w.heap[b]? = some w.heap[b] := Array.getElem?_eq_some_iff.2 ⟨hs, rfl⟩
      rw [hk b _ hlt e, e]
    exact ⟨b, o, hb, by rw [← c0]; simp [World.cell?, e], by rw [← c1]; simp [World.cell?, e]⟩
theorem own_block {β : Type} {B D : Nat} {o : Obj} (h : D < B) : OwnFrom B (fun (_ : β) W => W.heap[D]? = some o) :=
  fun _ _ _ _ hs hg hr => keeps_at hg hr h hs
theorem round_any {k k' l' : Nat} {P : Program} {yl : Nat} {fn : FuncId} {tmps : Array Value} {assign body : Code} {V : World} {R : Ending → World → Prop} (h : RoundIn Fence.wide k P yl fn tmps assign body V R) : RoundIn (Fence.wide.inRound l') k' P yl fn tmps assign body V R :=
  ⟨h.1, fun c cs _ => h.2 c cs (fun d h => by cases h)⟩
theorem three_boxes (W : World) (o : Obj) (a l : Int) (x : Option Addr) (n c : Nat) : ∃ V, V = ((W.alloc o).alloc (.cells #[.int .i64 a, .int .i64 l] 27)).alloc (.cells #[.slice x n c] 147) ∧ Below W.heap.size W V ∧
    V.cell? ⟨W.heap.size + 1, 0, none⟩ = some (.int .i64 a) ∧ V.cell? ⟨W.heap.size + 1, 1, none⟩ = some (.int .i64 l) ∧ V.heap[W.heap.size + 1 + 1]? = some (.cells #[.slice x n c] 147) ∧ V.heap.size = W.heap.size + 3 := by
  refine ⟨_, rfl, (bl2 W _ _).alloc (by simp; omega) _, ?_, ?_, ?_, by simp⟩
  · have h1 : ((W.alloc o).alloc (.cells #[.int .i64 a, .int .i64 l] 27)).cell? ⟨(W.alloc o).heap.size, 0, none⟩ = some (.int .i64 a) := by simp
    rw [World.size_alloc] at h1
    exact cell_later (bl1 _ _) h1
  · have h1 : ((W.alloc o).alloc (.cells #[.int .i64 a, .int .i64 l] 27)).cell? ⟨(W.alloc o).heap.size, 1, none⟩ = some (.int .i64 l) := by simp
    rw [World.size_alloc] at h1
    exact cell_later (bl1 _ _) h1
  · have h1 := World.alloc_heap_new ((W.alloc o).alloc (.cells #[.int .i64 a, .int .i64 l] 27)) (.cells #[.slice x n c] 147)
    rwa [World.size_alloc, World.size_alloc] at h1

theorem in_of_mts {a : Int} {ps : List (Int × Int)} (h : mtsAny a 16 ps = true) : insAny a 16 ps = true := by
  obtain ⟨u, hu, hm⟩ := mtsAny_iff.1 h
  have n := mts_nums hm
  rcases mts_ins hm with h1 | h1
  · exact insAny_iff.2 ⟨u, hu, h1⟩
  · have n1 := ins_nums h1
    have := (rt_range n.2.1).2.1
    refine insAny_iff.2 ⟨u, hu, ins_of n.1 n.2.1 ?_ ?_⟩
    · have e : u.2 = 16 := by omega
      rw [e] at n1; omega
    · have e : u.2 = 16 := by omega
      rw [e] at n1 ⊢; omega

end Go.Proofs.YtlalgkjollgcbaaGreat
/- What first of package space comes to. -/
namespace Go.Proofs.YtlalgkjollgcbaaGreat
open Go.RowKit Go.Shelf
attribute [local go_sem] Oper.semAt_some

theorem own_below {β : Type} {B : Nat} {w : World} (h : w.heap.size ≤ B) : OwnFrom B (fun (_ : β) V => Below w.heap.size w V) :=
  fun _ X Y row hs hg hr => ⟨hg.os.trans hs.os, hg.tape.trans hs.tape, hg.output.trans hs.output, Nat.le_trans hs.size hg.size, fun k hk =>
    (hg.block k (Nat.lt_of_lt_of_le hk hs.size) (fun e => by have := (hr k e.symm).1; omega)).trans (hs.block k hk)⟩
theorem own_const {β : Type} {B : Nat} {p : β → Prop} : OwnFrom B (fun s (_ : World) => p s) := fun _ _ _ _ hs _ _ => hs
theorem heap_old {W : World} {k : Nat} {v : Obj} (o : Obj) (h : W.heap[k]? = some v) : (W.alloc o).heap[k]? = some v := (Below.heap_alloc _ _ _ (Array.getElem?_eq_some_iff.1 h).1).trans h
theorem heap_new {W : World} {k : Nat} (o : Obj) (h : k = W.heap.size) : (W.alloc o).heap[k]? = some o := by subst h; exact World.alloc_heap_new W o
theorem below_put {n : Nat} {w V : World} (h : Below n w V) {l : Nat} (hl : n ≤ l) (o : Obj) : Below n w (V.putObj l o) :=
  ⟨h.os, h.tape, h.output, by simpa using h.size, fun k hk => (World.putObj_heap_other (by omega)).trans (h.block k hk)⟩
theorem box1 {V : World} {b : Nat} {t : TypeId} {p : Value} (h : V.heap[b]? = some (.cells #[p] t)) : V.cell? ⟨b, 0, none⟩ = some p ∧ V.frozen? ⟨b, 0, none⟩ = false := by
  simp [World.cell?, World.frozen?, h]
theorem box2 {V : World} {b : Nat} {t : TypeId} {p q : Value} (h : V.heap[b]? = some (.cells #[p, q] t)) : V.cell? ⟨b, 0, none⟩ = some p ∧ V.cell? ⟨b, 1, none⟩ = some q ∧ V.frozen? ⟨b, 0, none⟩ = false ∧ V.frozen? ⟨b, 1, none⟩ = false := by
  simp [World.cell?, World.frozen?, h]
theorem box2_set {V : World} {b : Nat} {t : TypeId} {p q : Value} (p' q' : Value) (h : V.heap[b]? = some (.cells #[p, q] t)) : ((V.setCell ⟨b, 0, none⟩ p').setCell ⟨b, 1, none⟩ q').heap[b]? = some (.cells #[p', q'] t) := by
  have h1 := heap_setCell_same V b 0 _ t p' h
  have h2 := heap_setCell_same (V.setCell ⟨b, 0, none⟩ p') b 1 _ t q' h1
  simpa using h2
def firstV : Option (Int × Int) → Value
  | some h => .tuple #[.agg #[.int .i64 h.1, .int .i64 h.2], .bool true]
  | none => .tuple #[.agg #[.int .i64 0, .int .i64 0], .bool false]

end Go.Proofs.YtlalgkjollgcbaaGreat
/- What package order comes to at prefixes that rise by their first address: compare, Rise. -/
namespace Go.Proofs.YtlalgkjollgcbaaGreat
open Go.RowKit
set_option maxHeartbeats 400000 in
theorem isNaN_any (a : Int) (w : World) :
    Calls Tryz.prog 102 #[.int .i64 a] w fun e w' => e = .returned (.bool false) ∧ w' = w := by
  have h : (a != a) = false := by simp
  go_enter Tryz.func102, Tryz.ntmps102
  go_wp2
  go_ret
  exact ⟨rfl, rfl⟩

/-- What comparing two numbers tells. -/
def Cmp (a c v : Int) : Prop := (a < c ∧ v = -1) ∨ (a = c ∧ v = 0) ∨ (c < a ∧ v = 1)

set_option maxRecDepth 20000 in
set_option maxHeartbeats 800000 in
theorem cmp_is (a c v : Int) (hv : Cmp a c v) (w : World) :
    Calls Tryz.prog 80 #[.int .i64 a, .int .i64 c] w fun e w' => e = .returned (.int .i64 v) ∧ w' = w := by
  rcases hv with ⟨h, rfl⟩ | ⟨h, rfl⟩ | ⟨h, rfl⟩
  · go_enter Tryz.func80, Tryz.ntmps80
    go_wp2_with (go_at_call 102; refine (isNaN_any _ _).mono ?_; rintro e w1 ⟨rfl, rfl⟩)
    go_ret
    exact ⟨rfl, rfl⟩
  · subst h
    have h1 : ¬ a < a := by omega
    go_enter Tryz.func80, Tryz.ntmps80
    go_wp2_with (go_at_call 102; refine (isNaN_any _ _).mono ?_; rintro e w1 ⟨rfl, rfl⟩)
    go_ret
    exact ⟨rfl, rfl⟩
  · have h1 : ¬ a < c := by omega
    go_enter Tryz.func80, Tryz.ntmps80
    go_wp2_with (go_at_call 102; refine (isNaN_any _ _).mono ?_; rintro e w1 ⟨rfl, rfl⟩)
    go_ret
    exact ⟨rfl, rfl⟩

/-- The first addresses rise. -/
def riseAt (ps : List (Int × Int)) (i : Nat) : Bool := i == 0 || decide (at0 ps (i - 1) < at0 ps i)
def riseB (ps : List (Int × Int)) : Bool := (List.range ps.length).all (riseAt ps)
theorem rise_no {ps : List (Int × Int)} {k : Nat} (hk : k < ps.length) (h : riseAt ps k = false) : riseB ps = false := by
  unfold riseB
  rw [List.all_eq_false]
  exact ⟨k, by simpa using hk, by simp [h]⟩
theorem rise_yes {ps : List (Int × Int)} (h : ∀ j, j < ps.length → riseAt ps j = true) : riseB ps = true := by
  unfold riseB
  rw [List.all_eq_true]
  intro j hj
  exact h j (by simpa using hj)

end Go.Proofs.YtlalgkjollgcbaaGreat
/- What apart of package space comes to. -/
namespace Go.Proofs.YtlalgkjollgcbaaGreat
open Go.RowKit

theorem ok_split {a l : Int} {ps : List (Int × Int)} : apartB a l ps = ((List.range ps.length).all (fun i => ins (at0 ps i) (at1 ps i) a l && (i == 0 || !mts (at0 ps (i - 1)) (at1 ps (i - 1)) (at0 ps i) (at1 ps i))) && riseB ps) := by
  rw [Bool.eq_iff_iff]
  unfold apartB riseB
  simp only [Bool.and_eq_true, List.all_eq_true, List.mem_range, okAt, riseAt, Bool.or_eq_true, beq_iff_eq]
  constructor
  · intro h
    exact ⟨fun i hi => ⟨(h i hi).1, (h i hi).2.imp id (·.2)⟩, fun i hi => (h i hi).2.imp id (·.1)⟩
  · rintro ⟨h, g⟩ i hi
    refine ⟨(h i hi).1, ?_⟩
    rcases (h i hi).2 with h1 | h1
    · exact .inl h1
    · rcases g i hi with g1 | g1
      · exact .inl g1
      · exact .inr ⟨g1, h1⟩
def nearAt (a l : Int) (ps : List (Int × Int)) (i : Nat) : Bool := ins (at0 ps i) (at1 ps i) a l && (i == 0 || !mts (at0 ps (i - 1)) (at1 ps (i - 1)) (at0 ps i) (at1 ps i))
theorem near_no {a l : Int} {ps : List (Int × Int)} {k : Nat} (hk : k < ps.length) (h : nearAt a l ps k = false) : apartB a l ps = false := by
  rw [ok_split, Bool.and_eq_false_iff]
  left
  rw [List.all_eq_false]
  exact ⟨k, by simpa using hk, by unfold nearAt at h; simp only [h]; simp⟩
theorem near_yes {a l : Int} {ps : List (Int × Int)} (h : ∀ j, j < ps.length → nearAt a l ps j = true) : apartB a l ps = riseB ps := by
  rw [ok_split]
  have : (List.range ps.length).all (fun i => ins (at0 ps i) (at1 ps i) a l && (i == 0 || !mts (at0 ps (i - 1)) (at1 ps (i - 1)) (at0 ps i) (at1 ps i))) = true := by
    rw [List.all_eq_true]
    intro j hj
    exact h j (by simpa using hj)
  rw [this, Bool.true_and]

end Go.Proofs.YtlalgkjollgcbaaGreat
/- What Check of package space, and CheckSpace of package parcelwayref, come to. -/
namespace Go.Proofs.YtlalgkjollgcbaaGreat
open Go.RowKit

theorem check_is (a l : Int) (t : Bool) (h : (chk a l != 0) = t) (w : World) :
    Calls Tryz.prog 85 #[.agg #[.int .i64 a, .int .i64 l]] w fun e w' => (∃ v, e = .returned (.int .i64 v) ∧ (v != 0) = t) ∧ Below w.heap.size w w' :=
  (check_any a l w).mono fun _ _ ⟨he, hb⟩ => ⟨⟨_, he, h⟩, hb⟩
end Go.Proofs.YtlalgkjollgcbaaGreat
/- What slices.AppendSeq and slices.Collect come to at the iterator of holes; Holes of package space. -/
namespace Go.Proofs.YtlalgkjollgcbaaGreat
open Go.RowKit Go.Shelf
attribute [local go_sem] Oper.semAt_some

def flat (H : List (Int × Int)) : List Value := H.flatMap fun h => [.int .i64 h.1, .int .i64 h.2]
theorem flat_append (H G : List (Int × Int)) : flat (H ++ G) = flat H ++ flat G := by simp [flat]
theorem flat_len (H : List (Int × Int)) : (flat H).length = H.length * 2 := by
  induction H with
  | nil => rfl
  | cons h t ih =>
    have e : flat (h :: t) = [.int .i64 h.1, .int .i64 h.2] ++ flat t := by simp [flat]
    rw [e, List.length_append, ih]
    simp only [List.length_cons, List.length_nil]
    omega
theorem flat_one (H : List (Int × Int)) : ∀ u ∈ flat H, u.oneCell' = true := by
  intro u hu
  simp only [flat, List.mem_flatMap, List.mem_cons, List.not_mem_nil, or_false] at hu
  obtain ⟨h, _, rfl | rfl⟩ := hu <;> rfl
theorem flat_get (H : List (Int × Int)) (i : Nat) (hi : i < H.length) : (flat H)[i * 2]? = some (.int .i64 (at0 H i)) ∧ (flat H)[i * 2 + 1]? = some (.int .i64 (at1 H i)) := by
  induction H generalizing i with
  | nil => cases hi
  | cons h t ih =>
    have e : flat (h :: t) = .int .i64 h.1 :: .int .i64 h.2 :: flat t := by simp [flat]
    rw [e]
    cases i with
    | zero => exact ⟨rfl, rfl⟩
    | succ i =>
      have := ih i (by simpa using hi)
      have e1 : (i + 1) * 2 = i * 2 + 1 + 1 := by omega
      rw [e1]
      simpa [at0, at1] using this

theorem hol_len (ps : List (Int × Int)) : ∀ (f : Nat) (a l : Int), (hol ps f a l).length ≤ 2 ^ f
  | 0, a, l => by unfold hol; split <;> simp
  | f + 1, a, l => by
    unfold hol
    have h1 := hol_len ps f a (l + 1)
    have h2 := hol_len ps f (a + sp (l + 1)) (l + 1)
    have h3 : 0 < 2 ^ f := Nat.pow_pos (by omega)
    rw [Nat.pow_succ]
    split
    · split
      · simp
      · rw [List.length_append]; omega
    · simp only [List.length_cons, List.length_nil]; omega

theorem own_row {β : Type} {B base : Nat} {e : TypeId} {size : Nat} {v : Value} {n : Nat} {xs : List Value} : OwnFrom B (fun (_ : β) W => W.ownsRow base e size v n xs) :=
  fun _ X Y row hs hg hr => ⟨hs.1, hs.2.imp id (fun ⟨g, cap, cur, h1, h2, h3, h4⟩ => ⟨g, cap, cur, h1, h2, (hg.block g (Array.getElem?_eq_some_iff.1 h3).1 (fun e => by
    obtain ⟨o, ho, hc⟩ := (hr g e.symm).2
    rw [h3] at ho
    cases ho
    cases hc)).trans h3, h4⟩)⟩

/-- What an owned row holds, as a slice of prefixes. -/
theorem PS.of_own {w : World} {base : Nat} {v : Value} {H : List (Int × Int)} (h : w.ownsRow base 27 2 v H.length (flat H)) : ∃ x c, v = .slice x H.length c ∧ PS w x H.length H ∧ (∀ q, x = some q → base ≤ q.block ∧ q.block < w.heap.size) ∧ H.length ≤ c ∧ c ≤ 9223372036854775807 := by
  rcases h.2 with ⟨rfl, h0⟩ | ⟨g, cap, cur, rfl, hb, hg, hn, hc, hs, ht⟩
  · refine ⟨none, 0, by rw [h0], ⟨rfl, fun i hi => ?_⟩, (fun q hq => by cases hq), by omega, by omega⟩
    omega
  · refine ⟨some ⟨g, 0, none⟩, cap, rfl, ⟨rfl, fun i hi => ⟨g, 0, rfl, ?_, ?_⟩⟩, fun q hq => by cases hq; exact ⟨hb, (Array.getElem?_eq_some_iff.1 hg).1⟩, hn, by unfold maxLen at hc; omega⟩
    · have h1 := (flat_get H i hi).1
      rw [← ht, List.getElem?_take_of_lt (by omega)] at h1
      simp only [World.cell?, hg, Nat.zero_add]
      rw [← h1]
      simp
    · have h1 := (flat_get H i hi).2
      rw [← ht, List.getElem?_take_of_lt (by omega)] at h1
      simp only [World.cell?, hg, Nat.zero_add]
      rw [← h1]
      simp

theorem info_prefix : (Tryz.prog.info? 27).map (fun i => (i.zero, i.size, i.bytes)) = some (some (.agg #[.int .i64 0, .int .i64 0]), 2, 16) := by kernel_rfl
theorem info_prefix' : ∃ i, Tryz.prog.info? 27 = some i ∧ i.zero = some (.agg #[.int .i64 0, .int .i64 0]) ∧ i.size = 2 ∧ i.bytes = 16 := by
  obtain ⟨i, hi, h⟩ := Option.map_eq_some_iff.1 info_prefix
  simp only [Prod.mk.injEq] at h
  exact ⟨i, hi, h.1, h.2.1, h.2.2⟩
theorem under_prefixes : Tryz.prog.underlying 147 = some (.slice 27) := by kernel_rfl

end Go.Proofs.YtlalgkjollgcbaaGreat
