/- The law of L, where the loop's variable is a box of two numbers; a loop of three rounds; helpers (no program in it). -/
import Derived.Test.YtbnkgecblaffeaaL
namespace Go.Proofs.Ytbnkgecblaffeaa
open Go Go.RowKit Go.Shelf

variable {T : Nat → Obj → Prop} {n₀ : Nat} {L : List Nat} {F : Fence} {n : Nat} {P : Program}

theorem grown_of_below {X Y : World} (h : Below X.heap.size X Y) : X.grownBy Y none :=
  ⟨h.os, h.tape, h.output, h.size, fun k hk _ => h.block k hk⟩
theorem OwnFrom.later {β : Type} {B : Nat} {I : β → World → Prop} (h : OwnFrom B I) {s : β} {X Y : World} (hs : I s X) (hb : Below X.heap.size X Y) : I s Y :=
  h s X Y none hs (grown_of_below hb) (fun r e => by cases e)
theorem own_and {β : Type} {B : Nat} {I I' : β → World → Prop} (h : OwnFrom B I) (h' : OwnFrom B I') : OwnFrom B (fun s W => I s W ∧ I' s W) :=
  fun s X Y row hs hg hr => ⟨h s X Y row hs.1 hg hr, h' s X Y row hs.2 hg hr⟩
theorem own_mono {β : Type} {B B' : Nat} {I : β → World → Prop} (h : OwnFrom B I) (hB : B ≤ B') : OwnFrom B' I :=
  fun s X Y row hs hg hr => h s X Y row hs hg (fun r e => ⟨Nat.le_trans hB (hr r e).1, (hr r e).2⟩)
theorem own_map {β γ : Type} {B : Nat} {I : β → World → Prop} (h : OwnFrom B I) (f : γ → β) : OwnFrom B (fun s W => I (f s) W) :=
  fun s X Y row hs hg hr => h (f s) X Y row hs hg hr
theorem own_kl {β : Type} {B : Nat} {W0 : World} (hB : W0.heap.size ≤ B) : OwnFrom B (fun (_ : β) W => Kl T n₀ L W0 W) :=
  fun _ X Y row hs hg hr => ⟨hg.os.trans hs.os, hg.tape.trans hs.tape, hg.output.trans hs.output, Nat.le_trans hs.size hg.size, fun k o hk ho hq => by
    have hX := hs.same k o hk ho hq
    refine (hg.block k (Array.getElem?_eq_some_iff.1 hX).1 (fun e => ?_)).trans hX
    have h1 := (hr k e.symm).1
    have h2 := (Array.getElem?_eq_some_iff.1 ho).1
    omega⟩

/-- A loop whose body is left by the third round at the latest. -/
theorem wpIn_loop_three {c : Code} {Q : Exit → Act → World → Prop} {a : Act} {w : World}
    (h : c.wpIn F n P (Exit.then (c.wpIn F n P (Exit.then (c.wpIn F n P (Exit.then (fun _ _ => False) Q)) Q)) Q) a w) : (Code.loop c).wpIn F n P Q a w := by
  classical
  refine wpIn_loop (fun a' w' => c.wpIn F n P (Exit.then (fun _ _ => False) Q) a' w' ∨ c.wpIn F n P (Exit.then (c.wpIn F n P (Exit.then (fun _ _ => False) Q)) Q) a' w' ∨ (a' = a ∧ w' = w))
    (fun a' w' => if c.wpIn F n P (Exit.then (fun _ _ => False) Q) a' w' then 0 else if c.wpIn F n P (Exit.then (c.wpIn F n P (Exit.then (fun _ _ => False) Q)) Q) a' w' then 1 else 2) (.inr (.inr ⟨rfl, rfl⟩)) ?_
  intro a' w' hI
  by_cases h0 : c.wpIn F n P (Exit.then (fun _ _ => False) Q) a' w'
  · exact Go.wpIn_mono h0 (fun e a w q => by cases e <;> first | exact q | exact q.elim)
  · by_cases h1 : c.wpIn F n P (Exit.then (c.wpIn F n P (Exit.then (fun _ _ => False) Q)) Q) a' w'
    · refine Go.wpIn_mono h1 (fun e a w q => ?_)
      cases e with
      | normal => exact ⟨.inl q, by simp only [if_pos (show c.wpIn F n P (Exit.then (fun _ _ => False) Q) a w from q), if_neg h0, if_pos h1]; omega⟩
      | _ => exact q
    · have hs : a' = a ∧ w' = w := by
        rcases hI with h | h | h
        · exact absurd h h0
        · exact absurd h h1
        · exact h
      obtain ⟨rfl, rfl⟩ := hs
      refine Go.wpIn_mono h (fun e a w q => ?_)
      cases e with
      | normal =>
        refine ⟨.inr (.inl q), ?_⟩
        simp only [if_neg h0, if_neg h1, if_pos (show c.wpIn F n P (Exit.then (c.wpIn F n P (Exit.then (fun _ _ => False) Q)) Q) a w from q)]
        split <;> omega
      | _ => exact q

def enc2 (x : Int × Int) : Value := .agg #[.int .i64 x.1, .int .i64 x.2]

/-- The law, where the loop's variable (slot h) is a box of the two numbers that come (slot p). -/
theorem wpIn_rangeFunc_B {g : Operand} {p h : Nat} {assign body : Code} {Q : Exit → Act → World → Prop} {a : Act} {w : World}
    (hro : F.round = none) (hd : F.depth = none) {gf : Nat} {lb : Array Value} (hg : a.eval g = .func (.func gf) #[] lb) (hFg : F.fn gf) (eg : ∀ args w, (callFunc gf args).run P w = .ok (.enter gf args) w)
    {S Sp : List (Int × Int) → Prop} {pr : Nat} (hseq : SeqL T n₀ pr F (n - 1) P gf lb (fun x => #[enc2 x]) S Sp w)
    (hn₀ : n₀ ≤ w.heap.size) (hpr : pr < w.heap.size) (hL : ∀ k, k ∈ L → n₀ ≤ k ∧ k < w.heap.size ∧ k ≠ pr)
    (I Ix : List (Int × Int) → World → Prop) (hI : OwnFrom w.heap.size I) (hIx : OwnFrom w.heap.size Ix) (h0 : I [] w)
    (hassign : ∀ (l : Nat) (x : Int × Int) (W : World) (K : Act → World → Prop), (∀ Bx W', Below W.heap.size W W' → W.heap.size ≤ Bx → W'.cell? ⟨Bx, 0, none⟩ = some (.int .i64 x.1) → W'.cell? ⟨Bx, 1, none⟩ = some (.int .i64 x.2) →
        K { tmps := (a.tmps.setIfInBounds p (enc2 x)).setIfInBounds h (.pointer (some ⟨Bx, 0, none⟩)), defers := [] } W') →
      assign.wpIn (F.inRound l) (n - 1 - 1) P (Exit.then K (fun _ _ _ => False)) { tmps := a.tmps.setIfInBounds p (enc2 x), defers := [] } W)
    (hbody : ∀ (l : Nat) (pre : List (Int × Int)) (x : Int × Int) (Bx : Nat) (W : World), w.heap.size ≤ l → Sp (pre ++ [x]) → I pre W → W.cell? ⟨Bx, 0, none⟩ = some (.int .i64 x.1) → W.cell? ⟨Bx, 1, none⟩ = some (.int .i64 x.2) →
      body.wpIn (F.inRound l) (n - 1 - 1) P (postL T n₀ L I Ix (pre ++ [x]) W) { tmps := (a.tmps.setIfInBounds p (enc2 x)).setIfInBounds h (.pointer (some ⟨Bx, 0, none⟩)), defers := [] } W)
    (hdone : ∀ (D : Nat) (xs : List (Int × Int)) (W : World), w.heap.size ≤ D → S xs → I xs W → Kl T n₀ L w W → W.heap[D]? = some (.deferred (some [])) → Q .normal { a with defers := { target := .collected D, args := #[] } :: a.defers } W)
    (hstop : ∀ (D : Nat) (pre : List (Int × Int)) (W : World), w.heap.size ≤ D → Sp pre → Ix pre W → Kl T n₀ L w W → W.heap[D]? = some (.deferred (some [])) → Code.ret.wpIn F n P Q { a with defers := { target := .collected D, args := #[] } :: a.defers } W) :
    (Code.rangeFunc g #[p] assign body).wpIn F n P Q a w :=
  wpIn_rangeFunc_L hro hd hg hFg eg hseq hn₀ hpr hL (fun _ => rfl) I Ix hI hIx h0
    (fun x a' W => ∃ Bx, W.cell? ⟨Bx, 0, none⟩ = some (.int .i64 x.1) ∧ W.cell? ⟨Bx, 1, none⟩ = some (.int .i64 x.2) ∧ a' = { tmps := (a.tmps.setIfInBounds p (enc2 x)).setIfInBounds h (.pointer (some ⟨Bx, 0, none⟩)), defers := [] })
    (fun x a' _ X Y row hs hg hr => by
      obtain ⟨Bx, c0, c1, ha⟩ := hs
      exact ⟨Bx, cell_kept c0 hg (fun r e => (hr r e).2), cell_kept c1 hg (fun r e => (hr r e).2), ha⟩)
    (fun l pre x W K hi hK => by
      have := hassign l x W K (fun Bx W' hb _ c0 c1 => hK _ _ (Kl.of_below hb) (OwnFrom.later hI hi hb) ⟨Bx, c0, c1, rfl⟩)
      have e : (#[p].zip #[enc2 x]).foldl (fun t (p, v) => t.setIfInBounds p v) a.tmps = a.tmps.setIfInBounds p (enc2 x) := by simp
      rw [e]
      exact this)
    (fun l pre x a' W hl hsp hi hax => by
      obtain ⟨Bx, c0, c1, rfl⟩ := hax
      exact hbody l pre x Bx W hl hsp hi c0 c1)
    hdone hstop
end Go.Proofs.Ytbnkgecblaffeaa
