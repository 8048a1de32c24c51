/- A law of my own: a region that draws its order: plain operations, one call that need not be quiet, and behind all of these a tail. -/
import Derived.Test.YtpdoonkhnabfjaaGreatMT16
import Derived.OrdersHeld
namespace Go.Proofs.YtpdoonkhnabfjaaGreat
open Go.RowKit

/-- An operation that is no call, and changes nothing. -/
def plainB (o : Oper) : Bool := match o.op with
  | .move _ | .assign _ => true
  | .load _ _ => true
  | .fieldAddr _ _ _ => true
  | .indexAddr _ _ _ => true
  | .build _ _ => true
  | _ => false
theorem andThen_value {s : Result Value} {n : Next} {w' : World} (h : (s.andThen fun x w => Result.ok (Next.value x) w) = .ok n w') : ∃ u, n = .value u := by
  cases s with
  | ok x w => simp only [Result.andThen, Result.ok.injEq] at h; exact ⟨x, h.1.symm⟩
  | halt x w => simp [Result.andThen] at h
theorem plain_run {P : Program} {o : Oper} {a : Act} {w w' : World} {n : Next} (h : plainB o = true) (hr : (execOp a.eval o).run P w = .ok n w') : ∃ u, n = .value u := by
  unfold plainB at h
  unfold execOp at hr
  split at h
  · rename_i x hop; rw [hop] at hr; simp only [Sem.run_pure, Result.ok.injEq] at hr; exact ⟨_, hr.1.symm⟩
  · rename_i x hop; rw [hop] at hr; simp only [Sem.run_pure, Result.ok.injEq] at hr; exact ⟨_, hr.1.symm⟩
  · rename_i x y hop; rw [hop] at hr; simp only [Sem.run_bind, Sem.run_pure] at hr; exact andThen_value hr
  · rename_i x y z hop; rw [hop] at hr; simp only [Sem.run_bind, Sem.run_pure] at hr; exact andThen_value hr
  · rename_i x y z hop; rw [hop] at hr; simp only [Sem.run_bind, Sem.run_pure] at hr; exact andThen_value hr
  · rename_i x y hop; rw [hop] at hr; simp only [Sem.run_bind, Sem.run_pure] at hr; exact andThen_value hr
  · cases h
theorem yieldsIf_of_in {P : Program} {ops : Array Oper} {C : World → Prop} {o : Oper} {v : Value} {a : Act} (hp : plainB o = true) (h : YieldsIn P ops C o v a) : YieldsIf P ops C o v a := by
  rcases h with ⟨h1, h2⟩ | h
  · refine .inl ⟨h1, fun w hw => ?_⟩
    have h3 := h2 w hw
    unfold Oper.quietAt at h3
    cases hr : (execOp a.eval o).run P w with
    | ok n w' =>
      rw [hr] at h3
      obtain ⟨u, rfl⟩ := plain_run hp hr
      simp only [Oper.quietUpon] at h3
      rw [h3.1, h3.2]
    | halt x w' => rw [hr] at h3; simp [Oper.quietUpon] at h3
  · exact .inr h
/-- Whatever order is picked: behind each of the first n + 1 operations S holds. -/
def wpAnyT (P : Program) (ops : Array Oper) (Q : Exit → Act → World → Prop) (S : World → Prop) (n : Nat) : Nat → Array Bool → Act → World → Prop
  | 0, listed, a, w => Region.ready .any ops listed = [] ∧ Q .normal a w
  | f + 1, listed, a, w => (Region.ready .any ops listed = [] → Q .normal a w) ∧ ∀ i ∈ Region.ready .any ops listed, wpOp P ops Q i (fun a' w' => (i ≤ n → S w') ∧ wpAnyT P ops Q S n f (listed.setIfInBounds i true) a' w') a w
theorem wpAny_of_T {P : Program} {ops : Array Oper} {Q : Exit → Act → World → Prop} {S : World → Prop} {n : Nat} : ∀ (f : Nat) (listed : Array Bool) (a : Act) (w : World), wpAnyT P ops Q S n f listed a w → wpAny P .any ops Q f listed a w
  | 0, _, _, _, h => h
  | f + 1, _, _, _, h => ⟨h.1, fun i hi => wpOp_mono (fun a' w' h' => wpAny_of_T f _ a' w' h'.2) (h.2 i hi)⟩
theorem wpAnyT_first {P : Program} {ops : Array Oper} {Q : Exit → Act → World → Prop} {S : World → Prop} {n i : Nat} {oi : Oper} {v : Value} (hi : ops[i]? = some oi) (hsel : ∀ (j : Nat) (o : Oper) cs b, ops[j]? = some o → o.op ≠ .select cs b)
    (hQ : ∀ d v c a w, Q (.panic c) (Act.put a d v) w → Q (.panic c) a w) (hw : ∀ j, n < j → j < ops.size → Region.waitsFor .any ops j i = true) :
    ∀ (f : Nat) (listed : Array Bool) (a : Act) (w : World),
      (∀ j oj, ops[j]? = some oj → j ≠ i → listed.getD j true = false → (∀ e ∈ oj.after, Region.binds .any e = true → e.on ≠ i) → oi.apart ops oj = true) →
      i ∈ Region.ready .any ops listed → YieldsIf P ops S oi v a → S w →
      wpAnyT P ops Q S n f (listed.setIfInBounds i true) (a.put oi.dst v) w → wpAnyT P ops Q S n (f + 1) listed a w := by
  intro f
  induction f with
  | zero =>
    intro listed a w _ hr hy hS H
    refine ⟨fun h => (by rw [h] at hr; cases hr), fun j hj => ?_⟩
    by_cases hji : j = i
    · subst hji; exact hy.wpOp hi hS ⟨fun _ => hS, H⟩
    · have := ready_mono hj hji
      rw [H.1] at this
      cases this
  | succ f ih =>
    intro listed a w hfree hr hy hS H
    refine ⟨fun h => (by rw [h] at hr; cases hr), fun j hj => ?_⟩
    by_cases hji : j = i
    · subst hji; exact hy.wpOp hi hS ⟨fun _ => hS, H⟩
    · have h1 := H.2 j (ready_mono hj hji)
      obtain ⟨hjun, oj, hoj, hall⟩ := mem_ready.1 hj
      have h0 := (mem_ready.1 hr).1
      have hnot : ∀ e ∈ oj.after, Region.binds .any e = true → e.on ≠ i := fun e he hb heq => by
        have h1 := hall e he hb
        rw [heq, getD_both h0] at h1
        cases h1
      have hjn : j ≤ n := Nat.le_of_not_lt fun h => by
        obtain ⟨o', ho', e, he, hb, hon⟩ := Region.waitsFor_spec (hw j h (Array.getElem?_eq_some_iff.1 hoj).1)
        have : o' = oj := Option.some.inj (ho'.symm.trans hoj)
        subst this
        exact hnot e he hb hon
      have h2 := wpOp_putIf hoj (hfree j oj hoj hji hjun hnot) (fun cs b => hsel i oi cs b hi) (fun cs b => hsel j oj cs b hoj) (fun c a w => hQ _ _ c a w) hy h1
      have hfree' : ∀ k ok, ops[k]? = some ok → k ≠ i → (listed.setIfInBounds j true).getD k true = false →
          (∀ e ∈ ok.after, Region.binds .any e = true → e.on ≠ i) → oi.apart ops ok = true := fun k ok hk hki hun hno => by
        refine hfree k ok hk hki ?_ hno
        by_cases hjk : j = k
        · subst hjk; exact hjun
        · rw [getD_set_ne true hjk] at hun; exact hun
      refine wpOp_mono (fun a' w' h3 => ⟨fun _ => h3.2.1 hjn, ih (listed.setIfInBounds j true) a' w' hfree' (ready_mono hr (Ne.symm hji)) h3.1 (h3.2.1 hjn) ?_⟩) h2
      rw [Array.setIfInBounds_comm _ _ hji]
      exact h3.2.2
theorem wpAnyT_lex {P : Program} {ops : Array Oper} {Q : Exit → Act → World → Prop} {C : World → Prop} {n g : Nat} {K : Act → Prop} {D : Array Bool} (hsel : Region.noSelect ops = true)
    (hQ : ∀ d v c a w, Q (.panic c) (Act.put a d v) w → Q (.panic c) a w) (hw : ∀ i, i < n → ∀ j, n < j → j < ops.size → Region.waitsFor .any ops j i = true) (l : List Oper)
    (hK : ∀ a w, C w → K a → wpAnyT P ops Q C n g D a w) :
    ∀ (k : Nat) (listed : Array Bool) (a : Act) (w : World), (∀ j, j < l.length → l[j]? = ops[k + j]?) → k + l.length = n → (∀ o ∈ l, plainB o = true) → lexTo .any ops l.length k listed = true → doneTo l.length k listed = D → C w → wpQuiet P ops C K l a →
      wpAnyT P ops Q C n (l.length + g) listed a w := by
  induction l with
  | nil =>
    intro k listed a w _ _ _ _ hd hC h
    subst hd
    rw [List.length_nil, Nat.zero_add]
    exact hK a w hC h
  | cons o l ih =>
    intro k listed a w hl hk hp hB hd hC h
    have h0 : ops[k]? = some o := by simpa using (hl 0 (by simp)).symm
    simp only [List.length_cons, lexTo, Bool.and_eq_true] at hB
    have hkn : k < n := by simp only [List.length_cons] at hk; omega
    have hr : k ∈ Region.ready .any ops listed := by simpa using hB.1.1
    have hq : qOp P ops C k (wpQuiet P ops C K l) a := by unfold qOp; simp only [h0]; exact h
    obtain ⟨v, hy, hKK⟩ := yieldsIn_of_qOp h0 hq
    rw [List.length_cons, show l.length + 1 + g = (l.length + g) + 1 by omega]
    refine wpAnyT_first h0 (Region.noSelect_spec hsel) hQ (hw k hkn) (l.length + g) listed a w (Region.free_spec h0 hB.1.2) hr (yieldsIf_of_in (hp o (by simp)) hy) hC ?_
    exact ih (k + 1) _ _ _ (fun j hj => by have := hl (j + 1) (by simp; omega); simpa [Nat.add_assoc, Nat.add_comm 1 j] using this) (by simp only [List.length_cons] at hk; omega) (fun o ho => hp o (by simp [ho])) hB.2 hd hC hKK
/-- Behind the call: the class still holds, and then the tail. -/
def wildQ (P : Program) (ops : Array Oper) (C : World → Prop) (tl : List Oper) (Q : Exit → Act → World → Prop) : Exit → Act → World → Prop
  | .normal, a, w => C w ∧ wpList P ops Q tl a w
  | .exit i, a, w => Q (.exit i) a w
  | .goto i, a, w => Q (.goto i) a w
  | .ret, a, w => Q .ret a w
  | .panic c, a, w => Q (.panic c) a w
  | .outgrown, a, w => Q .outgrown a w
theorem wildQ_normal {P : Program} {ops : Array Oper} {C : World → Prop} {tl : List Oper} {Q : Exit → Act → World → Prop} {a : Act} {w : World} (h1 : C w) (h2 : wpList P ops Q tl a w) : wildQ P ops C tl Q .normal a w := ⟨h1, h2⟩
theorem upon_wild {P : Program} {ops : Array Oper} {C : World → Prop} {tl : List Oper} {Q : Exit → Act → World → Prop} {o : Oper} {a : Act} {w : World} {K : Act → World → Prop} (h : o.wp P a w K (wildQ P ops C tl Q)) : o.wp P a w K Q := by
  unfold Oper.wp at *
  generalize (execOp a.eval o).run P w = r at *
  cases r with
  | ok n w' =>
    cases n <;> simp only [Oper.upon] at h ⊢ <;>
      first
        | exact h
        | exact Calls.mono h (fun e w'' he => by cases e <;> exact he)
  | halt x w' => cases x <;> simp only [Oper.upon] at h ⊢ <;> exact h
theorem wpAnyT_tail {P : Program} {ops : Array Oper} {Q : Exit → Act → World → Prop} {S : World → Prop} {n : Nat} : ∀ (l : List Oper) (k : Nat) (listed : Array Bool) (a : Act) (w : World), n < k → (∀ j, l[j]? = ops[k + j]?) →
    Region.seqB .any ops l.length k listed = true → wpList P ops Q l a w → wpAnyT P ops Q S n l.length listed a w
  | [], _, _, _, _, _, _, hB, h => ⟨by simpa [Region.seqB] using hB, h⟩
  | o :: l, k, listed, a, w, hk, hl, hB, h => by
    have h0 : ops[k]? = some o := by simpa using (hl 0).symm
    simp only [List.length_cons, Region.seqB, Bool.and_eq_true, decide_eq_true_eq] at hB
    refine ⟨fun h1 => (by rw [hB.1] at h1; cases h1), fun i hi => ?_⟩
    rw [hB.1] at hi
    have hik : i = k := by simpa using hi
    subst hik
    have hw : wpOp P ops Q i (wpList P ops Q l) a w := by unfold wpOp; simp only [h0]; exact h
    exact wpOp_mono (fun a' w' h' => ⟨fun h => absurd h (by omega), wpAnyT_tail l (i + 1) _ a' w' (by omega) (fun j => by have := hl (j + 1); simpa [Nat.add_assoc, Nat.add_comm 1 j] using this) hB.2 h'⟩) hw
def wildB (ops : Array Oper) (n : Nat) : Bool :=
  Region.noSelect ops && decide (n < ops.size) && ((List.range n).all fun i => (List.range ops.size).all fun j => decide (j ≤ n) || Region.waitsFor .any ops j i) && lexTo .any ops n 0 (Array.replicate ops.size false) &&
    decide (Region.ready .any ops (doneTo n 0 (Array.replicate ops.size false)) = [n]) && Region.seqB .any ops (ops.size - n - 1) (n + 1) ((doneTo n 0 (Array.replicate ops.size false)).setIfInBounds n true)
theorem wp_region_wild {P : Program} {id : Nat} {Q : Exit → Act → World → Prop} {a : Act} {w : World} {l : List Oper} (m n : Nat) (hm : P.follows .mixedOrders = true) (hB : wildB l.toArray n = true) (hp : (l.take n).all plainB = true)
    (hQ : ∀ d v c a w, Q (.panic c) (Act.put a d v) w → Q (.panic c) a w)
    (h : wpQuiet P l.toArray (fun w' => ∃ u : Ws m w, w' = u.val) (fun a' => ∀ u : Ws m w, wpList P l.toArray (wildQ P l.toArray (fun w' => ∃ u : Ws m w, w' = u.val) (l.drop (n + 1)) Q) ((l.drop n).take 1) a' u.val) (l.take n) a) : (Code.region id l.toArray true).wp P Q a w := by
  simp only [wildB, Bool.and_eq_true, decide_eq_true_eq] at hB
  obtain ⟨⟨⟨⟨⟨hsel, hn⟩, hw⟩, hlex⟩, hready⟩, hseq⟩ := hB
  have hn' : n < l.length := by simpa using hn
  have htl : (l.take n).length = n := by simp; omega
  have hw' : ∀ i, i < n → ∀ j, n < j → j < l.toArray.size → Region.waitsFor .any l.toArray j i = true := fun i hi j hj hjs => by
    have h1 := List.all_eq_true.1 hw i (List.mem_range.2 hi)
    have h2 := List.all_eq_true.1 h1 j (List.mem_range.2 hjs)
    simp only [Bool.or_eq_true, decide_eq_true_eq] at h2
    rcases h2 with h2 | h2
    · omega
    · exact h2
  refine wp_region_any hm ?_
  refine wpAny_of_T (S := fun w' => ∃ u : Ws m w, w' = u.val) (n := n) _ _ _ _ ?_
  have H := wpAnyT_lex (P := P) (Q := Q) (C := fun w' => ∃ u : Ws m w, w' = u.val) (n := n) (g := l.length - n - 1 + 1) (D := doneTo n 0 (Array.replicate l.toArray.size false)) hsel hQ hw' (l.take n) (K := fun a' => ∀ u : Ws m w, wpList P l.toArray (wildQ P l.toArray (fun w' => ∃ u : Ws m w, w' = u.val) (l.drop (n + 1)) Q) ((l.drop n).take 1) a' u.val) (fun a' w' hC hK => by
    obtain ⟨u, rfl⟩ := hC
    have h1 := hK u
    have hd : (l.drop n).take 1 = [l[n]] := by
      rw [List.drop_eq_getElem_cons hn']
      rfl
    rw [hd] at h1
    refine ⟨fun h => (by rw [hready] at h; cases h), fun i hi => ?_⟩
    rw [hready] at hi
    have hin : i = n := by simpa using hi
    subst hin
    have hop : l.toArray[i]? = some l[i] := by simp [hn']
    unfold wpOp
    simp only [hop]
    unfold wpList at h1
    have fin : ∀ a'' w'', wildQ P l.toArray (fun w' => ∃ u : Ws m w, w' = u.val) (l.drop (i + 1)) Q .normal a'' w'' → (i ≤ i → ∃ u : Ws m w, w'' = u.val) ∧ wpAnyT P l.toArray Q (fun w' => ∃ u : Ws m w, w' = u.val) i (l.length - i - 1) ((doneTo i 0 (Array.replicate l.toArray.size false)).setIfInBounds i true) a'' w'' := fun a'' w'' h2 => by
      refine ⟨fun _ => h2.1, ?_⟩
      have hdl : (l.drop (i + 1)).length = l.length - i - 1 := by simp; omega
      rw [← hdl]
      refine wpAnyT_tail (l.drop (i + 1)) (i + 1) _ a'' w'' (by omega) (fun j => by simp [List.getElem?_drop]) ?_ h2.2
      rw [hdl]
      simpa using hseq
    by_cases hg : Region.wanted l[i] (yielded l.toArray a'.tmps) = true
    · rw [if_pos hg] at h1 ⊢
      exact h1.imp (fun h2 => Oper.wp_mono (fun a'' w'' h3 => fin a'' w'' h3) (upon_wild h2)) (fun h => h)
    · rw [if_neg hg] at h1 ⊢
      exact fin _ _ h1) 0 (Array.replicate l.toArray.size false) a _ (fun j hj => by rw [htl] at hj; simp [hj]) (by simpa using htl) (fun o ho => List.all_eq_true.1 hp o ho) (by rw [htl]; exact hlex) (by rw [htl]) ⟨⟨_, (Below.refl m w).drew⟩, rfl⟩ h
  rw [htl, show n + (l.length - n - 1 + 1) = l.toArray.size by simp; omega] at H
  exact H
end Go.Proofs.YtpdoonkhnabfjaaGreat
/- What TakeOf of the reference comes to. -/
namespace Go.Proofs.YtpdoonkhnabfjaaGreat
open Go.RowKit Go.Shelf

theorem setCell_self {w : World} {b o : Nat} {v : Value} (h : w.cell? ⟨b, o, none⟩ = some v) : w.setCell ⟨b, o, none⟩ v = w := by
  unfold World.cell? at h
  cases hb : w.heap[b]? with
  | none => simp [hb] at h
  | some ob =>
    cases ob with
    | cells c e f =>
      simp [hb] at h
      have hc : c.setIfInBounds o v = c := by
        apply Array.ext_getElem?
        intro k
        by_cases hk : o = k
        · subst hk
          rw [h, Array.getElem?_setIfInBounds_self_of_lt (Array.getElem?_eq_some_iff.1 h).1]
        · rw [Array.getElem?_setIfInBounds_ne hk]
      unfold World.setCell
      have hm : ∀ F : Obj → Obj, F (.cells c e f) = .cells c e f → w.heap.modify b F = w.heap := fun F hF => by
        apply Array.ext_getElem?
        intro k
        rw [Array.getElem?_modify]
        by_cases hk : b = k
        · subst hk
          rw [if_pos rfl, hb]
          simp [hF]
        · rw [if_neg hk]
      rw [hm _ (by simp [hc])]
    | _ =>
      rw [hb] at h
      simp at h
set_option maxRecDepth 100000 in
set_option maxHeartbeats 6400000 in
theorem takeOf_any (t : Int) (x : Option Addr) (n c : Nat) (ps : List Po) (id z ow : Int) (w : World) (hk : Bk w x n c ps) :
    Calls Tryz.prog 15 #[.agg #[.int .i64 t, .slice x n c], .int .i64 id, .int .i64 z, .int .i64 ow] w (TakePost t ps id z ow w) := by
  have hpl : Hid (ps.length = n) := hk.ps.len
  go_enter Tryz.func15, Tryz.ntmps15
  go_upto_region 1 with fail
  obtain ⟨w0, hw0⟩ : ∃ w0, w0 = ((w.alloc (bkV t (.slice x n c))).alloc (bkV 0 (.slice none 0 0))).alloc (.cells #[.int .i64 0, .int .i64 0] 26) := ⟨_, rfl⟩
  rw [← hw0]
  have hT0 : TB w w0 t (.slice x n c) := by
    rw [hw0]
    exact ⟨heap_old _ (heap_old _ (heap_new _ rfl)), heap_old _ (heap_new _ (by simp)), heap_new _ (by simp), (bl2 w _ _).alloc (by simp; omega) _⟩
  clear hw0
  have b0 : w0.cell? ⟨w.heap.size, 0, none⟩ = some (.int .i64 t) := (box_cells hT0.hb).1 0
  have b1 : w0.cell? ⟨w.heap.size, 1, none⟩ = some (.slice x n c) := (box_cells hT0.hb).1 1
  have s0 : w0.cell? ⟨w.heap.size + 1, 0, none⟩ = some (.int .i64 0) := (box_cells hT0.hs).1 0
  have s1 : w0.cell? ⟨w.heap.size + 1, 1, none⟩ = some (.slice none 0 0) := (box_cells hT0.hs).1 1
  have r0 : w0.cell? ⟨w.heap.size + 2, 0, none⟩ = some (.int .i64 0) := (box_cells hT0.hr).1 0
  have r1 : w0.cell? ⟨w.heap.size + 2, 1, none⟩ = some (.int .i64 0) := (box_cells hT0.hr).1 1
  have zs0 : w0.frozen? ⟨w.heap.size + 1, 0, none⟩ = false := (box_cells hT0.hs).2 0
  have zs1 : w0.frozen? ⟨w.heap.size + 1, 1, none⟩ = false := (box_cells hT0.hs).2 1
  have zr0 : w0.frozen? ⟨w.heap.size + 2, 0, none⟩ = false := (box_cells hT0.hr).2 0
  have zr1 : w0.frozen? ⟨w.heap.size + 2, 1, none⟩ = false := (box_cells hT0.hr).2 1
  have hck := checkBook_any t x n c ps w0 (hk.later hT0.below)
  by_cases hc0 : chkB t ps = 0
  · rw [hc0] at hck
    go_wp2_with fail
    refine hck.mono ?_
    rintro e w1 ⟨rfl, hb1⟩
    have hT1 := hT0.later hb1
    have hn8 : n ≤ 8 := by rw [← hpl.out]; exact chk_len hc0
    have hk1 := hk.later hT1.below
    have hpc := poolAt_any t id x n c ps w1 hk1.ps (by omega)
    clear b0 b1 s0 s1 r0 r1 zs0 zs1 zr0 zr1 hck hb1
    have b0 : w1.cell? ⟨w.heap.size, 0, none⟩ = some (.int .i64 t) := (box_cells hT1.hb).1 0
    have b1 : w1.cell? ⟨w.heap.size, 1, none⟩ = some (.slice x n c) := (box_cells hT1.hb).1 1
    have s0 : w1.cell? ⟨w.heap.size + 1, 0, none⟩ = some (.int .i64 0) := (box_cells hT1.hs).1 0
    have s1 : w1.cell? ⟨w.heap.size + 1, 1, none⟩ = some (.slice none 0 0) := (box_cells hT1.hs).1 1
    have r0 : w1.cell? ⟨w.heap.size + 2, 0, none⟩ = some (.int .i64 0) := (box_cells hT1.hr).1 0
    have r1 : w1.cell? ⟨w.heap.size + 2, 1, none⟩ = some (.int .i64 0) := (box_cells hT1.hr).1 1
    have zs0 : w1.frozen? ⟨w.heap.size + 1, 0, none⟩ = false := (box_cells hT1.hs).2 0
    have zs1 : w1.frozen? ⟨w.heap.size + 1, 1, none⟩ = false := (box_cells hT1.hs).2 1
    have zr0 : w1.frozen? ⟨w.heap.size + 2, 0, none⟩ = false := (box_cells hT1.hr).2 0
    have zr1 : w1.frozen? ⟨w.heap.size + 2, 1, none⟩ = false := (box_cells hT1.hr).2 1
    by_cases hat : atId ps id < 0
    · have hne : takeE t ps id z ow = 5 ∧ (5 : Int) ≠ 0 := ⟨by unfold takeE; rw [if_neg (by simp [hc0]), if_pos hat], by decide⟩
      go_wp2_with fail
      refine hpc.mono ?_
      rintro e w2 ⟨rfl, hb2⟩
      have hT2 := hT1.later hb2
      clear b0 b1 s0 s1 r0 r1 zs0 zs1 zr0 zr1 hb2
      have b0 : w2.cell? ⟨w.heap.size, 0, none⟩ = some (.int .i64 t) := (box_cells hT2.hb).1 0
      have b1 : w2.cell? ⟨w.heap.size, 1, none⟩ = some (.slice x n c) := (box_cells hT2.hb).1 1
      have s0 : w2.cell? ⟨w.heap.size + 1, 0, none⟩ = some (.int .i64 0) := (box_cells hT2.hs).1 0
      have s1 : w2.cell? ⟨w.heap.size + 1, 1, none⟩ = some (.slice none 0 0) := (box_cells hT2.hs).1 1
      have r0 : w2.cell? ⟨w.heap.size + 2, 0, none⟩ = some (.int .i64 0) := (box_cells hT2.hr).1 0
      have r1 : w2.cell? ⟨w.heap.size + 2, 1, none⟩ = some (.int .i64 0) := (box_cells hT2.hr).1 1
      have zs0 : w2.frozen? ⟨w.heap.size + 1, 0, none⟩ = false := (box_cells hT2.hs).2 0
      have zs1 : w2.frozen? ⟨w.heap.size + 1, 1, none⟩ = false := (box_cells hT2.hs).2 1
      have zr0 : w2.frozen? ⟨w.heap.size + 2, 0, none⟩ = false := (box_cells hT2.hr).2 0
      have zr1 : w2.frozen? ⟨w.heap.size + 2, 1, none⟩ = false := (box_cells hT2.hr).2 1
      go_wp2
      refine bodyPost_ret (v := .tuple #[.agg #[.int .i64 0, .slice none 0 0], .agg #[.int .i64 0, .int .i64 0], .int .i64 5]) (by simp [results, Tryz.results15, go_sem, s0, s1, r0, r1]) rfl ?_
      exact TakePost.err hne (hT2.fin _ _ _ _)
    · have hE1 : takeE t ps id z ow = if wth ow 1 65536 = false then 3 else pfitE (poAt ps (atId ps id).toNat) (sizeZ (poAt ps (atId ps id).toNat) z) := by unfold takeE; rw [if_neg (by simp [hc0]), if_neg hat]
      obtain ⟨i, hi, hati, -⟩ := atId_range hat
      rw [hpl.out] at hi
      have hto : (atId ps id).toNat = i := by rw [hati]; rfl
      rw [hto] at hE1
      rw [hati] at hpc
      go_wp2_with fail
      refine hpc.mono ?_
      rintro e w2 ⟨rfl, hb2⟩
      have hT2 := hT1.later hb2
      have hneg : ¬ ((i : Int) < 0) := by omega
      clear b0 b1 s0 s1 r0 r1 zs0 zs1 zr0 zr1 hb2
      have b0 : w2.cell? ⟨w.heap.size, 0, none⟩ = some (.int .i64 t) := (box_cells hT2.hb).1 0
      have b1 : w2.cell? ⟨w.heap.size, 1, none⟩ = some (.slice x n c) := (box_cells hT2.hb).1 1
      have s0 : w2.cell? ⟨w.heap.size + 1, 0, none⟩ = some (.int .i64 0) := (box_cells hT2.hs).1 0
      have s1 : w2.cell? ⟨w.heap.size + 1, 1, none⟩ = some (.slice none 0 0) := (box_cells hT2.hs).1 1
      have r0 : w2.cell? ⟨w.heap.size + 2, 0, none⟩ = some (.int .i64 0) := (box_cells hT2.hr).1 0
      have r1 : w2.cell? ⟨w.heap.size + 2, 1, none⟩ = some (.int .i64 0) := (box_cells hT2.hr).1 1
      have zs0 : w2.frozen? ⟨w.heap.size + 1, 0, none⟩ = false := (box_cells hT2.hs).2 0
      have zs1 : w2.frozen? ⟨w.heap.size + 1, 1, none⟩ = false := (box_cells hT2.hs).2 1
      have zr0 : w2.frozen? ⟨w.heap.size + 2, 0, none⟩ = false := (box_cells hT2.hr).2 0
      have zr1 : w2.frozen? ⟨w.heap.size + 2, 1, none⟩ = false := (box_cells hT2.hr).2 1
      cases how : wth ow 1 65536 with
      | false =>
        have hne : takeE t ps id z ow = 3 ∧ (3 : Int) ≠ 0 := ⟨by rw [hE1, if_pos how], by decide⟩
        go_wp2_with fail
        refine (within_at ow 1 65536 false how _).mono ?_
        rintro e w3 ⟨rfl, rfl⟩
        go_wp2
        refine bodyPost_ret (v := .tuple #[.agg #[.int .i64 0, .slice none 0 0], .agg #[.int .i64 0, .int .i64 0], .int .i64 3]) (by simp [results, Tryz.results15, go_sem, s0, s1, r0, r1]) rfl ?_
        exact TakePost.err hne (hT2.fin _ _ _ _)
      | true =>
        rw [if_neg (by simp [how])] at hE1
        go_wp2_with fail
        refine (within_at ow 1 65536 true how _).mono ?_
        rintro e w2 ⟨rfl, rfl⟩
        have hk2 := hk.later hT2.below
        obtain ⟨b, o, rfl, c0, c1, c2, c3, c4, c5, c6, c7, c8⟩ := hk2.ps.cells i hi
        obtain ⟨hlc, hlm, hLS⟩ := hk2.ps.leases i hi
        have hi0 : (0 : Int) ≤ i := by omega
        have hin : (i : Int) < n := by omega
        obtain ⟨zz, hzz⟩ : ∃ zz, Hid (zz = sizeZ (poAt ps i) z) := ⟨_, rfl⟩
        rw [← hzz.out] at hE1
        have hE2 : Hid (takeE t ps id z ow = pfitE (poAt ps i) zz) := hE1
        obtain ⟨-, -, -, -, hpools⟩ := chk_ok hc0
        obtain ⟨hchk, hrule, -, -⟩ := pool_ok (hpools i (by rw [hpl.out]; exact hi))
        obtain ⟨hu1, hu2, hu3, hu4, -, -⟩ := rule_ok hrule
        clear hE1 hpools hrule
        go_upto_region 10 with fail
        obtain ⟨w3, hw3⟩ : ∃ w3, w3 = w2.alloc (.cells #[.int .i64 (poAt ps i).mn, .int .i64 (poAt ps i).mx, .int .i64 (poAt ps i).us, .int .i64 (poAt ps i).co] 28) := ⟨_, rfl⟩
        rw [← hw3]
        have hB3 : Below w2.heap.size w2 w3 := by rw [hw3]; exact bl1 _ _
        have hR3 : w3.heap[w2.heap.size]? = some (.cells #[.int .i64 (poAt ps i).mn, .int .i64 (poAt ps i).mx, .int .i64 (poAt ps i).us, .int .i64 (poAt ps i).co] 28) := by rw [hw3]; exact heap_new _ rfl
        have hT3 := hT2.later hB3
        have hk3 := hk2.later hB3
        clear hw3 b0 b1 s0 s1 r0 r1 zs0 zs1 zr0 zr1 c0 c1 c2 c3 c4 c5 c6 c7 c8 hLS
        generalize w2.heap.size = kr at hR3 ⊢
        have u0 : w3.cell? ⟨kr, 0, none⟩ = some (.int .i64 (poAt ps i).mn) := (box_cells hR3).1 0
        have u1 : w3.cell? ⟨kr, 1, none⟩ = some (.int .i64 (poAt ps i).mx) := (box_cells hR3).1 1
        have u2 : w3.cell? ⟨kr, 2, none⟩ = some (.int .i64 (poAt ps i).us) := (box_cells hR3).1 2
        go_upto_if 43 with fail
        go_cut [2] (fun s wc => s = .int .i64 zz ∧ wc = w3)
        case first =>
          by_cases hz : z = 0
          · have hz2 : (poAt ps i).us = zz := by rw [hzz.out]; unfold sizeZ; rw [if_pos hz]
            subst hz
            go_wp2
            go_meet
            case rel => exact ⟨by first | rfl | rw [hz2], rfl⟩
          · have hz2 : z = zz := by rw [hzz.out]; unfold sizeZ; rw [if_neg hz]
            go_wp2
            go_meet
            case rel => exact ⟨by first | rfl | rw [← hz2], rfl⟩
        case rest =>
          obtain ⟨rfl, rfl⟩ := hcut
          clear u2
          cases hwz : wth zz (poAt ps i).mn (poAt ps i).mx with
          | false =>
            have hout : zz < (poAt ps i).mn ∨ (poAt ps i).mx < zz := by
              unfold wth at hwz
              simp only [Bool.and_eq_false_iff, decide_eq_false_iff_not] at hwz
              omega
            have hne : takeE t ps id z ow = 7 ∧ (7 : Int) ≠ 0 := ⟨hE2.out.trans (by unfold pfitE; rw [if_pos hout]), by decide⟩
            go_wp2_with fail
            refine (within_at zz (poAt ps i).mn (poAt ps i).mx false hwz _).mono ?_
            rintro e w3 ⟨rfl, rfl⟩
            clear u0 u1
            have s0 : w3.cell? ⟨w.heap.size + 1, 0, none⟩ = some (.int .i64 0) := (box_cells hT3.hs).1 0
            have s1 : w3.cell? ⟨w.heap.size + 1, 1, none⟩ = some (.slice none 0 0) := (box_cells hT3.hs).1 1
            have r0 : w3.cell? ⟨w.heap.size + 2, 0, none⟩ = some (.int .i64 0) := (box_cells hT3.hr).1 0
            have r1 : w3.cell? ⟨w.heap.size + 2, 1, none⟩ = some (.int .i64 0) := (box_cells hT3.hr).1 1
            have zs0 : w3.frozen? ⟨w.heap.size + 1, 0, none⟩ = false := (box_cells hT3.hs).2 0
            have zs1 : w3.frozen? ⟨w.heap.size + 1, 1, none⟩ = false := (box_cells hT3.hs).2 1
            have zr0 : w3.frozen? ⟨w.heap.size + 2, 0, none⟩ = false := (box_cells hT3.hr).2 0
            have zr1 : w3.frozen? ⟨w.heap.size + 2, 1, none⟩ = false := (box_cells hT3.hr).2 1
            go_wp2
            refine bodyPost_ret (v := .tuple #[.agg #[.int .i64 0, .slice none 0 0], .agg #[.int .i64 0, .int .i64 0], .int .i64 7]) (by simp [results, Tryz.results15, go_sem, s0, s1, r0, r1]) rfl ?_
            exact TakePost.err hne (hT3.fin _ _ _ _)
          | true =>
            have hin2 : ¬ (zz < (poAt ps i).mn ∨ (poAt ps i).mx < zz) := by
              unfold wth at hwz
              simp only [Bool.and_eq_true, decide_eq_true_eq] at hwz
              omega
            have hE3 : Hid (pfitS (poAt ps i) zz = none → takeE t ps id z ow = 8) := fun h => hE2.out.trans (by unfold pfitE; rw [if_neg hin2, h])
            have hE4 : Hid (∀ y, pfitS (poAt ps i) zz = some y → takeE t ps id z ow = 0) := fun y h => hE2.out.trans (by unfold pfitE; rw [if_neg hin2, h])
            have hO3 : Hid (∀ y, pfitS (poAt ps i) zz = some y → pfitO (poAt ps i) zz = (y, zz)) := fun y hy => by unfold pfitO; rw [if_neg hin2, hy]
            have hz1 : (poAt ps i).l ≤ zz := by omega
            have hz2 : zz ≤ 16 := by omega
            have hl32 := (chkS_ok hchk).1
            go_wp2_with fail
            refine (within_at zz (poAt ps i).mn (poAt ps i).mx true hwz _).mono ?_
            rintro e w3 ⟨rfl, rfl⟩
            obtain ⟨b', o', hbo, c0, c1, c2, c3, c4, c5, c6, c7, c8⟩ := hk3.ps.cells i hi
            simp only [Option.some.injEq, Addr.mk.injEq, and_true] at hbo
            obtain ⟨rfl, rfl⟩ := hbo
            obtain ⟨-, -, hLS⟩ := hk3.ps.leases i hi
            clear u0 u1 hwz hin2
            have b1 : w3.cell? ⟨w.heap.size, 1, none⟩ = some (.slice (some ⟨b, o, none⟩) n c) := (box_cells hT3.hb).1 1
            have hroom := room_any (poAt ps i) zz w3 hLS hchk hz1 hz2
            cases hq : pfitS (poAt ps i) zz with
            | none =>
              rw [hq] at hroom
              have hne : takeE t ps id z ow = 8 ∧ (8 : Int) ≠ 0 := ⟨hE3.out hq, by decide⟩
              unfold fitR at hroom
              go_wp2_with fail
              refine hroom.mono ?_
              rintro e w4 ⟨rfl, hb4⟩
              have hT4 := hT3.later hb4
              clear b1 c0 c1 c2 c3 c4 c5 c6 c7 c8 hroom
              go_upto_region 15 with fail
              have hT5 := hT4.later (bl1 w4 (.cells #[.int .i64 0, .int .i64 0] 26))
              generalize w4.alloc (.cells #[.int .i64 0, .int .i64 0] 26) = w5 at hT5 ⊢
              have s0 : w5.cell? ⟨w.heap.size + 1, 0, none⟩ = some (.int .i64 0) := (box_cells hT5.hs).1 0
              have s1 : w5.cell? ⟨w.heap.size + 1, 1, none⟩ = some (.slice none 0 0) := (box_cells hT5.hs).1 1
              have r0 : w5.cell? ⟨w.heap.size + 2, 0, none⟩ = some (.int .i64 0) := (box_cells hT5.hr).1 0
              have r1 : w5.cell? ⟨w.heap.size + 2, 1, none⟩ = some (.int .i64 0) := (box_cells hT5.hr).1 1
              have zs0 : w5.frozen? ⟨w.heap.size + 1, 0, none⟩ = false := (box_cells hT5.hs).2 0
              have zs1 : w5.frozen? ⟨w.heap.size + 1, 1, none⟩ = false := (box_cells hT5.hs).2 1
              have zr0 : w5.frozen? ⟨w.heap.size + 2, 0, none⟩ = false := (box_cells hT5.hr).2 0
              have zr1 : w5.frozen? ⟨w.heap.size + 2, 1, none⟩ = false := (box_cells hT5.hr).2 1
              go_wp2
              refine bodyPost_ret (v := .tuple #[.agg #[.int .i64 0, .slice none 0 0], .agg #[.int .i64 0, .int .i64 0], .int .i64 8]) (by simp [results, Tryz.results15, go_sem, s0, s1, r0, r1]) rfl ?_
              exact TakePost.err hne (hT5.fin _ _ _ _)
            | some y =>
              rw [hq] at hroom
              have hE0 : takeE t ps id z ow = 0 := hE4.out y hq
              have hO := hO3.out y hq
              have hl31 : (poAt ps i).n ≤ 31 := by
                refine pfit_len (z := zz) ?_
                rw [← hE2.out]
                exact hE0
              unfold fitR at hroom
              go_wp2_with fail
              refine hroom.mono ?_
              rintro e w4 ⟨rfl, hb4⟩
              have hT4 := hT3.later hb4
              clear b1 c0 c1 c2 c3 c4 c5 c6 c7 c8 hroom hb4 hLS hk3 hk2 hT2 hT3
              go_upto_region 15 with fail
              obtain ⟨w5, hw5⟩ : ∃ w5, w5 = w4.alloc (.cells #[.int .i64 y, .int .i64 zz] 26) := ⟨_, rfl⟩
              rw [← hw5]
              have hT5 : TB w w5 t (.slice (some ⟨b, o, none⟩) n c) := by rw [hw5]; exact hT4.later (bl1 _ _)
              have hp5 : w5.heap[w4.heap.size]? = some (.cells #[.int .i64 y, .int .i64 zz] 26) := by rw [hw5]; exact heap_new _ rfl
              have hkp : w.heap.size + 2 < w4.heap.size := (Array.getElem?_eq_some_iff.1 hT4.hr).1
              clear hw5 hT4
              generalize w4.heap.size = kp at hp5 hkp ⊢
              have b0 : w5.cell? ⟨w.heap.size, 0, none⟩ = some (.int .i64 t) := (box_cells hT5.hb).1 0
              have b1 : w5.cell? ⟨w.heap.size, 1, none⟩ = some (.slice (some ⟨b, o, none⟩) n c) := (box_cells hT5.hb).1 1
              go_wp2_with fail
              refine (ownBook_any t (some ⟨b, o, none⟩) n c ps w5 (hk.later hT5.below) (by omega)).mono ?_
              rintro e w6 ⟨v6, qs, rfl, hs, hOB, hb6⟩
              have hql : i < qs.length := by rw [← hs.1, hpl.out]; exact hi
              rcases hOB.row.2 with ⟨-, h0⟩ | ⟨g, cap, cur, rfl, hg1, hg2, -⟩
              · omega
              clear b0 b1
              go_upto_region 18 with fail
              obtain ⟨w7, hw7⟩ : ∃ w7, w7 = w6.alloc (bkV t (.slice (some ⟨g, 0, none⟩) qs.length cap)) := ⟨_, rfl⟩
              rw [← hw7]
              have hB7 : Below w5.heap.size w5 w7 := by rw [hw7]; exact hb6.trans ((bl1 _ _).mono hb6.size)
              have hT7 := hT5.later hB7
              have hp7 := heap_later hB7 hp5
              have hn7 : w7.heap[w6.heap.size]? = some (bkV t (.slice (some ⟨g, 0, none⟩) qs.length cap)) := by rw [hw7]; exact heap_new _ rfl
              have hOB7 : OBk w7 w5.heap.size (.slice (some ⟨g, 0, none⟩) qs.length cap) qs qs.length := by rw [hw7]; exact hOB.later (bl1 _ _)
              have hs7 : w5.heap.size ≤ w7.heap.size := hB7.size
              have hko : w.heap.size + 2 < w6.heap.size := by have := (Array.getElem?_eq_some_iff.1 hT5.hr).1; have := hb6.size; omega
              clear hw7 hOB hb6 hg2
              generalize w6.heap.size = ko at hn7 hko ⊢
              have hsp := hs.2 i (by rw [hpl.out]; exact hi)
              have hqn : (poAt qs i).n ≤ 32 := by rw [← hsp.2.2.2.2.2.2.2.2.1]; omega
              have hql2 : (i : Int) < qs.length := by omega
              obtain ⟨hbg, cur7, hg7⟩ := hOB7.row.block
              have ng1 : ko ≠ g := block_ne hg7 hn7 (by decide)
              have ng2 : kp ≠ g := block_ne hg7 hp7 (by decide)
              have hadd := addLeaseR_any (poAt qs i) ⟨y, zz, 1, ow, 0⟩ w7.drew ((hOB7.own i hql).ls.1.later (Below.refl _ _).drew) hqn
              obtain ⟨d0, d1, d2, d3, d4, d5, d6, d7, d8⟩ := hOB7.row.cells9 i hql
              have m1 : w7.cell? ⟨ko, 1, none⟩ = some (.slice (some ⟨g, 0, none⟩) qs.length cap) := (box_cells hn7).1 1
              have p0 : w7.cell? ⟨kp, 0, none⟩ = some (.int .i64 y) := (box_cells hp7).1 0
              have p1 : w7.cell? ⟨kp, 1, none⟩ = some (.int .i64 zz) := (box_cells hp7).1 1
              have zg := (box_cells hg7).2
              go_cut [16] (fun s wd => s = .pointer (some ⟨ko, 0, none⟩) ∧ ∃ x' c' w8, OwnL w8 w7.heap.size (.slice x' (insE ⟨y, zz, 1, ow, 0⟩ (poAt qs i).ls).length c') (insE ⟨y, zz, 1, ow, 0⟩ (poAt qs i).ls) ∧ Below w7.heap.size w7 w8 ∧ wd = w8.setCell ⟨g, i * 9 + 8, none⟩ (.slice x' (insE ⟨y, zz, 1, ow, 0⟩ (poAt qs i).ls).length c'))
              case first =>
                have g1 := Ws.here m1
                have h0 := Ws.here p0
                have h1 := Ws.here p1
                have e0 := Ws.here d0
                have e1 := Ws.here d1
                have e2 := Ws.here d2
                have e3 := Ws.here d3
                have e4 := Ws.here d4
                have e5 := Ws.here d5
                have e6 := Ws.here d6
                have e7 := Ws.here d7
                have e8 := Ws.here d8
                refine wp_region_wild w7.heap.size 11 (by kernel_rfl) (by kernel_rfl) (by kernel_rfl) (fun d _ _ _ _ h => by cases d <;> exact h) ?_
                simp only [List.take_succ_cons, List.take_zero, List.drop_succ_cons, List.drop_zero]
                repeat (go_big_quiet_step (fail))
                refine wpQuiet_nil ?_
                intro uu
                have hBu := uu.property
                generalize uu.val = wu at hBu ⊢
                clear uu g1 h0 h1 e0 e1 e2 e3 e4 e5 e6 e7 e8
                go_wp2_with fail
                refine (addLeaseR_any (poAt qs i) ⟨y, zz, 1, ow, 0⟩ wu ((hOB7.own i hql).ls.1.later hBu) hqn).mono ?_
                rintro e w8 ⟨x', c', rfl, hO8, hB8'⟩
                have hB8 : Below w7.heap.size w7 w8 := hBu.trans (hB8'.mono hBu.size)
                clear hB8'
                go_wp2_with fail
                refine wildQ_normal ⟨⟨w8, hB8⟩, rfl⟩ ?_
                have f0 := cell_later_add hB8 d0
                have f1 := cell_later_add hB8 d1
                have f2 := cell_later_add hB8 d2
                have f3 := cell_later_add hB8 d3
                have f4 := cell_later_add hB8 d4
                have f5 := cell_later_add hB8 d5
                have f6 := cell_later_add hB8 d6
                have f7 := cell_later_add hB8 d7
                have f8 := cell_later_add hB8 d8
                have zg8 := (box_cells (heap_later hB8 hg7)).2
                clear m1 p0 p1 d0 d1 d2 d3 d4 d5 d6 d7 d8 zg
                have hself : (((((((((w8.setCell ⟨g, i * 9, none⟩ (.int .i64 (poAt qs i).id)).setCell ⟨g, i * 9 + 1, none⟩ (.int .i64 (poAt qs i).up)).setCell ⟨g, i * 9 + 2, none⟩ (.int .i64 (poAt qs i).a)).setCell ⟨g, i * 9 + 3, none⟩ (.int .i64 (poAt qs i).l)).setCell ⟨g, i * 9 + 4, none⟩ (.int .i64 (poAt qs i).mn)).setCell ⟨g, i * 9 + 5, none⟩ (.int .i64 (poAt qs i).mx)).setCell ⟨g, i * 9 + 6, none⟩ (.int .i64 (poAt qs i).us)).setCell ⟨g, i * 9 + 7, none⟩ (.int .i64 (poAt qs i).co)).setCell ⟨g, i * 9 + 8, none⟩ (.slice x' (insE ⟨y, zz, 1, ow, 0⟩ (poAt qs i).ls).length c')) = w8.setCell ⟨g, i * 9 + 8, none⟩ (.slice x' (insE ⟨y, zz, 1, ow, 0⟩ (poAt qs i).ls).length c') := by rw [setCell_self f0, setCell_self f1, setCell_self f2, setCell_self f3, setCell_self f4, setCell_self f5, setCell_self f6, setCell_self f7]
                go_wp2
                go_meet
                case rel => exact ⟨rfl, x', c', w8, hO8.low hBu.size, hB8, hself⟩
              case rest =>
                obtain ⟨rfl, x', c', w8, hO8, hB8, hwd⟩ := hcut
                clear m1 p0 p1 d0 d1 d2 d3 d4 d5 d6 d7 d8 zg
                rw [hwd]
                have hOBf := hOB7.swap (i := i) hql hB8 hO8 hs7
                have hKf : Kept w5.heap.size w7 (w8.setCell ⟨g, i * 9 + 8, none⟩ (.slice x' (insE ⟨y, zz, 1, ow, 0⟩ (poAt qs i).ls).length c')) := (Kept.of_below hB8 hs7).trans (Kept.of_grown (set_grown _ _ _ _) hbg (Nat.le_trans hs7 hB8.size) (heap_later hB8 hg7) (.inl rfl))
                obtain ⟨w9, hw9⟩ : ∃ w9, w9 = w8.setCell ⟨g, i * 9 + 8, none⟩ (.slice x' (insE ⟨y, zz, 1, ow, 0⟩ (poAt qs i).ls).length c') := ⟨_, rfl⟩
                rw [← hw9] at hOBf hKf ⊢
                have hT9 : TB w w9 t (.slice (some ⟨b, o, none⟩) n c) := ⟨hKf.box _ _ _ hT7.hb (by decide) (by decide), hKf.box _ _ _ hT7.hs (by decide) (by decide), hKf.box _ _ _ hT7.hr (by decide) (by decide), hT7.below.trans (hKf.below.mono hT5.below.size)⟩
                have hn9 := hKf.box _ _ _ hn7 (by decide) (by decide)
                have hp9 := hKf.box _ _ _ hp7 (by decide) (by decide)
                have hsz5 : w.heap.size + 2 < w5.heap.size := (Array.getElem?_eq_some_iff.1 hT5.hr).1
                clear hw9 hwd hKf hO8 hB8
                have m0 : w9.cell? ⟨ko, 0, none⟩ = some (.int .i64 t) := (box_cells hn9).1 0
                have m1 : w9.cell? ⟨ko, 1, none⟩ = some (.slice (some ⟨g, 0, none⟩) qs.length cap) := (box_cells hn9).1 1
                have p0 : w9.cell? ⟨kp, 0, none⟩ = some (.int .i64 y) := (box_cells hp9).1 0
                have p1 : w9.cell? ⟨kp, 1, none⟩ = some (.int .i64 zz) := (box_cells hp9).1 1
                have n1 : ¬ kp = w.heap.size + 1 := by omega
                have n2 : ¬ kp = w.heap.size + 1 + 1 := by omega
                have n3 : ¬ kp = w.heap.size + 2 := by omega
                have b0 : w9.cell? ⟨w.heap.size, 0, none⟩ = some (.int .i64 t) := (box_cells hT9.hb).1 0
                have b1 : w9.cell? ⟨w.heap.size, 1, none⟩ = some (.slice (some ⟨b, o, none⟩) n c) := (box_cells hT9.hb).1 1
                have s0 : w9.cell? ⟨w.heap.size + 1, 0, none⟩ = some (.int .i64 0) := (box_cells hT9.hs).1 0
                have s1 : w9.cell? ⟨w.heap.size + 1, 1, none⟩ = some (.slice none 0 0) := (box_cells hT9.hs).1 1
                have r0 : w9.cell? ⟨w.heap.size + 2, 0, none⟩ = some (.int .i64 0) := (box_cells hT9.hr).1 0
                have r1 : w9.cell? ⟨w.heap.size + 2, 1, none⟩ = some (.int .i64 0) := (box_cells hT9.hr).1 1
                have zs0 : w9.frozen? ⟨w.heap.size + 1, 0, none⟩ = false := (box_cells hT9.hs).2 0
                have zs1 : w9.frozen? ⟨w.heap.size + 1, 1, none⟩ = false := (box_cells hT9.hs).2 1
                have zr0 : w9.frozen? ⟨w.heap.size + 2, 0, none⟩ = false := (box_cells hT9.hr).2 0
                have zr1 : w9.frozen? ⟨w.heap.size + 2, 1, none⟩ = false := (box_cells hT9.hr).2 1
                go_wp2_with fail
                go_region_with fail
                all_goals go_wp2
                all_goals refine bodyPost_ret (v := .tuple #[.agg #[.int .i64 t, .slice (some ⟨g, 0, none⟩) qs.length cap], .agg #[.int .i64 y, .int .i64 zz], .int .i64 0]) (by simp [results, Tryz.results15, go_sem, s0, s1, r0, r1]) rfl ?_
                all_goals have hsz1 : w.heap.size + 1 < w5.heap.size := by omega
                all_goals have hfin := (hT9.fin (.int .i64 t) (.slice (some ⟨g, 0, none⟩) qs.length cap) (.int .i64 y) (.int .i64 zz)).drew
                all_goals have hob := ((((((hOBf.put (o := 0) (u := .int .i64 t) hsz1).put (o := 1) (u := .slice (some ⟨g, 0, none⟩) qs.length cap) hsz1).put (o := 0) (u := .int .i64 y) hsz5).put (o := 1) (u := .int .i64 zz) hsz5)).later (Below.refl _ _).drew).low hT5.below.size
                all_goals have hto2 : Hid ((atId ps id).toNat = i) := hto
                all_goals refine ⟨_, _, t, y, zz, by rw [hE0], hfin, hob, fun h => absurd hE0 h, fun _ => ⟨rfl, ?_, qs, x', c', insE ⟨y, zz, 1, ow, 0⟩ (poAt qs i).ls, hs, ?_, ?_⟩⟩
                all_goals rw [hto2.out]
                all_goals first | (rw [← hzz.out]; exact hO.symm) | (rw [hsp.2.2.2.2.2.2.2.2.2]; exact ins_put _ _) | rfl
  · have hne : takeE t ps id z ow = chkB t ps ∧ chkB t ps ≠ 0 := ⟨if_pos hc0, hc0⟩
    go_wp2_with fail
    refine hck.mono ?_
    rintro e w1 ⟨rfl, hb1⟩
    have hT1 := hT0.later hb1
    clear b0 b1 s0 s1 r0 r1 zs0 zs1 zr0 zr1 hck hb1
    have b0 : w1.cell? ⟨w.heap.size, 0, none⟩ = some (.int .i64 t) := (box_cells hT1.hb).1 0
    have b1 : w1.cell? ⟨w.heap.size, 1, none⟩ = some (.slice x n c) := (box_cells hT1.hb).1 1
    have s0 : w1.cell? ⟨w.heap.size + 1, 0, none⟩ = some (.int .i64 0) := (box_cells hT1.hs).1 0
    have s1 : w1.cell? ⟨w.heap.size + 1, 1, none⟩ = some (.slice none 0 0) := (box_cells hT1.hs).1 1
    have r0 : w1.cell? ⟨w.heap.size + 2, 0, none⟩ = some (.int .i64 0) := (box_cells hT1.hr).1 0
    have r1 : w1.cell? ⟨w.heap.size + 2, 1, none⟩ = some (.int .i64 0) := (box_cells hT1.hr).1 1
    have zs0 : w1.frozen? ⟨w.heap.size + 1, 0, none⟩ = false := (box_cells hT1.hs).2 0
    have zs1 : w1.frozen? ⟨w.heap.size + 1, 1, none⟩ = false := (box_cells hT1.hs).2 1
    have zr0 : w1.frozen? ⟨w.heap.size + 2, 0, none⟩ = false := (box_cells hT1.hr).2 0
    have zr1 : w1.frozen? ⟨w.heap.size + 2, 1, none⟩ = false := (box_cells hT1.hr).2 1
    go_wp2
    refine bodyPost_ret (v := .tuple #[.agg #[.int .i64 0, .slice none 0 0], .agg #[.int .i64 0, .int .i64 0], .int .i64 (chkB t ps)]) (by simp [results, Tryz.results15, go_sem, s0, s1, r0, r1]) rfl ?_
    exact TakePost.err hne (hT1.fin _ _ _ _)
end Go.Proofs.YtpdoonkhnabfjaaGreat
/- What LeaseAt and GiveOf of the reference come to. -/
namespace Go.Proofs.YtpdoonkhnabfjaaGreat
open Go.RowKit Go.Shelf

/-- Is there a lease for a user of just that prefix? -/
def hasB (ps : List Po) (id a l : Int) : Bool := if atId ps id < 0 then false else anyAt (poAt ps (atId ps id).toNat).n (useB (poAt ps (atId ps id).toNat).ls a l)
def HasPost (ps : List Po) (id a l : Int) (w : World) (r : Ending) (w' : World) : Prop := ∃ f : Le, r = .returned (.tuple #[leV f, .bool (hasB ps id a l)]) ∧ Below w.heap.size w w'
structure LA3 (w W : World) (t a l : Int) (v : Value) : Prop where
  hb : W.heap[w.heap.size]? = some (bkV t v)
  hp : W.heap[w.heap.size + 1]? = some (.cells #[.int .i64 a, .int .i64 l] 26)
  hr : W.heap[w.heap.size + 1 + 1]? = some (.cells #[.int .i64 0, .int .i64 0, .int .i64 0, .int .i64 0, .int .i64 0] 55)
  below : Below w.heap.size w W
theorem LA3.later {w W W' : World} {t a l : Int} {v : Value} (h : LA3 w W t a l v) (hb : Below W.heap.size W W') : LA3 w W' t a l v :=
  ⟨heap_later hb h.hb, heap_later hb h.hp, heap_later hb h.hr, h.below.trans (hb.mono h.below.size)⟩
theorem Below.put5 {w W : World} (h : Below w.heap.size w W) (a b c d e : Value) : Below w.heap.size w (((((W.setCell ⟨w.heap.size + 1 + 1, 0, none⟩ a).setCell ⟨w.heap.size + 1 + 1, 1, none⟩ b).setCell ⟨w.heap.size + 1 + 1, 2, none⟩ c).setCell ⟨w.heap.size + 1 + 1, 3, none⟩ d).setCell ⟨w.heap.size + 1 + 1, 4, none⟩ e) :=
  Below.put9 (Below.put9 (Below.put9 (Below.put9 (Below.put9 h 0 a) 1 b) 2 c) 3 d) 4 e

set_option maxRecDepth 100000 in
set_option maxHeartbeats 3200000 in
theorem leaseAtR_any (t : Int) (x : Option Addr) (n c : Nat) (ps : List Po) (id a l : Int) (w : World) (hk : Bk w x n c ps) (hn : n ≤ 64) :
    Calls Tryz.prog 49 #[.agg #[.int .i64 t, .slice x n c], .int .i64 id, .agg #[.int .i64 a, .int .i64 l]] w (HasPost ps id a l w) := by
  have hpl : Hid (ps.length = n) := hk.ps.len
  go_enter Tryz.func49, Tryz.ntmps49
  go_upto_region 1 with fail
  obtain ⟨w0, hw0⟩ : ∃ w0, w0 = ((w.alloc (bkV t (.slice x n c))).alloc (.cells #[.int .i64 a, .int .i64 l] 26)).alloc (.cells #[.int .i64 0, .int .i64 0, .int .i64 0, .int .i64 0, .int .i64 0] 55) := ⟨_, rfl⟩
  rw [← hw0]
  have hT0 : LA3 w w0 t a l (.slice x n c) := by
    rw [hw0]
    exact ⟨heap_old _ (heap_old _ (heap_new _ rfl)), heap_old _ (heap_new _ (by simp)), heap_new _ (by simp), (bl2 w _ _).alloc (by simp; omega) _⟩
  clear hw0
  have b0 : w0.cell? ⟨w.heap.size, 0, none⟩ = some (.int .i64 t) := (box_cells hT0.hb).1 0
  have b1 : w0.cell? ⟨w.heap.size, 1, none⟩ = some (.slice x n c) := (box_cells hT0.hb).1 1
  have hpc := poolAt_any t id x n c ps w0 (hk.later hT0.below).ps (by omega)
  by_cases hat : atId ps id < 0
  · obtain ⟨ia, hia⟩ : ∃ ia, Hid (ia = atId ps id) := ⟨_, rfl⟩
    have hB : Hid (hasB ps id a l = false) := if_pos hat
    rw [← hia.out] at hpc hat
    go_wp2_with fail
    refine hpc.mono ?_
    rintro e w1 ⟨rfl, hb1⟩
    have hT1 := hT0.later hb1
    have hge : ¬ ia ≥ 0 := by omega
    clear b0 b1 hb1 hpc hia
    go_wp2
    go_loopw [9] (fun kk wr => kk = .int .i64 0 ∧ LA3 w wr t a l (.slice x n c)) (fun _ _ => 0)
    case atStart => exact ⟨rfl, hT1⟩
    case round =>
      obtain ⟨rfl, hT⟩ := hrel
      have s0 : wr.cell? ⟨w.heap.size + 1 + 1, 0, none⟩ = some (.int .i64 0) := (box_cells hT.hr).1 0
      have s1 : wr.cell? ⟨w.heap.size + 1 + 1, 1, none⟩ = some (.int .i64 0) := (box_cells hT.hr).1 1
      have s2 : wr.cell? ⟨w.heap.size + 1 + 1, 2, none⟩ = some (.int .i64 0) := (box_cells hT.hr).1 2
      have s3 : wr.cell? ⟨w.heap.size + 1 + 1, 3, none⟩ = some (.int .i64 0) := (box_cells hT.hr).1 3
      have s4 : wr.cell? ⟨w.heap.size + 1 + 1, 4, none⟩ = some (.int .i64 0) := (box_cells hT.hr).1 4
      have zz := (box_cells hT.hr).2
      go_wp2
      refine bodyPost_ret (v := .tuple #[.agg #[.int .i64 0, .int .i64 0, .int .i64 0, .int .i64 0, .int .i64 0], .bool false]) (by simp [results, Tryz.results49, go_sem, s0, s1, s2, s3, s4]) rfl ?_
      exact ⟨leZ, by first | (rw [hB.out]; done) | (rw [hB.out]; rfl), Below.put5 hT.below _ _ _ _ _⟩
  · obtain ⟨i, hi, hati, -⟩ := atId_range hat
    rw [hpl.out] at hi
    have hB0 : Hid (hasB ps id a l = anyAt (poAt ps i).n (useB (poAt ps i).ls a l)) := by
      unfold Hid hasB
      rw [if_neg hat, hati, Int.toNat_natCast]
    rw [hati] at hpc
    go_wp2_with fail
    refine hpc.mono ?_
    rintro e w1 ⟨rfl, hb1⟩
    have hT1 := hT0.later hb1
    have hi0 : (0 : Int) ≤ i := by omega
    have hige : (i : Int) ≥ 0 := by omega
    have hin : (i : Int) < n := by omega
    clear b0 b1 hb1 hpc hat hati
    go_wp2
    go_loopw [9] (fun kk wr => ∃ j : Nat, kk = .int .i64 j ∧ j ≤ (poAt ps i).n ∧ LA3 w wr t a l (.slice x n c) ∧ ∀ q, q < j → useB (poAt ps i).ls a l q = false) (fun kk _ => (poAt ps i).n - (intOf kk).toNat)
    case atStart => exact ⟨0, rfl, by omega, hT1, fun q hq => by omega⟩
    case round =>
      clear hT1 hT0
      obtain ⟨j, rfl, hjn, hT, hno⟩ := hrel
      have hno' : Hid (∀ q, q < j → useB (poAt ps i).ls a l q = false) := hno
      clear hno
      have hkr := hk.later hT.below
      obtain ⟨b, o, rfl, -, -, -, -, -, -, -, -, c8⟩ := hkr.ps.cells i hi
      obtain ⟨hlc, hlm, hLS⟩ := hkr.ps.leases i hi
      have b1 : wr.cell? ⟨w.heap.size, 1, none⟩ = some (.slice (some ⟨b, o, none⟩) n c) := (box_cells hT.hb).1 1
      by_cases hlt : j < (poAt ps i).n
      · obtain ⟨b2, o2, hx2, e0, e1, e2, e3, e4⟩ := hLS.cells j hlt
        rw [hx2] at c8
        have hj0 : (0 : Int) ≤ j := by omega
        have hjn2 : (j : Int) < (poAt ps i).n := by omega
        have hlth : Hid (j < (poAt ps i).n) := hlt
        clear hlt
        have huse : Hid (useB (poAt ps i).ls a l j = (((leAt (poAt ps i).ls j).kd == 1) && (decide ((leAt (poAt ps i).ls j).a = a) && decide ((leAt (poAt ps i).ls j).l = l)))) := rfl
        go_upto_region 6 with fail
        obtain ⟨e, he⟩ : ∃ e, Hid (e = leAt (poAt ps i).ls j) := ⟨_, rfl⟩
        rw [← he.out] at e0 e1 e2 e3 e4 huse
        rw [← he.out]
        obtain ⟨wl, hwl⟩ : ∃ wl, wl = wr.alloc (leO e) := ⟨_, rfl⟩
        rw [show wr.alloc (.cells #[.int .i64 e.a, .int .i64 e.l, .int .i64 e.kd, .int .i64 e.ow, .int .i64 e.un] 55) = wl from hwl.symm]
        have hBl : Below wr.heap.size wr wl := by rw [hwl]; exact bl1 _ _
        have hvb : wl.heap[wr.heap.size]? = some (leO e) := by rw [hwl]; exact heap_new _ rfl
        have hTl := hT.later hBl
        clear hwl b1 c8 e0 e1 e2 e3 e4
        have p0 : wl.cell? ⟨w.heap.size + 1, 0, none⟩ = some (.int .i64 a) := (box_cells hTl.hp).1 0
        have p1 : wl.cell? ⟨w.heap.size + 1, 1, none⟩ = some (.int .i64 l) := (box_cells hTl.hp).1 1
        have l0 : wl.cell? ⟨wr.heap.size, 0, none⟩ = some (.int .i64 e.a) := (box_cells hvb).1 0
        have l1 : wl.cell? ⟨wr.heap.size, 1, none⟩ = some (.int .i64 e.l) := (box_cells hvb).1 1
        have l2 : wl.cell? ⟨wr.heap.size, 2, none⟩ = some (.int .i64 e.kd) := (box_cells hvb).1 2
        have l3 : wl.cell? ⟨wr.heap.size, 3, none⟩ = some (.int .i64 e.ow) := (box_cells hvb).1 3
        have l4 : wl.cell? ⟨wr.heap.size, 4, none⟩ = some (.int .i64 e.un) := (box_cells hvb).1 4
        by_cases hkd : e.kd = 1
        · rw [hkd] at l2
          by_cases ha : e.a = a
          · rw [ha] at l0
            by_cases hl : e.l = l
            · rw [hl] at l1
              have hB : Hid (hasB ps id a l = true) := by
                unfold Hid
                rw [hB0.out]
                exact any_yes hlth.out (by simp [huse.out, hkd, ha, hl])
              clear hB0 hno'
              have s0 : wl.cell? ⟨w.heap.size + 1 + 1, 0, none⟩ = some (.int .i64 0) := (box_cells hTl.hr).1 0
              have s1 : wl.cell? ⟨w.heap.size + 1 + 1, 1, none⟩ = some (.int .i64 0) := (box_cells hTl.hr).1 1
              have s2 : wl.cell? ⟨w.heap.size + 1 + 1, 2, none⟩ = some (.int .i64 0) := (box_cells hTl.hr).1 2
              have s3 : wl.cell? ⟨w.heap.size + 1 + 1, 3, none⟩ = some (.int .i64 0) := (box_cells hTl.hr).1 3
              have s4 : wl.cell? ⟨w.heap.size + 1 + 1, 4, none⟩ = some (.int .i64 0) := (box_cells hTl.hr).1 4
              have zz := (box_cells hTl.hr).2
              go_wp2
              refine bodyPost_ret (v := .tuple #[.agg #[.int .i64 a, .int .i64 l, .int .i64 1, .int .i64 e.ow, .int .i64 e.un], .bool true]) (by simp [results, Tryz.results49, go_sem, s0, s1, s2, s3, s4]) rfl ?_
              exact ⟨⟨a, l, 1, e.ow, e.un⟩, by first | (rw [hB.out]; done) | (rw [hB.out]; rfl), Below.put5 hTl.below _ _ _ _ _⟩
            · have hst : Hid (useB (poAt ps i).ls a l j = false) := by
                have : decide (e.l = l) = false := by simpa using hl
                unfold Hid
                rw [huse.out, this]
                simp
              have hld : decide (e.l = l) = false := by simpa using hl
              go_wp2
              go_roundw
              case rel => exact ⟨j + 1, by go_num, hlth.out, hTl, fun q hq => by
                by_cases hq2 : q < j
                · exact hno'.out q hq2
                · obtain rfl : q = j := by omega
                  exact hst.out⟩
              case measure => have := hlth.out; simp [intOf]; omega
          · have hst : Hid (useB (poAt ps i).ls a l j = false) := by
              have : decide (e.a = a) = false := by simpa using ha
              unfold Hid
              rw [huse.out, this]
              simp
            have hld : decide (e.a = a) = false := by simpa using ha
            go_wp2
            go_roundw
            case rel => exact ⟨j + 1, by go_num, hlth.out, hTl, fun q hq => by
              by_cases hq2 : q < j
              · exact hno'.out q hq2
              · obtain rfl : q = j := by omega
                exact hst.out⟩
            case measure => have := hlth.out; simp [intOf]; omega
        · have hst : Hid (useB (poAt ps i).ls a l j = false) := by
            have : (e.kd == 1) = false := by simpa using hkd
            unfold Hid
            rw [huse.out, this]
            simp
          have hld : (e.kd == 1) = false := by simpa using hkd
          go_wp2
          go_roundw
          case rel => exact ⟨j + 1, by go_num, hlth.out, hTl, fun q hq => by
            by_cases hq2 : q < j
            · exact hno'.out q hq2
            · obtain rfl : q = j := by omega
              exact hst.out⟩
          case measure => have := hlth.out; simp [intOf]; omega
      · have hnj : ¬ (j : Int) < (poAt ps i).n := by omega
        have hB : Hid (hasB ps id a l = false) := by
          unfold Hid
          rw [hB0.out]
          exact any_no fun q hq => hno'.out q (by omega)
        clear hB0 hno'
        have s0 : wr.cell? ⟨w.heap.size + 1 + 1, 0, none⟩ = some (.int .i64 0) := (box_cells hT.hr).1 0
        have s1 : wr.cell? ⟨w.heap.size + 1 + 1, 1, none⟩ = some (.int .i64 0) := (box_cells hT.hr).1 1
        have s2 : wr.cell? ⟨w.heap.size + 1 + 1, 2, none⟩ = some (.int .i64 0) := (box_cells hT.hr).1 2
        have s3 : wr.cell? ⟨w.heap.size + 1 + 1, 3, none⟩ = some (.int .i64 0) := (box_cells hT.hr).1 3
        have s4 : wr.cell? ⟨w.heap.size + 1 + 1, 4, none⟩ = some (.int .i64 0) := (box_cells hT.hr).1 4
        have zz := (box_cells hT.hr).2
        go_wp2
        refine bodyPost_ret (v := .tuple #[.agg #[.int .i64 0, .int .i64 0, .int .i64 0, .int .i64 0, .int .i64 0], .bool false]) (by simp [results, Tryz.results49, go_sem, s0, s1, s2, s3, s4]) rfl ?_
        exact ⟨leZ, by first | (rw [hB.out]; done) | (rw [hB.out]; rfl), Below.put5 hT.below _ _ _ _ _⟩

def Give2R (t : Int) (ps : List Po) (id a l : Int) (t' : Int) (rs : List Po) : Prop := t' = t ∧ BackAt ps (atId ps id).toNat a l t rs
theorem give_has (t : Int) (ps : List Po) (id a l : Int) (hc : chkB t ps = 0) : giveE t ps id a l = if hasB ps id a l = true then 0 else 5 := by
  unfold giveE hasB
  rw [if_neg (by simp [hc])]
  by_cases h : atId ps id < 0
  · rw [if_pos h, if_pos h]
    simp
  · rw [if_neg h, if_neg h]
    rcases firstAt_any (n := (poAt ps (atId ps id).toNat).n) (f := useB (poAt ps (atId ps id).toNat).ls a l) with ⟨h1, i, -, -, -, h2⟩ | ⟨h1, -, h2⟩
    · rw [h1, h2, if_neg (by omega), if_pos rfl]
    · rw [h1, h2, if_pos (by omega), if_neg (by decide)]

set_option maxRecDepth 100000 in
set_option maxHeartbeats 3200000 in
theorem giveOf_any (t : Int) (x : Option Addr) (n c : Nat) (ps : List Po) (id a l : Int) (w : World) (hk : Bk w x n c ps) :
    Calls Tryz.prog 16 #[.agg #[.int .i64 t, .slice x n c], .int .i64 id, .agg #[.int .i64 a, .int .i64 l]] w (BkPost (giveE t ps id a l) (Give2R t ps id a l) w) := by
  have hpl : Hid (ps.length = n) := hk.ps.len
  go_enter Tryz.func16, Tryz.ntmps16
  go_upto_region 1 with fail
  obtain ⟨w0, hw0⟩ : ∃ w0, w0 = ((w.alloc (bkV t (.slice x n c))).alloc (.cells #[.int .i64 a, .int .i64 l] 26)).alloc (bkV 0 (.slice none 0 0)) := ⟨_, rfl⟩
  rw [← hw0]
  have hT0 : TG w w0 t a l (.slice x n c) := by
    rw [hw0]
    exact ⟨heap_old _ (heap_old _ (heap_new _ rfl)), heap_old _ (heap_new _ (by simp)), heap_new _ (by simp), (bl2 w _ _).alloc (by simp; omega) _⟩
  clear hw0
  have b0 : w0.cell? ⟨w.heap.size, 0, none⟩ = some (.int .i64 t) := (box_cells hT0.hb).1 0
  have b1 : w0.cell? ⟨w.heap.size, 1, none⟩ = some (.slice x n c) := (box_cells hT0.hb).1 1
  have a0 : w0.cell? ⟨w.heap.size + 1, 0, none⟩ = some (.int .i64 a) := (box_cells hT0.hp).1 0
  have a1 : w0.cell? ⟨w.heap.size + 1, 1, none⟩ = some (.int .i64 l) := (box_cells hT0.hp).1 1
  have s0 : w0.cell? ⟨w.heap.size + 2, 0, none⟩ = some (.int .i64 0) := (box_cells hT0.hs).1 0
  have s1 : w0.cell? ⟨w.heap.size + 2, 1, none⟩ = some (.slice none 0 0) := (box_cells hT0.hs).1 1
  have zs0 : w0.frozen? ⟨w.heap.size + 2, 0, none⟩ = false := (box_cells hT0.hs).2 0
  have zs1 : w0.frozen? ⟨w.heap.size + 2, 1, none⟩ = false := (box_cells hT0.hs).2 1
  have hck := checkBook_any t x n c ps w0 (hk.later hT0.below)
  by_cases hc0 : chkB t ps = 0
  · rw [hc0] at hck
    obtain ⟨hn8, ⟨ht0, ht1⟩, -⟩ := chk_ok hc0
    rw [hpl.out] at hn8
    have hE1 : Hid (giveE t ps id a l = if hasB ps id a l = true then 0 else 5) := give_has t ps id a l hc0
    go_wp2_with fail
    refine hck.mono ?_
    rintro e w1 ⟨rfl, hb1⟩
    have hT1 := hT0.later hb1
    clear b0 b1 a0 a1 s0 s1 zs0 zs1 hb1 hck
    have b0 : w1.cell? ⟨w.heap.size, 0, none⟩ = some (.int .i64 t) := (box_cells hT1.hb).1 0
    have b1 : w1.cell? ⟨w.heap.size, 1, none⟩ = some (.slice x n c) := (box_cells hT1.hb).1 1
    have a0 : w1.cell? ⟨w.heap.size + 1, 0, none⟩ = some (.int .i64 a) := (box_cells hT1.hp).1 0
    have a1 : w1.cell? ⟨w.heap.size + 1, 1, none⟩ = some (.int .i64 l) := (box_cells hT1.hp).1 1
    have s0 : w1.cell? ⟨w.heap.size + 2, 0, none⟩ = some (.int .i64 0) := (box_cells hT1.hs).1 0
    have s1 : w1.cell? ⟨w.heap.size + 2, 1, none⟩ = some (.slice none 0 0) := (box_cells hT1.hs).1 1
    have zs0 : w1.frozen? ⟨w.heap.size + 2, 0, none⟩ = false := (box_cells hT1.hs).2 0
    have zs1 : w1.frozen? ⟨w.heap.size + 2, 1, none⟩ = false := (box_cells hT1.hs).2 1
    have hla := leaseAtR_any t x n c ps id a l w1 (hk.later hT1.below) (by omega)
    unfold HasPost at hla
    cases hh : hasB ps id a l with
    | false =>
      rw [hh] at hla
      have hne : Hid (giveE t ps id a l = 5 ∧ (5 : Int) ≠ 0) := ⟨hE1.out.trans (by rw [hh]; rfl), by decide⟩
      go_wp2_with fail
      refine hla.mono ?_
      rintro e w2 ⟨f, rfl, hb2⟩
      have hT2 := hT1.later hb2
      clear b0 b1 a0 a1 s0 s1 zs0 zs1 hb2 hla
      go_upto_region 5 with fail
      have hT3 := hT2.later (bl1 w2 (leO f))
      rw [show w2.alloc (.cells #[.int .i64 f.a, .int .i64 f.l, .int .i64 f.kd, .int .i64 f.ow, .int .i64 f.un] 55) = w2.alloc (leO f) from rfl]
      generalize w2.alloc (leO f) = w3 at hT3 ⊢
      have b0 : w3.cell? ⟨w.heap.size, 0, none⟩ = some (.int .i64 t) := (box_cells hT3.hb).1 0
      have b1 : w3.cell? ⟨w.heap.size, 1, none⟩ = some (.slice x n c) := (box_cells hT3.hb).1 1
      have a0 : w3.cell? ⟨w.heap.size + 1, 0, none⟩ = some (.int .i64 a) := (box_cells hT3.hp).1 0
      have a1 : w3.cell? ⟨w.heap.size + 1, 1, none⟩ = some (.int .i64 l) := (box_cells hT3.hp).1 1
      have s0 : w3.cell? ⟨w.heap.size + 2, 0, none⟩ = some (.int .i64 0) := (box_cells hT3.hs).1 0
      have s1 : w3.cell? ⟨w.heap.size + 2, 1, none⟩ = some (.slice none 0 0) := (box_cells hT3.hs).1 1
      have zs0 : w3.frozen? ⟨w.heap.size + 2, 0, none⟩ = false := (box_cells hT3.hs).2 0
      have zs1 : w3.frozen? ⟨w.heap.size + 2, 1, none⟩ = false := (box_cells hT3.hs).2 1
      go_wp2
      refine bodyPost_ret (v := .tuple #[.agg #[.int .i64 0, .slice none 0 0], .int .i64 5]) (by simp [results, Tryz.results16, go_sem, s0, s1]) rfl ?_
      exact BkPost.err hne.out ((hT3.below.setCell (p := ⟨w.heap.size + 2, 0, none⟩) (Nat.le_add_right _ _) _).setCell (p := ⟨w.heap.size + 2, 1, none⟩) (Nat.le_add_right _ _) _)
    | true =>
      rw [hh] at hla
      have hE0 : Hid (giveE t ps id a l = 0) := hE1.out.trans (by rw [hh]; rfl)
      have hat : ¬ atId ps id < 0 := fun h => by
        unfold hasB at hh
        rw [if_pos h] at hh
        cases hh
      obtain ⟨i, hi, hati, -⟩ := atId_range hat
      have hcp := chk_pool hc0 i hi
      have hip : Hid (i < ps.length) := hi
      rw [hpl.out] at hi
      have hto : Hid ((atId ps id).toNat = i) := by unfold Hid; rw [hati]; rfl
      go_wp2_with fail
      refine hla.mono ?_
      rintro e w2 ⟨f, rfl, hb2⟩
      have hT2 := hT1.later hb2
      clear b0 b1 a0 a1 s0 s1 zs0 zs1 hb2 hla hh hat
      go_upto_region 5 with fail
      have hT3 := hT2.later (bl1 w2 (leO f))
      rw [show w2.alloc (.cells #[.int .i64 f.a, .int .i64 f.l, .int .i64 f.kd, .int .i64 f.ow, .int .i64 f.un] 55) = w2.alloc (leO f) from rfl]
      generalize w2.alloc (leO f) = w3 at hT3 ⊢
      have b0 : w3.cell? ⟨w.heap.size, 0, none⟩ = some (.int .i64 t) := (box_cells hT3.hb).1 0
      have b1 : w3.cell? ⟨w.heap.size, 1, none⟩ = some (.slice x n c) := (box_cells hT3.hb).1 1
      have a0 : w3.cell? ⟨w.heap.size + 1, 0, none⟩ = some (.int .i64 a) := (box_cells hT3.hp).1 0
      have a1 : w3.cell? ⟨w.heap.size + 1, 1, none⟩ = some (.int .i64 l) := (box_cells hT3.hp).1 1
      have s0 : w3.cell? ⟨w.heap.size + 2, 0, none⟩ = some (.int .i64 0) := (box_cells hT3.hs).1 0
      have s1 : w3.cell? ⟨w.heap.size + 2, 1, none⟩ = some (.slice none 0 0) := (box_cells hT3.hs).1 1
      have zs0 : w3.frozen? ⟨w.heap.size + 2, 0, none⟩ = false := (box_cells hT3.hs).2 0
      have zs1 : w3.frozen? ⟨w.heap.size + 2, 1, none⟩ = false := (box_cells hT3.hs).2 1
      go_wp2_with fail
      refine (ownBook_any t x n c ps w3 (hk.later hT3.below) (by omega)).mono ?_
      rintro e w5 ⟨v5, qs, rfl, hs, hOB, hb5⟩
      have hql : i < qs.length := by rw [← hs.1]; exact hip.out
      rcases hOB.row.2 with ⟨-, h0⟩ | ⟨g, cap, cur, rfl, hg1, hg2, -⟩
      · omega
      clear b0 b1 a0 a1 s0 s1 zs0 zs1
      go_upto_region 8 with fail
      obtain ⟨w6, hw6⟩ : ∃ w6, w6 = w5.alloc (bkV t (.slice (some ⟨g, 0, none⟩) qs.length cap)) := ⟨_, rfl⟩
      rw [← hw6]
      have hB6 : Below w3.heap.size w3 w6 := by rw [hw6]; exact hb5.trans ((bl1 _ _).mono hb5.size)
      have hT6 := hT3.later hB6
      have hn6 : w6.heap[w5.heap.size]? = some (bkV t (.slice (some ⟨g, 0, none⟩) qs.length cap)) := by rw [hw6]; exact heap_new _ rfl
      have hOB6 : OBk w6 w3.heap.size (.slice (some ⟨g, 0, none⟩) qs.length cap) qs qs.length := by rw [hw6]; exact hOB.later (bl1 _ _)
      have hs6 : w3.heap.size ≤ w6.heap.size := hB6.size
      have hk6 := hk.later hT6.below
      have hsz3 : w.heap.size + 2 < w3.heap.size := (Array.getElem?_eq_some_iff.1 hT3.hs).1
      clear hw6 hOB hb5 hg2 hB6
      generalize w5.heap.size = ko at hn6 ⊢
      obtain ⟨-, -, -, -, -, -, -, hqc, hqn, -⟩ := hs.2 i hip.out
      have b0 : w6.cell? ⟨w.heap.size, 0, none⟩ = some (.int .i64 t) := (box_cells hT6.hb).1 0
      have b1 : w6.cell? ⟨w.heap.size, 1, none⟩ = some (.slice x n c) := (box_cells hT6.hb).1 1
      have a0 : w6.cell? ⟨w.heap.size + 1, 0, none⟩ = some (.int .i64 a) := (box_cells hT6.hp).1 0
      have a1 : w6.cell? ⟨w.heap.size + 1, 1, none⟩ = some (.int .i64 l) := (box_cells hT6.hp).1 1
      have s0 : w6.cell? ⟨w.heap.size + 2, 0, none⟩ = some (.int .i64 0) := (box_cells hT6.hs).1 0
      have s1 : w6.cell? ⟨w.heap.size + 2, 1, none⟩ = some (.slice none 0 0) := (box_cells hT6.hs).1 1
      have zs0 : w6.frozen? ⟨w.heap.size + 2, 0, none⟩ = false := (box_cells hT6.hs).2 0
      have zs1 : w6.frozen? ⟨w.heap.size + 2, 1, none⟩ = false := (box_cells hT6.hs).2 1
      have g0 := Ws.here b0
      have g1 := Ws.here b1
      have h0 := Ws.here a0
      have h1 := Ws.here a1
      have hpc := fun (W : World) (hW : Bk W x n c ps) => poolAt_any t id x n c ps W hW.ps (by omega)
      rw [hati] at hpc
      refine wp_region_tail w6.heap.size 4 (by kernel_rfl) (by kernel_rfl) ?_
      simp only [List.take_succ_cons, List.take_zero, List.drop_succ_cons, List.drop_zero]
      repeat (go_big_quiet_step ((go_at_call 27; exact Calls.in_ws (Nat.le_refl _) (hpc _ (hk6.later (Ws.property _))))))
      refine wpQuiet_nil ?_
      intro uu
      have hBu := uu.property
      generalize uu.val = wu at hBu ⊢
      clear uu g0 g1 h0 h1 hpc b0 b1 a0 a1 s0 s1 zs0 zs1
      have hOBu := hOB6.later hBu
      have hnu := heap_later hBu hn6
      have hsu : w3.heap.size ≤ wu.heap.size := Nat.le_trans hs6 hBu.size
      go_wp2_with fail
      refine (back_any w3.heap.size ko g qs.length cap qs i t a l wu hnu hOBu hql (by omega) hsu ht0 ht1 (by omega) (by omega)).mono ?_
      rintro e w9 ⟨rfl, x', c', hOB9, hK9⟩
      have hT9 := (hT6.later hBu).kept hK9 hT3.below.size
      have hn9 := hK9.box _ _ _ hnu (by decide) (by decide)
      have m0 : w9.cell? ⟨ko, 0, none⟩ = some (.int .i64 t) := (box_cells hn9).1 0
      have m1 : w9.cell? ⟨ko, 1, none⟩ = some (.slice (some ⟨g, 0, none⟩) qs.length cap) := (box_cells hn9).1 1
      have b0 : w9.cell? ⟨w.heap.size, 0, none⟩ = some (.int .i64 t) := (box_cells hT9.hb).1 0
      have b1 : w9.cell? ⟨w.heap.size, 1, none⟩ = some (.slice x n c) := (box_cells hT9.hb).1 1
      have a0 : w9.cell? ⟨w.heap.size + 1, 0, none⟩ = some (.int .i64 a) := (box_cells hT9.hp).1 0
      have a1 : w9.cell? ⟨w.heap.size + 1, 1, none⟩ = some (.int .i64 l) := (box_cells hT9.hp).1 1
      have s0 : w9.cell? ⟨w.heap.size + 2, 0, none⟩ = some (.int .i64 0) := (box_cells hT9.hs).1 0
      have s1 : w9.cell? ⟨w.heap.size + 2, 1, none⟩ = some (.slice none 0 0) := (box_cells hT9.hs).1 1
      have zs0 : w9.frozen? ⟨w.heap.size + 2, 0, none⟩ = false := (box_cells hT9.hs).2 0
      have zs1 : w9.frozen? ⟨w.heap.size + 2, 1, none⟩ = false := (box_cells hT9.hs).2 1
      go_wp2
      refine bodyPost_ret (v := .tuple #[.agg #[.int .i64 t, .slice (some ⟨g, 0, none⟩) qs.length cap], .int .i64 0]) (by simp [results, Tryz.results16, go_sem, s0, s1]) rfl ?_
      have hfin := (hT9.below.setCell (p := ⟨w.heap.size + 2, 0, none⟩) (Nat.le_add_right _ _) (.int .i64 t)).setCell (p := ⟨w.heap.size + 2, 1, none⟩) (Nat.le_add_right _ _) (.slice (some ⟨g, 0, none⟩) qs.length cap)
      have hob := ((hOB9.put (o := 0) (u := .int .i64 t) hsz3).put (o := 1) (u := .slice (some ⟨g, 0, none⟩) qs.length cap) hsz3).low hT3.below.size
      refine ⟨_, _, t, by rw [hE0.out], hfin, hob, fun h => absurd hE0.out h, fun _ => ⟨rfl, ?_⟩⟩
      rw [hto.out]
      refine ⟨qs, x', c', hs, ?_⟩
      rw [backL_same (hs.2 i hip.out)]
  · have hne : Hid (giveE t ps id a l = chkB t ps ∧ chkB t ps ≠ 0) := ⟨if_pos hc0, hc0⟩
    go_wp2_with fail
    refine hck.mono ?_
    rintro e w1 ⟨rfl, hb1⟩
    have hT1 := hT0.later hb1
    clear b0 b1 a0 a1 s0 s1 zs0 zs1 hck hb1
    have b0 : w1.cell? ⟨w.heap.size, 0, none⟩ = some (.int .i64 t) := (box_cells hT1.hb).1 0
    have b1 : w1.cell? ⟨w.heap.size, 1, none⟩ = some (.slice x n c) := (box_cells hT1.hb).1 1
    have a0 : w1.cell? ⟨w.heap.size + 1, 0, none⟩ = some (.int .i64 a) := (box_cells hT1.hp).1 0
    have a1 : w1.cell? ⟨w.heap.size + 1, 1, none⟩ = some (.int .i64 l) := (box_cells hT1.hp).1 1
    have s0 : w1.cell? ⟨w.heap.size + 2, 0, none⟩ = some (.int .i64 0) := (box_cells hT1.hs).1 0
    have s1 : w1.cell? ⟨w.heap.size + 2, 1, none⟩ = some (.slice none 0 0) := (box_cells hT1.hs).1 1
    have zs0 : w1.frozen? ⟨w.heap.size + 2, 0, none⟩ = false := (box_cells hT1.hs).2 0
    have zs1 : w1.frozen? ⟨w.heap.size + 2, 1, none⟩ = false := (box_cells hT1.hs).2 1
    go_wp2
    refine bodyPost_ret (v := .tuple #[.agg #[.int .i64 0, .slice none 0 0], .int .i64 (chkB t ps)]) (by simp [results, Tryz.results16, go_sem, s0, s1]) rfl ?_
    exact BkPost.err hne.out ((hT1.below.setCell (p := ⟨w.heap.size + 2, 0, none⟩) (Nat.le_add_right _ _) _).setCell (p := ⟨w.heap.size + 2, 1, none⟩) (Nat.le_add_right _ _) _)
end Go.Proofs.YtpdoonkhnabfjaaGreat
/- What PoolTakes comes to: it answers true. -/
namespace Go.Proofs.YtpdoonkhnabfjaaGreat
open Go.RowKit Go.Shelf

theorem PutLe.one {e : Le} {ls l1 l2 : List Le} (h1 : PutLe e ls l1) (h2 : PutLe e ls l2) : l1 = l2 := by
  obtain ⟨i, hi, a1, a2, rfl⟩ := h1
  obtain ⟨j, hj, b1, b2, rfl⟩ := h2
  rcases Nat.lt_trichotomy i j with h | h | h
  · exact absurd (a2 (by omega)) (b1 i h)
  · rw [h]
  · exact absurd (b2 (by omega)) (a1 j h)
theorem take_ok {t : Int} {ps : List Po} {id z ow : Int} (h : takeE t ps id z ow = 0) : chkB t ps = 0 ∧ (atId ps id).toNat < ps.length := by
  unfold takeE at h
  by_cases h1 : chkB t ps = 0
  · rw [if_neg (by simp [h1])] at h
    by_cases h2 : atId ps id < 0
    · rw [if_pos h2] at h; cases h
    · obtain ⟨i, hi, he, -⟩ := atId_range h2
      exact ⟨h1, by rw [he, Int.toNat_natCast]; exact hi⟩
  · rw [if_pos h1] at h; exact absurd h h1
def TakeR (t : Int) (ps : List Po) (id z ow : Int) (t' a l : Int) (rs : List Po) : Prop :=
  t' = t ∧ (a, l) = pfitO (poAt ps (atId ps id).toNat) (sizeZ (poAt ps (atId ps id).toNat) z) ∧
      ∃ qs x' c' ls', sameB ps qs ∧ PutLe ⟨a, l, 1, ow, 0⟩ (poAt ps (atId ps id).toNat).ls ls' ∧ rs = qs.set (atId ps id).toNat (withL (poAt qs (atId ps id).toNat) x' ls'.length c' ls')
theorem twin_take {W : World} {b b' : Nat} {t t1 t2 a1 l1 a2 l2 id z ow : Int} {v1 v2 : Value} {ps rs1 rs2 : List Po} (hF : Full ps) (o1 : OBk W b v1 rs1 rs1.length) (o2 : OBk W b' v2 rs2 rs2.length)
    (z1 : takeE t ps id z ow ≠ 0 → t1 = 0 ∧ rs1 = [] ∧ a1 = 0 ∧ l1 = 0) (z2 : takeE t ps id z ow ≠ 0 → t2 = 0 ∧ rs2 = [] ∧ a2 = 0 ∧ l2 = 0) (r1 : takeE t ps id z ow = 0 → TakeR t ps id z ow t1 a1 l1 rs1) (r2 : takeE t ps id z ow = 0 → TakeR t ps id z ow t2 a2 l2 rs2) : a1 = a2 ∧ l1 = l2 ∧ Twin W t1 t2 v1 v2 := by
  by_cases h : takeE t ps id z ow = 0
  · obtain ⟨hc, hi⟩ := take_ok h
    obtain ⟨e1, p1, q1, x1, c1, m1, s1, u1, rfl⟩ := r1 h
    obtain ⟨e2, p2, q2, x2, c2, m2, s2, u2, rfl⟩ := r2 h
    have hp := p1.trans p2.symm
    simp only [Prod.mk.injEq] at hp
    obtain ⟨rfl, rfl⟩ := hp
    obtain rfl := PutLe.one u1 u2
    have hi1 : (atId ps id).toNat < q1.length := by rw [← s1.1]; exact hi
    have hm := (chk_small hc).same s1
    refine ⟨rfl, rfl, Twin.of (e1.trans e2.symm) o1 o2 ((s1.symm.trans s2).set2 hi1 ((s1.2 _ hi).symm.trans (s2.2 _ hi)).withL) ⟨by rw [List.length_set]; exact hm.1, fun q hq => ?_⟩⟩
    rw [List.length_set] at hq
    rw [poAt_set hi1]
    split
    · show m1.length ≤ 1048576
      have h1 := u1.len
      rw [hF _ hi] at h1
      have h2 := (chk_pool hc _ hi).1
      omega
    · exact hm.2 q hq
  · obtain ⟨e1, rfl, rfl, rfl⟩ := z1 h
    obtain ⟨e2, rfl, rfl, rfl⟩ := z2 h
    exact ⟨rfl, rfl, Twin.of (e1.trans e2.symm) o1 o2 (sameB.refl _) Small.nil⟩
theorem twin_give {W : World} {b b' : Nat} {t t1 t2 id a l : Int} {v1 v2 : Value} {ps rs1 rs2 : List Po} (hF : Full ps) (o1 : OBk W b v1 rs1 rs1.length) (o2 : OBk W b' v2 rs2 rs2.length)
    (z1 : giveE t ps id a l ≠ 0 → t1 = 0 ∧ rs1 = [] ∧ v1 = .slice none 0 0) (z2 : giveE t ps id a l ≠ 0 → t2 = 0 ∧ rs2 = [] ∧ v2 = .slice none 0 0) (r1 : giveE t ps id a l = 0 → GiveR t ps id a l t1 rs1) (r2 : giveE t ps id a l = 0 → Give2R t ps id a l t2 rs2) : Twin W t1 t2 v1 v2 := by
  by_cases h : giveE t ps id a l = 0
  · obtain ⟨hc, i, j, hi, hat, hj, hfj, hkd, hja, hjl⟩ := give_ok h
    obtain ⟨e1, f1⟩ := r1 h
    obtain ⟨e2, f2⟩ := r2 h
    rw [hat, Int.toNat_natCast] at f1 f2
    rw [hfj, Int.toNat_natCast] at f1
    have hsm := (Small.cool hc hF hi hj f1).1
    obtain ⟨q1, x1, c1, s1, rfl⟩ := f1
    obtain ⟨q2, x2, c2, s2, rfl⟩ := f2
    have hcb := back_cools (t := t) (used_mem hc i hi) (by rw [hF i hi]; exact hj) hja hjl
    rw [hcb] at o2
    exact Twin.of (e1.trans e2.symm) o1 o2 ((s1.symm.trans s2).set2 (by rw [← s1.1]; exact hi) ((s1.2 i hi).symm.trans (s2.2 i hi)).withL) hsm
  · obtain ⟨e1, rfl, rfl⟩ := z1 h
    obtain ⟨e2, rfl, rfl⟩ := z2 h
    exact Twin.of (e1.trans e2.symm) o1 o2 (sameB.refl _) Small.nil

set_option maxRecDepth 100000 in
set_option maxHeartbeats 3200000 in
theorem poolTakes_any (t : Int) (x : Option Addr) (n c : Nat) (ps : List Po) (id z ow a l : Int) (w : World) (hk : Bk w x n c ps) :
    Calls Tryz.prog 4 #[.agg #[.int .i64 t, .slice x n c], .int .i64 id, .int .i64 z, .int .i64 ow, .agg #[.int .i64 a, .int .i64 l]] w fun e w' => e = .returned (.bool true) ∧ Below w.heap.size w w' := by
  have hF : Hid (Full ps) := hk.full
  obtain ⟨E, hE⟩ : ∃ E, Hid (E = takeE t ps id z ow) := ⟨_, rfl⟩
  obtain ⟨P, hP⟩ : ∃ P, Hid (P = giveE t ps id a l) := ⟨_, rfl⟩
  go_enter Tryz.func4, Tryz.ntmps4
  go_upto_region 1 with fail
  obtain ⟨w0, hw0⟩ : ∃ w0, w0 = (w.alloc (bkV t (.slice x n c))).alloc (.cells #[.int .i64 a, .int .i64 l] 26) := ⟨_, rfl⟩
  rw [← hw0]
  have hC0 : TF w w0 t a l (.slice x n c) := by
    rw [hw0]
    exact ⟨heap_old _ (heap_new _ rfl), heap_new _ (by simp), bl2 w _ _⟩
  clear hw0
  have b0 : w0.cell? ⟨w.heap.size, 0, none⟩ = some (.int .i64 t) := (box_cells hC0.hb).1 0
  have b1 : w0.cell? ⟨w.heap.size, 1, none⟩ = some (.slice x n c) := (box_cells hC0.hb).1 1
  have h0 : w0.cell? ⟨w.heap.size + 1, 0, none⟩ = some (.int .i64 a) := (box_cells hC0.hp).1 0
  have h1 : w0.cell? ⟨w.heap.size + 1, 1, none⟩ = some (.int .i64 l) := (box_cells hC0.hp).1 1
  go_wp2_with fail
  refine (take_any t x n c ps id z ow w0 (hk.later hC0.below)).mono ?_
  rintro e w1 ⟨v1, rs1, t1, A1, L1, rfl, hb1, ho1, z1, r1⟩
  rw [← hE.out]
  obtain ⟨x1, c1, rfl⟩ := ho1.val rfl
  have hC1 := hC0.later hb1
  have z1' := hid_mk z1
  have r1' := hid_mk r1
  clear b0 b1 h0 h1 z1 r1
  go_upto_region 2 with fail
  obtain ⟨w2, hw2⟩ : ∃ w2, w2 = (w1.alloc (bkV t1 (.slice x1 rs1.length c1))).alloc (.cells #[.int .i64 A1, .int .i64 L1] 26) := ⟨_, rfl⟩
  rw [show (w1.alloc (.cells #[.int .i64 t1, .slice x1 rs1.length c1] 24)).alloc (.cells #[.int .i64 A1, .int .i64 L1] 26) = w2 from hw2.symm]
  have hn1 : Below w1.heap.size w1 w2 := by rw [hw2]; exact bl2 _ _ _
  have hv1 : w2.heap[w1.heap.size]? = some (bkV t1 (.slice x1 rs1.length c1)) := by rw [hw2]; exact heap_old _ (heap_new _ rfl)
  have hq1 : w2.heap[w1.heap.size + 1]? = some (.cells #[.int .i64 A1, .int .i64 L1] 26) := by rw [hw2]; exact heap_new _ (by simp)
  have hC2 : TF w w2 t a l (.slice x n c) := hC1.later hn1
  have ho1' := ho1.later hn1
  generalize w1.heap.size = k1 at hv1 hq1 ⊢
  clear hw2 hC1 hC0 ho1 hb1 hn1
  have b0 : w2.cell? ⟨w.heap.size, 0, none⟩ = some (.int .i64 t) := (box_cells hC2.hb).1 0
  have b1 : w2.cell? ⟨w.heap.size, 1, none⟩ = some (.slice x n c) := (box_cells hC2.hb).1 1
  have h0 : w2.cell? ⟨w.heap.size + 1, 0, none⟩ = some (.int .i64 a) := (box_cells hC2.hp).1 0
  have h1 : w2.cell? ⟨w.heap.size + 1, 1, none⟩ = some (.int .i64 l) := (box_cells hC2.hp).1 1
  go_wp2_with fail
  refine (give_any t x n c ps id a l w2 (hk.later hC2.below)).mono ?_
  rintro e w3 ⟨v2, rs2, t2, rfl, hb2, ho2, z2, r2⟩
  rw [← hP.out]
  obtain ⟨x2, c2, rfl⟩ := ho2.val rfl
  have hC3 := hC2.later hb2
  have z2' := hid_mk z2
  have r2' := hid_mk r2
  clear b0 b1 h0 h1 z2 r2
  go_upto_region 3 with fail
  obtain ⟨w4, hw4⟩ : ∃ w4, w4 = w3.alloc (bkV t2 (.slice x2 rs2.length c2)) := ⟨_, rfl⟩
  rw [show w3.alloc (.cells #[.int .i64 t2, .slice x2 rs2.length c2] 24) = w4 from hw4.symm]
  have hn2 : Below w3.heap.size w3 w4 := by rw [hw4]; exact bl1 _ _
  have hv2 : w4.heap[w3.heap.size]? = some (bkV t2 (.slice x2 rs2.length c2)) := by rw [hw4]; exact heap_new _ rfl
  have hC4 : TF w w4 t a l (.slice x n c) := hC3.later hn2
  have ho2' := ho2.later hn2
  generalize w3.heap.size = k2 at hv2 ⊢
  have hv1 := heap_later (hb2.trans (hn2.mono hb2.size)) hv1
  have ho1' := ho1'.later (hb2.trans (hn2.mono hb2.size))
  have hq1 := heap_later (hb2.trans (hn2.mono hb2.size)) hq1
  clear hw4 hC3 hC2 ho2 hb2 hn2
  have b0 : w4.cell? ⟨w.heap.size, 0, none⟩ = some (.int .i64 t) := (box_cells hC4.hb).1 0
  have b1 : w4.cell? ⟨w.heap.size, 1, none⟩ = some (.slice x n c) := (box_cells hC4.hb).1 1
  have h0 : w4.cell? ⟨w.heap.size + 1, 0, none⟩ = some (.int .i64 a) := (box_cells hC4.hp).1 0
  have h1 : w4.cell? ⟨w.heap.size + 1, 1, none⟩ = some (.int .i64 l) := (box_cells hC4.hp).1 1
  go_wp2_with fail
  refine (takeOf_any t x n c ps id z ow w4 (hk.later hC4.below)).mono ?_
  rintro e w5 ⟨v3, rs3, t3, A3, L3, rfl, hb3, ho3, z3, r3⟩
  rw [← hE.out]
  obtain ⟨x3, c3, rfl⟩ := ho3.val rfl
  have hC5 := hC4.later hb3
  have z3' := hid_mk z3
  have r3' := hid_mk r3
  clear b0 b1 h0 h1 z3 r3
  go_upto_region 4 with fail
  obtain ⟨w6, hw6⟩ : ∃ w6, w6 = (w5.alloc (bkV t3 (.slice x3 rs3.length c3))).alloc (.cells #[.int .i64 A3, .int .i64 L3] 26) := ⟨_, rfl⟩
  rw [show (w5.alloc (.cells #[.int .i64 t3, .slice x3 rs3.length c3] 24)).alloc (.cells #[.int .i64 A3, .int .i64 L3] 26) = w6 from hw6.symm]
  have hn3 : Below w5.heap.size w5 w6 := by rw [hw6]; exact bl2 _ _ _
  have hv3 : w6.heap[w5.heap.size]? = some (bkV t3 (.slice x3 rs3.length c3)) := by rw [hw6]; exact heap_old _ (heap_new _ rfl)
  have hq3 : w6.heap[w5.heap.size + 1]? = some (.cells #[.int .i64 A3, .int .i64 L3] 26) := by rw [hw6]; exact heap_new _ (by simp)
  have hC6 : TF w w6 t a l (.slice x n c) := hC5.later hn3
  have ho3' := ho3.later hn3
  generalize w5.heap.size = k3 at hv3 hq3 ⊢
  have hv1 := heap_later (hb3.trans (hn3.mono hb3.size)) hv1
  have ho1' := ho1'.later (hb3.trans (hn3.mono hb3.size))
  have hq1 := heap_later (hb3.trans (hn3.mono hb3.size)) hq1
  have hv2 := heap_later (hb3.trans (hn3.mono hb3.size)) hv2
  have ho2' := ho2'.later (hb3.trans (hn3.mono hb3.size))
  clear hw6 hC5 hC4 ho3 hb3 hn3
  have b0 : w6.cell? ⟨w.heap.size, 0, none⟩ = some (.int .i64 t) := (box_cells hC6.hb).1 0
  have b1 : w6.cell? ⟨w.heap.size, 1, none⟩ = some (.slice x n c) := (box_cells hC6.hb).1 1
  have h0 : w6.cell? ⟨w.heap.size + 1, 0, none⟩ = some (.int .i64 a) := (box_cells hC6.hp).1 0
  have h1 : w6.cell? ⟨w.heap.size + 1, 1, none⟩ = some (.int .i64 l) := (box_cells hC6.hp).1 1
  go_wp2_with fail
  refine (giveOf_any t x n c ps id a l w6 (hk.later hC6.below)).mono ?_
  rintro e w7 ⟨v4, rs4, t4, rfl, hb4, ho4, z4, r4⟩
  rw [← hP.out]
  obtain ⟨x4, c4, rfl⟩ := ho4.val rfl
  have hC7 := hC6.later hb4
  have z4' := hid_mk z4
  have r4' := hid_mk r4
  clear b0 b1 h0 h1 z4 r4
  go_upto_region 5 with fail
  obtain ⟨w8, hw8⟩ : ∃ w8, w8 = w7.alloc (bkV t4 (.slice x4 rs4.length c4)) := ⟨_, rfl⟩
  rw [show w7.alloc (.cells #[.int .i64 t4, .slice x4 rs4.length c4] 24) = w8 from hw8.symm]
  have hn4 : Below w7.heap.size w7 w8 := by rw [hw8]; exact bl1 _ _
  have hv4 : w8.heap[w7.heap.size]? = some (bkV t4 (.slice x4 rs4.length c4)) := by rw [hw8]; exact heap_new _ rfl
  have hC8 : TF w w8 t a l (.slice x n c) := hC7.later hn4
  have ho4' := ho4.later hn4
  generalize w7.heap.size = k4 at hv4 ⊢
  have hv1 := heap_later (hb4.trans (hn4.mono hb4.size)) hv1
  have ho1' := ho1'.later (hb4.trans (hn4.mono hb4.size))
  have hq1 := heap_later (hb4.trans (hn4.mono hb4.size)) hq1
  have hv2 := heap_later (hb4.trans (hn4.mono hb4.size)) hv2
  have ho2' := ho2'.later (hb4.trans (hn4.mono hb4.size))
  have hv3 := heap_later (hb4.trans (hn4.mono hb4.size)) hv3
  have ho3' := ho3'.later (hb4.trans (hn4.mono hb4.size))
  have hq3 := heap_later (hb4.trans (hn4.mono hb4.size)) hq3
  clear hw8 hC7 hC6 ho4 hb4 hn4
  obtain ⟨hA, hL, tw1⟩ : A1 = A3 ∧ L1 = L3 ∧ Twin w8 t1 t3 (.slice x1 rs1.length c1) (.slice x3 rs3.length c3) := twin_take hF.out ho1' ho3' z1'.out z3'.out r1'.out r3'.out
  have tw2 : Twin w8 t2 t4 (.slice x2 rs2.length c2) (.slice x4 rs4.length c4) := twin_give hF.out ho2' ho4' z2'.out z4'.out r2'.out r4'.out
  clear ho1' ho2' ho3' ho4' z1' z2' z3' z4' r1' r2' r3' r4' hE hP hF
  subst hA hL
  go_wp2_with fail
  refine (poolBegun_any _).mono ?_
  rintro e w9 ⟨rfl, hb9⟩
  have hC9 := hC8.later hb9
  have tw1' := tw1.later hb9
  have tw2' := tw2.later hb9
  have hv1 := heap_later hb9 hv1
  have hv2 := heap_later hb9 hv2
  have hv3 := heap_later hb9 hv3
  have hv4 := heap_later hb9 hv4
  have hq1 := heap_later hb9 hq1
  have hq3 := heap_later hb9 hq3
  clear hb9 hC8 tw1 tw2
  have a0 : w9.cell? ⟨k1, 0, none⟩ = some (.int .i64 t1) := (box_cells hv1).1 0
  have a1 : w9.cell? ⟨k1, 1, none⟩ = some (.slice x1 rs1.length c1) := (box_cells hv1).1 1
  have d0 : w9.cell? ⟨k3, 0, none⟩ = some (.int .i64 t3) := (box_cells hv3).1 0
  have d1 : w9.cell? ⟨k3, 1, none⟩ = some (.slice x3 rs3.length c3) := (box_cells hv3).1 1
  have f0 : w9.cell? ⟨k1 + 1, 0, none⟩ = some (.int .i64 A1) := (box_cells hq1).1 0
  have f1 : w9.cell? ⟨k1 + 1, 1, none⟩ = some (.int .i64 L1) := (box_cells hq1).1 1
  have g0 : w9.cell? ⟨k3 + 1, 0, none⟩ = some (.int .i64 A1) := (box_cells hq3).1 0
  have g1 : w9.cell? ⟨k3 + 1, 1, none⟩ = some (.int .i64 L1) := (box_cells hq3).1 1
  go_wp2_with fail
  refine (sameBooks_twin tw1').mono ?_
  rintro e wa ⟨rfl, hba⟩
  have hCa := hC9.later hba
  have tw2'' := tw2'.later hba
  have hv2 := heap_later hba hv2
  have hv4 := heap_later hba hv4
  clear a0 a1 d0 d1 f0 f1 g0 g1 tw1' tw2' hba hC9
  have a0 : wa.cell? ⟨k2, 0, none⟩ = some (.int .i64 t2) := (box_cells hv2).1 0
  have a1 : wa.cell? ⟨k2, 1, none⟩ = some (.slice x2 rs2.length c2) := (box_cells hv2).1 1
  have d0 : wa.cell? ⟨k4, 0, none⟩ = some (.int .i64 t4) := (box_cells hv4).1 0
  have d1 : wa.cell? ⟨k4, 1, none⟩ = some (.slice x4 rs4.length c4) := (box_cells hv4).1 1
  go_wp2_with fail
  refine (sameBooks_twin tw2'').mono ?_
  rintro e wb ⟨rfl, hbb⟩
  have hCb := hCa.later hbb
  clear a0 a1 d0 d1 tw2'' hbb
  go_wp2
  go_ret
  exact ⟨rfl, hCb.below⟩
end Go.Proofs.YtpdoonkhnabfjaaGreat
