/- A law of my own: a region that draws its order: plain operations, one call that need not be quiet, and behind all of these a tail. -/
import Derived.Test.YtpdoonkhnabfjaaGreatMO16
import Derived.OrdersHeld
import Derived.Test.YtpdoonkhnabfjaaGreatMO14
import Derived.Laws.AppendOwnNone
import Derived.Test.YtpdoonkhnabfjaaGreatMO15
import Derived.Deep.RegionHeld3
import Derived.Deep.DeepAppendRoom
import Derived.Test.YtpdoonkhnabfjaaGreatMO12
namespace Go.Proofs.YtpdoonkhnabfjaaGreat
open Go.RowKit

/-- An operation that is no call, and changes nothing. -/
def plainB (o : Oper) : Bool := match o.op with
  | .move _ | .assign _ => true
  | .load _ _ => true
  | .fieldAddr _ _ _ => true
  | .indexAddr _ _ _ => true
  | .build _ _ => true
  | _ => false
theorem andThen_value {s : Result Value} {n : Next} {w' : World} (h : (s.andThen fun x w => Result.ok (Next.value x) w) = .ok n w') : ∃ u, n = .value u := by
  cases s with
  | ok x w => simp only [Result.andThen, Result.ok.injEq] at h; exact ⟨x, h.1.symm⟩
  | halt x w => simp [Result.andThen] at h
theorem plain_run {P : Program} {o : Oper} {a : Act} {w w' : World} {n : Next} (h : plainB o = true) (hr : (execOp a.eval o).run P w = .ok n w') : ∃ u, n = .value u := by
  unfold plainB at h
  unfold execOp at hr
  split at h
  · rename_i x hop; rw [hop] at hr; simp only [Sem.run_pure, Result.ok.injEq] at hr; exact ⟨_, hr.1.symm⟩
  · rename_i x hop; rw [hop] at hr; simp only [Sem.run_pure, Result.ok.injEq] at hr; exact ⟨_, hr.1.symm⟩
  · rename_i x y hop; rw [hop] at hr; simp only [Sem.run_bind, Sem.run_pure] at hr; exact andThen_value hr
  · rename_i x y z hop; rw [hop] at hr; simp only [Sem.run_bind, Sem.run_pure] at hr; exact andThen_value hr
  · rename_i x y z hop; rw [hop] at hr; simp only [Sem.run_bind, Sem.run_pure] at hr; exact andThen_value hr
  · rename_i x y hop; rw [hop] at hr; simp only [Sem.run_bind, Sem.run_pure] at hr; exact andThen_value hr
  · cases h
theorem yieldsIf_of_in {P : Program} {ops : Array Oper} {C : World → Prop} {o : Oper} {v : Value} {a : Act} (hp : plainB o = true) (h : YieldsIn P ops C o v a) : YieldsIf P ops C o v a := by
  rcases h with ⟨h1, h2⟩ | h
  · refine .inl ⟨h1, fun w hw => ?_⟩
    have h3 := h2 w hw
    unfold Oper.quietAt at h3
    cases hr : (execOp a.eval o).run P w with
    | ok n w' =>
      rw [hr] at h3
      obtain ⟨u, rfl⟩ := plain_run hp hr
      simp only [Oper.quietUpon] at h3
      rw [h3.1, h3.2]
    | halt x w' => rw [hr] at h3; simp [Oper.quietUpon] at h3
  · exact .inr h
/-- Whatever order is picked: behind each of the first n + 1 operations S holds. -/
def wpAnyT (P : Program) (ops : Array Oper) (Q : Exit → Act → World → Prop) (S : World → Prop) (n : Nat) : Nat → Array Bool → Act → World → Prop
  | 0, listed, a, w => Region.ready .any ops listed = [] ∧ Q .normal a w
  | f + 1, listed, a, w => (Region.ready .any ops listed = [] → Q .normal a w) ∧ ∀ i ∈ Region.ready .any ops listed, wpOp P ops Q i (fun a' w' => (i ≤ n → S w') ∧ wpAnyT P ops Q S n f (listed.setIfInBounds i true) a' w') a w
theorem wpAny_of_T {P : Program} {ops : Array Oper} {Q : Exit → Act → World → Prop} {S : World → Prop} {n : Nat} : ∀ (f : Nat) (listed : Array Bool) (a : Act) (w : World), wpAnyT P ops Q S n f listed a w → wpAny P .any ops Q f listed a w
  | 0, _, _, _, h => h
  | f + 1, _, _, _, h => ⟨h.1, fun i hi => wpOp_mono (fun a' w' h' => wpAny_of_T f _ a' w' h'.2) (h.2 i hi)⟩
theorem wpAnyT_first {P : Program} {ops : Array Oper} {Q : Exit → Act → World → Prop} {S : World → Prop} {n i : Nat} {oi : Oper} {v : Value} (hi : ops[i]? = some oi) (hsel : ∀ (j : Nat) (o : Oper) cs b, ops[j]? = some o → o.op ≠ .select cs b)
    (hQ : ∀ d v c a w, Q (.panic c) (Act.put a d v) w → Q (.panic c) a w) (hw : ∀ j, n < j → j < ops.size → Region.waitsFor .any ops j i = true) :
    ∀ (f : Nat) (listed : Array Bool) (a : Act) (w : World),
      (∀ j oj, ops[j]? = some oj → j ≠ i → listed.getD j true = false → (∀ e ∈ oj.after, Region.binds .any e = true → e.on ≠ i) → oi.apart ops oj = true) →
      i ∈ Region.ready .any ops listed → YieldsIf P ops S oi v a → S w →
      wpAnyT P ops Q S n f (listed.setIfInBounds i true) (a.put oi.dst v) w → wpAnyT P ops Q S n (f + 1) listed a w := by
  intro f
  induction f with
  | zero =>
    intro listed a w _ hr hy hS H
    refine ⟨fun h => (by rw [h] at hr; cases hr), fun j hj => ?_⟩
    by_cases hji : j = i
    · subst hji; exact hy.wpOp hi hS ⟨fun _ => hS, H⟩
    · have := ready_mono hj hji
      rw [H.1] at this
      cases this
  | succ f ih =>
    intro listed a w hfree hr hy hS H
    refine ⟨fun h => (by rw [h] at hr; cases hr), fun j hj => ?_⟩
    by_cases hji : j = i
    · subst hji; exact hy.wpOp hi hS ⟨fun _ => hS, H⟩
    · have h1 := H.2 j (ready_mono hj hji)
      obtain ⟨hjun, oj, hoj, hall⟩ := mem_ready.1 hj
      have h0 := (mem_ready.1 hr).1
      have hnot : ∀ e ∈ oj.after, Region.binds .any e = true → e.on ≠ i := fun e he hb heq => by
        have h1 := hall e he hb
        rw [heq, getD_both h0] at h1
        cases h1
      have hjn : j ≤ n := Nat.le_of_not_lt fun h => by
        obtain ⟨o', ho', e, he, hb, hon⟩ := Region.waitsFor_spec (hw j h (Array.getElem?_eq_some_iff.1 hoj).1)
        have : o' = oj := Option.some.inj (ho'.symm.trans hoj)
        subst this
        exact hnot e he hb hon
      have h2 := wpOp_putIf hoj (hfree j oj hoj hji hjun hnot) (fun cs b => hsel i oi cs b hi) (fun cs b => hsel j oj cs b hoj) (fun c a w => hQ _ _ c a w) hy h1
      have hfree' : ∀ k ok, ops[k]? = some ok → k ≠ i → (listed.setIfInBounds j true).getD k true = false →
          (∀ e ∈ ok.after, Region.binds .any e = true → e.on ≠ i) → oi.apart ops ok = true := fun k ok hk hki hun hno => by
        refine hfree k ok hk hki ?_ hno
        by_cases hjk : j = k
        · subst hjk; exact hjun
        · rw [getD_set_ne true hjk] at hun; exact hun
      refine wpOp_mono (fun a' w' h3 => ⟨fun _ => h3.2.1 hjn, ih (listed.setIfInBounds j true) a' w' hfree' (ready_mono hr (Ne.symm hji)) h3.1 (h3.2.1 hjn) ?_⟩) h2
      rw [Array.setIfInBounds_comm _ _ hji]
      exact h3.2.2
theorem wpAnyT_lex {P : Program} {ops : Array Oper} {Q : Exit → Act → World → Prop} {C : World → Prop} {n g : Nat} {K : Act → Prop} {D : Array Bool} (hsel : Region.noSelect ops = true)
    (hQ : ∀ d v c a w, Q (.panic c) (Act.put a d v) w → Q (.panic c) a w) (hw : ∀ i, i < n → ∀ j, n < j → j < ops.size → Region.waitsFor .any ops j i = true) (l : List Oper)
    (hK : ∀ a w, C w → K a → wpAnyT P ops Q C n g D a w) :
    ∀ (k : Nat) (listed : Array Bool) (a : Act) (w : World), (∀ j, j < l.length → l[j]? = ops[k + j]?) → k + l.length = n → (∀ o ∈ l, plainB o = true) → lexTo .any ops l.length k listed = true → doneTo l.length k listed = D → C w → wpQuiet P ops C K l a →
      wpAnyT P ops Q C n (l.length + g) listed a w := by
  induction l with
  | nil =>
    intro k listed a w _ _ _ _ hd hC h
    subst hd
    rw [List.length_nil, Nat.zero_add]
    exact hK a w hC h
  | cons o l ih =>
    intro k listed a w hl hk hp hB hd hC h
    have h0 : ops[k]? = some o := by simpa using (hl 0 (by simp)).symm
    simp only [List.length_cons, lexTo, Bool.and_eq_true] at hB
    have hkn : k < n := by simp only [List.length_cons] at hk; omega
    have hr : k ∈ Region.ready .any ops listed := by simpa using hB.1.1
    have hq : qOp P ops C k (wpQuiet P ops C K l) a := by unfold qOp; simp only [h0]; exact h
    obtain ⟨v, hy, hKK⟩ := yieldsIn_of_qOp h0 hq
    rw [List.length_cons, show l.length + 1 + g = (l.length + g) + 1 by omega]
    refine wpAnyT_first h0 (Region.noSelect_spec hsel) hQ (hw k hkn) (l.length + g) listed a w (Region.free_spec h0 hB.1.2) hr (yieldsIf_of_in (hp o (by simp)) hy) hC ?_
    exact ih (k + 1) _ _ _ (fun j hj => by have := hl (j + 1) (by simp; omega); simpa [Nat.add_assoc, Nat.add_comm 1 j] using this) (by simp only [List.length_cons] at hk; omega) (fun o ho => hp o (by simp [ho])) hB.2 hd hC hKK
/-- Behind the call: the class still holds, and then the tail. -/
def wildQ (P : Program) (ops : Array Oper) (C : World → Prop) (tl : List Oper) (Q : Exit → Act → World → Prop) : Exit → Act → World → Prop
  | .normal, a, w => C w ∧ wpList P ops Q tl a w
  | .exit i, a, w => Q (.exit i) a w
  | .goto i, a, w => Q (.goto i) a w
  | .ret, a, w => Q .ret a w
  | .panic c, a, w => Q (.panic c) a w
  | .outgrown, a, w => Q .outgrown a w
theorem wildQ_normal {P : Program} {ops : Array Oper} {C : World → Prop} {tl : List Oper} {Q : Exit → Act → World → Prop} {a : Act} {w : World} (h1 : C w) (h2 : wpList P ops Q tl a w) : wildQ P ops C tl Q .normal a w := ⟨h1, h2⟩
theorem upon_wild {P : Program} {ops : Array Oper} {C : World → Prop} {tl : List Oper} {Q : Exit → Act → World → Prop} {o : Oper} {a : Act} {w : World} {K : Act → World → Prop} (h : o.wp P a w K (wildQ P ops C tl Q)) : o.wp P a w K Q := by
  unfold Oper.wp at *
  generalize (execOp a.eval o).run P w = r at *
  cases r with
  | ok n w' =>
    cases n <;> simp only [Oper.upon] at h ⊢ <;>
      first
        | exact h
        | exact Calls.mono h (fun e w'' he => by cases e <;> exact he)
  | halt x w' => cases x <;> simp only [Oper.upon] at h ⊢ <;> exact h
theorem wpAnyT_tail {P : Program} {ops : Array Oper} {Q : Exit → Act → World → Prop} {S : World → Prop} {n : Nat} : ∀ (l : List Oper) (k : Nat) (listed : Array Bool) (a : Act) (w : World), n < k → (∀ j, l[j]? = ops[k + j]?) →
    Region.seqB .any ops l.length k listed = true → wpList P ops Q l a w → wpAnyT P ops Q S n l.length listed a w
  | [], _, _, _, _, _, _, hB, h => ⟨by simpa [Region.seqB] using hB, h⟩
  | o :: l, k, listed, a, w, hk, hl, hB, h => by
    have h0 : ops[k]? = some o := by simpa using (hl 0).symm
    simp only [List.length_cons, Region.seqB, Bool.and_eq_true, decide_eq_true_eq] at hB
    refine ⟨fun h1 => (by rw [hB.1] at h1; cases h1), fun i hi => ?_⟩
    rw [hB.1] at hi
    have hik : i = k := by simpa using hi
    subst hik
    have hw : wpOp P ops Q i (wpList P ops Q l) a w := by unfold wpOp; simp only [h0]; exact h
    exact wpOp_mono (fun a' w' h' => ⟨fun h => absurd h (by omega), wpAnyT_tail l (i + 1) _ a' w' (by omega) (fun j => by have := hl (j + 1); simpa [Nat.add_assoc, Nat.add_comm 1 j] using this) hB.2 h'⟩) hw
def wildB (ops : Array Oper) (n : Nat) : Bool :=
  Region.noSelect ops && decide (n < ops.size) && ((List.range n).all fun i => (List.range ops.size).all fun j => decide (j ≤ n) || Region.waitsFor .any ops j i) && lexTo .any ops n 0 (Array.replicate ops.size false) &&
    decide (Region.ready .any ops (doneTo n 0 (Array.replicate ops.size false)) = [n]) && Region.seqB .any ops (ops.size - n - 1) (n + 1) ((doneTo n 0 (Array.replicate ops.size false)).setIfInBounds n true)
theorem wp_region_wild {P : Program} {id : Nat} {Q : Exit → Act → World → Prop} {a : Act} {w : World} {l : List Oper} (m n : Nat) (hm : P.follows .mixedOrders = true) (hB : wildB l.toArray n = true) (hp : (l.take n).all plainB = true)
    (hQ : ∀ d v c a w, Q (.panic c) (Act.put a d v) w → Q (.panic c) a w)
    (h : wpQuiet P l.toArray (fun w' => ∃ u : Ws m w, w' = u.val) (fun a' => ∀ u : Ws m w, wpList P l.toArray (wildQ P l.toArray (fun w' => ∃ u : Ws m w, w' = u.val) (l.drop (n + 1)) Q) ((l.drop n).take 1) a' u.val) (l.take n) a) : (Code.region id l.toArray true).wp P Q a w := by
  simp only [wildB, Bool.and_eq_true, decide_eq_true_eq] at hB
  obtain ⟨⟨⟨⟨⟨hsel, hn⟩, hw⟩, hlex⟩, hready⟩, hseq⟩ := hB
  have hn' : n < l.length := by simpa using hn
  have htl : (l.take n).length = n := by simp; omega
  have hw' : ∀ i, i < n → ∀ j, n < j → j < l.toArray.size → Region.waitsFor .any l.toArray j i = true := fun i hi j hj hjs => by
    have h1 := List.all_eq_true.1 hw i (List.mem_range.2 hi)
    have h2 := List.all_eq_true.1 h1 j (List.mem_range.2 hjs)
    simp only [Bool.or_eq_true, decide_eq_true_eq] at h2
    rcases h2 with h2 | h2
    · omega
    · exact h2
  refine wp_region_any hm ?_
  refine wpAny_of_T (S := fun w' => ∃ u : Ws m w, w' = u.val) (n := n) _ _ _ _ ?_
  have H := wpAnyT_lex (P := P) (Q := Q) (C := fun w' => ∃ u : Ws m w, w' = u.val) (n := n) (g := l.length - n - 1 + 1) (D := doneTo n 0 (Array.replicate l.toArray.size false)) hsel hQ hw' (l.take n) (K := fun a' => ∀ u : Ws m w, wpList P l.toArray (wildQ P l.toArray (fun w' => ∃ u : Ws m w, w' = u.val) (l.drop (n + 1)) Q) ((l.drop n).take 1) a' u.val) (fun a' w' hC hK => by
    obtain ⟨u, rfl⟩ := hC
    have h1 := hK u
    have hd : (l.drop n).take 1 = [l[n]] := by
      rw [List.drop_eq_getElem_cons hn']
      rfl
    rw [hd] at h1
    refine ⟨fun h => (by rw [hready] at h; cases h), fun i hi => ?_⟩
    rw [hready] at hi
    have hin : i = n := by simpa using hi
    subst hin
    have hop : l.toArray[i]? = some l[i] := by simp [hn']
    unfold wpOp
    simp only [hop]
    unfold wpList at h1
    have fin : ∀ a'' w'', wildQ P l.toArray (fun w' => ∃ u : Ws m w, w' = u.val) (l.drop (i + 1)) Q .normal a'' w'' → (i ≤ i → ∃ u : Ws m w, w'' = u.val) ∧ wpAnyT P l.toArray Q (fun w' => ∃ u : Ws m w, w' = u.val) i (l.length - i - 1) ((doneTo i 0 (Array.replicate l.toArray.size false)).setIfInBounds i true) a'' w'' := fun a'' w'' h2 => by
      refine ⟨fun _ => h2.1, ?_⟩
      have hdl : (l.drop (i + 1)).length = l.length - i - 1 := by simp; omega
      rw [← hdl]
      refine wpAnyT_tail (l.drop (i + 1)) (i + 1) _ a'' w'' (by omega) (fun j => by simp [List.getElem?_drop]) ?_ h2.2
      rw [hdl]
      simpa using hseq
    by_cases hg : Region.wanted l[i] (yielded l.toArray a'.tmps) = true
    · rw [if_pos hg] at h1 ⊢
      exact h1.imp (fun h2 => Oper.wp_mono (fun a'' w'' h3 => fin a'' w'' h3) (upon_wild h2)) (fun h => h)
    · rw [if_neg hg] at h1 ⊢
      exact fin _ _ h1) 0 (Array.replicate l.toArray.size false) a _ (fun j hj => by rw [htl] at hj; simp [hj]) (by simpa using htl) (fun o ho => List.all_eq_true.1 hp o ho) (by rw [htl]; exact hlex) (by rw [htl]) ⟨⟨_, (Below.refl m w).drew⟩, rfl⟩ h
  rw [htl, show n + (l.length - n - 1 + 1) = l.toArray.size by simp; omega] at H
  exact H
end Go.Proofs.YtpdoonkhnabfjaaGreat
/- A law of my own: a region that draws its order: plain operations taken first, one that need not be quiet, and a tail that comes behind all of these in one order. -/
namespace Go.Proofs.YtpdoonkhnabfjaaGreat
open Go.RowKit

/-- What has come up, has what it waits for ahead of it. -/
def Shut0 (ops : Array Oper) (listed : Array Bool) : Prop := ∀ j oj, ops[j]? = some oj → listed.getD j false = true → ∀ e ∈ oj.after, Region.binds .any e = true → listed.getD e.on false = true
theorem Shut0.set {ops : Array Oper} {listed : Array Bool} {i : Nat} (h : Shut0 ops listed) (hi : i ∈ Region.ready .any ops listed) : Shut0 ops (listed.setIfInBounds i true) := fun j oj hj hl e he hb => by
  obtain ⟨_, oi, hoi, hall⟩ := mem_ready.1 hi
  by_cases hij : i = j
  · subst hij
    have : oj = oi := Option.some.inj (hj.symm.trans hoi)
    subst this
    exact getD_set_true (hall e he hb)
  · rw [getD_set_ne false hij] at hl
    exact getD_set_true (h j oj hj hl e he hb)
/-- Does j wait for i, at once or by others? -/
def reachB (ops : Array Oper) : Nat → Nat → Nat → Bool
  | 0, j, i => Region.waitsFor .any ops j i
  | f + 1, j, i => Region.waitsFor .any ops j i || (List.range ops.size).any fun k => Region.waitsFor .any ops j k && reachB ops f k i
theorem reach_spec {ops : Array Oper} {listed : Array Bool} (h : Shut0 ops listed) : ∀ (f j i : Nat), reachB ops f j i = true → (∀ oj, ops[j]? = some oj → ∀ e ∈ oj.after, Region.binds .any e = true → listed.getD e.on false = true) → listed.getD i false = true
  | 0, j, i, hr, hj => by
    obtain ⟨oj, hoj, e, he, hb, hon⟩ := Region.waitsFor_spec hr
    rw [← hon]
    exact hj oj hoj e he hb
  | f + 1, j, i, hr, hj => by
    unfold reachB at hr
    rw [Bool.or_eq_true] at hr
    rcases hr with hr | hr
    · obtain ⟨oj, hoj, e, he, hb, hon⟩ := Region.waitsFor_spec hr
      rw [← hon]
      exact hj oj hoj e he hb
    · obtain ⟨k, -, hk⟩ := List.any_eq_true.1 hr
      rw [Bool.and_eq_true] at hk
      obtain ⟨oj, hoj, e, he, hb, hon⟩ := Region.waitsFor_spec hk.1
      have hkl : listed.getD k false = true := by rw [← hon]; exact hj oj hoj e he hb
      exact reach_spec h f k i hk.2 (fun ok hok => h k ok hok hkl)
/-- Whatever order is picked: behind each operation of T, S holds. -/
def wpAnyV (P : Program) (ops : Array Oper) (Q : Exit → Act → World → Prop) (S : World → Prop) (T : Nat → Bool) : Nat → Array Bool → Act → World → Prop
  | 0, listed, a, w => Region.ready .any ops listed = [] ∧ Q .normal a w
  | f + 1, listed, a, w => (Region.ready .any ops listed = [] → Q .normal a w) ∧ ∀ i ∈ Region.ready .any ops listed, wpOp P ops Q i (fun a' w' => (T i = true → S w') ∧ wpAnyV P ops Q S T f (listed.setIfInBounds i true) a' w') a w
theorem wpAny_of_V {P : Program} {ops : Array Oper} {Q : Exit → Act → World → Prop} {S : World → Prop} {T : Nat → Bool} : ∀ (f : Nat) (listed : Array Bool) (a : Act) (w : World), wpAnyV P ops Q S T f listed a w → wpAny P .any ops Q f listed a w
  | 0, _, _, _, h => h
  | f + 1, _, _, _, h => ⟨h.1, fun i hi => wpOp_mono (fun a' w' h' => wpAny_of_V f _ a' w' h'.2) (h.2 i hi)⟩
theorem wpAnyV_first {P : Program} {ops : Array Oper} {Q : Exit → Act → World → Prop} {S : World → Prop} {T : Nat → Bool} {i : Nat} {oi : Oper} {v : Value} (hi : ops[i]? = some oi) (hsel : ∀ (j : Nat) (o : Oper) cs b, ops[j]? = some o → o.op ≠ .select cs b)
    (hQ : ∀ d v c a w, Q (.panic c) (Act.put a d v) w → Q (.panic c) a w) (hw : ∀ j, T j = false → j < ops.size → reachB ops ops.size j i = true) :
    ∀ (f : Nat) (listed : Array Bool) (a : Act) (w : World), Shut0 ops listed →
      (∀ j oj, ops[j]? = some oj → j ≠ i → listed.getD j true = false → (∀ e ∈ oj.after, Region.binds .any e = true → e.on ≠ i) → oi.apart ops oj = true) →
      i ∈ Region.ready .any ops listed → YieldsIf P ops S oi v a → S w →
      wpAnyV P ops Q S T f (listed.setIfInBounds i true) (a.put oi.dst v) w → wpAnyV P ops Q S T (f + 1) listed a w := by
  intro f
  induction f with
  | zero =>
    intro listed a w _ _ hr hy hS H
    refine ⟨fun h => (by rw [h] at hr; cases hr), fun j hj => ?_⟩
    by_cases hji : j = i
    · subst hji; exact hy.wpOp hi hS ⟨fun _ => hS, H⟩
    · have := ready_mono hj hji
      rw [H.1] at this
      cases this
  | succ f ih =>
    intro listed a w hsh hfree hr hy hS H
    refine ⟨fun h => (by rw [h] at hr; cases hr), fun j hj => ?_⟩
    by_cases hji : j = i
    · subst hji; exact hy.wpOp hi hS ⟨fun _ => hS, H⟩
    · have h1 := H.2 j (ready_mono hj hji)
      obtain ⟨hjun, oj, hoj, hall⟩ := mem_ready.1 hj
      have h0 := (mem_ready.1 hr).1
      have hnot : ∀ e ∈ oj.after, Region.binds .any e = true → e.on ≠ i := fun e he hb heq => by
        have h1 := hall e he hb
        rw [heq, getD_both h0] at h1
        cases h1
      have hjT : T j = true := by
        cases hT : T j with
        | true => rfl
        | false =>
          have h2 := reach_spec hsh ops.size j i (hw j hT (Array.getElem?_eq_some_iff.1 hoj).1) (fun ok hok e he hb => by
            have : ok = oj := Option.some.inj (hok.symm.trans hoj)
            subst this
            exact hall e he hb)
          rw [getD_both h0] at h2
          cases h2
      have h2 := wpOp_putIf hoj (hfree j oj hoj hji hjun hnot) (fun cs b => hsel i oi cs b hi) (fun cs b => hsel j oj cs b hoj) (fun c a w => hQ _ _ c a w) hy h1
      have hfree' : ∀ k ok, ops[k]? = some ok → k ≠ i → (listed.setIfInBounds j true).getD k true = false →
          (∀ e ∈ ok.after, Region.binds .any e = true → e.on ≠ i) → oi.apart ops ok = true := fun k ok hk hki hun hno => by
        refine hfree k ok hk hki ?_ hno
        by_cases hjk : j = k
        · subst hjk; exact hjun
        · rw [getD_set_ne true hjk] at hun; exact hun
      refine wpOp_mono (fun a' w' h3 => ⟨fun _ => h3.2.1 hjT, ih (listed.setIfInBounds j true) a' w' (hsh.set hj) hfree' (ready_mono hr (Ne.symm hji)) h3.1 (h3.2.1 hjT) ?_⟩) h2
      rw [Array.setIfInBounds_comm _ _ hji]
      exact h3.2.2
def noOper : Oper := { dst := none, op := .move (.const (.bool false)), type := 0, pos := "", after := #[], guard := none }
def setAll (is : List Nat) (listed : Array Bool) : Array Bool := is.foldl (fun l i => l.setIfInBounds i true) listed
def lexIx (ops : Array Oper) : List Nat → Array Bool → Bool
  | [], _ => true
  | i :: is, listed => (Region.ready .any ops listed).contains i && Region.free .any ops listed i && lexIx ops is (listed.setIfInBounds i true)
def seqIx (ops : Array Oper) : List Nat → Array Bool → Bool
  | [], listed => (Region.ready .any ops listed).isEmpty
  | i :: is, listed => decide (Region.ready .any ops listed = [i]) && seqIx ops is (listed.setIfInBounds i true)
theorem getD_op {l : List Oper} {i : Nat} (h : i < l.length) : l.toArray[i]? = some (l.getD i noOper) := by
  simp [h]
theorem wpAnyV_lex {P : Program} {l : List Oper} {Q : Exit → Act → World → Prop} {C : World → Prop} {T : Nat → Bool} {g : Nat} {K : Act → Prop} {D : Array Bool} (hsel : Region.noSelect l.toArray = true)
    (hQ : ∀ d v c a w, Q (.panic c) (Act.put a d v) w → Q (.panic c) a w) (hK : ∀ listed a w, listed = D → Shut0 l.toArray listed → C w → K a → wpAnyV P l.toArray Q C T g listed a w) :
    ∀ (hs : List Nat) (listed : Array Bool) (a : Act) (w : World), (∀ i ∈ hs, i < l.length ∧ plainB (l.getD i noOper) = true ∧ ∀ j, T j = false → j < l.toArray.size → reachB l.toArray l.toArray.size j i = true) → Shut0 l.toArray listed → lexIx l.toArray hs listed = true → setAll hs listed = D → C w →
      wpQuiet P l.toArray C K (hs.map fun i => l.getD i noOper) a → wpAnyV P l.toArray Q C T (hs.length + g) listed a w
  | [], listed, a, w, _, hsh, _, hd, hC, h => by
    rw [List.length_nil, Nat.zero_add]
    exact hK listed a w hd hsh hC h
  | i :: is, listed, a, w, hh, hsh, hB, hd, hC, h => by
    obtain ⟨hil, hpl, hwt⟩ := hh i (by simp)
    have h0 := getD_op hil
    simp only [lexIx, Bool.and_eq_true] at hB
    have hr : i ∈ Region.ready .any l.toArray listed := by simpa using hB.1.1
    have hq : qOp P l.toArray C i (wpQuiet P l.toArray C K (is.map fun i => l.getD i noOper)) a := by unfold qOp; simp only [h0]; exact h
    obtain ⟨v, hy, hKK⟩ := yieldsIn_of_qOp h0 hq
    rw [List.length_cons, show is.length + 1 + g = (is.length + g) + 1 by omega]
    refine wpAnyV_first h0 (Region.noSelect_spec hsel) hQ hwt (is.length + g) listed a w hsh (Region.free_spec h0 hB.1.2) hr (yieldsIf_of_in hpl hy) hC ?_
    exact wpAnyV_lex hsel hQ hK is _ _ _ (fun k hk => hh k (by simp [hk])) (hsh.set hr) hB.2 hd hC hKK
theorem wpAnyV_tail {P : Program} {l : List Oper} {Q : Exit → Act → World → Prop} {S : World → Prop} {T : Nat → Bool} : ∀ (ts : List Nat) (listed : Array Bool) (a : Act) (w : World), (∀ i ∈ ts, i < l.length ∧ T i = false) →
    seqIx l.toArray ts listed = true → wpList P l.toArray Q (ts.map fun i => l.getD i noOper) a w → wpAnyV P l.toArray Q S T ts.length listed a w
  | [], _, _, _, _, hB, h => ⟨by simpa [seqIx] using hB, h⟩
  | i :: ts, listed, a, w, hh, hB, h => by
    obtain ⟨hil, hT⟩ := hh i (by simp)
    have h0 := getD_op hil
    simp only [seqIx, Bool.and_eq_true, decide_eq_true_eq] at hB
    refine ⟨fun h1 => (by rw [hB.1] at h1; cases h1), fun k hk => ?_⟩
    rw [hB.1] at hk
    have hik : k = i := by simpa using hk
    subst hik
    have hw : wpOp P l.toArray Q k (wpList P l.toArray Q (ts.map fun i => l.getD i noOper)) a w := by unfold wpOp; simp only [h0]; exact h
    exact wpOp_mono (fun a' w' h' => ⟨fun h => absurd h (by rw [hT]; decide), wpAnyV_tail ts _ a' w' (fun i hi => hh i (by simp [hi])) hB.2 h'⟩) hw
def ixB (l : List Oper) (hs : List Nat) (x : Nat) (ts : List Nat) : Bool :=
  Region.noSelect l.toArray && decide (hs.length + (ts.length + 1) = l.toArray.size) && (hs.all fun i => decide (i < l.length) && plainB (l.getD i noOper) && (List.range l.toArray.size).all fun j => (hs.contains j || j == x) || reachB l.toArray l.toArray.size j i) &&
    (ts.all fun i => decide (i < l.length) && !(hs.contains i || i == x)) && decide (x < l.length) && lexIx l.toArray hs (Array.replicate l.toArray.size false) && decide (Region.ready .any l.toArray (setAll hs (Array.replicate l.toArray.size false)) = [x]) &&
    seqIx l.toArray ts ((setAll hs (Array.replicate l.toArray.size false)).setIfInBounds x true)
theorem wp_region_ix {P : Program} {id : Nat} {Q : Exit → Act → World → Prop} {a : Act} {w : World} {l : List Oper} (m : Nat) (hs : List Nat) (x : Nat) (ts : List Nat) (hm : P.follows .mixedOrders = true) (hB : ixB l hs x ts = true)
    (hQ : ∀ d v c a w, Q (.panic c) (Act.put a d v) w → Q (.panic c) a w)
    (h : wpQuiet P l.toArray (fun w' => ∃ u : Ws m w, w' = u.val) (fun a' => ∀ u : Ws m w, wpList P l.toArray (wildQ P l.toArray (fun w' => ∃ u : Ws m w, w' = u.val) (ts.map fun i => l.getD i noOper) Q) [l.getD x noOper] a' u.val) (hs.map fun i => l.getD i noOper) a) : (Code.region id l.toArray true).wp P Q a w := by
  simp only [ixB, Bool.and_eq_true, decide_eq_true_eq] at hB
  obtain ⟨⟨⟨⟨⟨⟨⟨hsel, hsz⟩, hhs⟩, hts⟩, hx⟩, hlex⟩, hready⟩, hseq⟩ := hB
  have hhs' : ∀ i ∈ hs, i < l.length ∧ plainB (l.getD i noOper) = true ∧ ∀ j, (hs.contains j || j == x) = false → j < l.toArray.size → reachB l.toArray l.toArray.size j i = true := fun i hi => by
    have h1 := List.all_eq_true.1 hhs i hi
    simp only [Bool.and_eq_true, decide_eq_true_eq] at h1
    refine ⟨h1.1.1, h1.1.2, fun j hj hjs => ?_⟩
    have h2 := List.all_eq_true.1 h1.2 j (List.mem_range.2 hjs)
    rw [hj, Bool.false_or] at h2
    exact h2
  have hts' : ∀ i ∈ ts, i < l.length ∧ (hs.contains i || i == x) = false := fun i hi => by
    have h1 := List.all_eq_true.1 hts i hi
    simp only [Bool.and_eq_true, decide_eq_true_eq, Bool.not_eq_true'] at h1
    exact h1
  have sh0 : Shut0 l.toArray (Array.replicate l.toArray.size false) := fun j oj _ hl => by rw [getD_replicate_false] at hl; cases hl
  refine wp_region_any hm ?_
  refine wpAny_of_V (S := fun w' => ∃ u : Ws m w, w' = u.val) (T := fun j => hs.contains j || j == x) _ _ _ _ ?_
  have H := wpAnyV_lex (P := P) (Q := Q) (C := fun w' => ∃ u : Ws m w, w' = u.val) (T := fun j => hs.contains j || j == x) (g := ts.length + 1) (D := setAll hs (Array.replicate l.toArray.size false)) hsel hQ (K := fun a' => ∀ u : Ws m w, wpList P l.toArray (wildQ P l.toArray (fun w' => ∃ u : Ws m w, w' = u.val) (ts.map fun i => l.getD i noOper) Q) [l.getD x noOper] a' u.val) (fun listed a' w' hD hsh hC hK => by
    obtain ⟨u, rfl⟩ := hC
    subst hD
    have h1 := hK u
    refine ⟨fun h => (by rw [hready] at h; cases h), fun i hi => ?_⟩
    rw [hready] at hi
    have hin : i = x := by simpa using hi
    subst hin
    have hop := getD_op hx
    unfold wpOp
    simp only [hop]
    unfold wpList at h1
    have fin : ∀ a'' w'', wildQ P l.toArray (fun w' => ∃ u : Ws m w, w' = u.val) (ts.map fun i => l.getD i noOper) Q .normal a'' w'' → ((hs.contains i || i == i) = true → ∃ u : Ws m w, w'' = u.val) ∧ wpAnyV P l.toArray Q (fun w' => ∃ u : Ws m w, w' = u.val) (fun j => hs.contains j || j == i) ts.length ((setAll hs (Array.replicate l.toArray.size false)).setIfInBounds i true) a'' w'' := fun a'' w'' h2 => ⟨fun _ => h2.1, wpAnyV_tail ts _ a'' w'' hts' hseq h2.2⟩
    by_cases hg : Region.wanted (l.getD i noOper) (yielded l.toArray a'.tmps) = true
    · rw [if_pos hg] at h1 ⊢
      exact h1.imp (fun h2 => Oper.wp_mono (fun a'' w'' h3 => fin a'' w'' h3) (upon_wild h2)) (fun h => h)
    · rw [if_neg hg] at h1 ⊢
      exact fin _ _ h1) hs (Array.replicate l.toArray.size false) a _ hhs' sh0 hlex rfl ⟨⟨_, (Below.refl m w).drew⟩, rfl⟩ h
  rw [hsz] at H
  exact H
end Go.Proofs.YtpdoonkhnabfjaaGreat
/- What OwnBook of the reference comes to: the same book in memory of the call's own. -/
namespace Go.Proofs.YtpdoonkhnabfjaaGreat
open Go.RowKit Go.Shelf

theorem run_append_none_c {P : Program} {w : World} (base : Nat) (t ty e : TypeId) (i : TypeInfo) (size c : Nat) (ht : P.underlying t = some (.slice e)) (hi : P.info? e = some i)
    (v : Value) (n : Nat) (xs : List Value) (hown : w.ownsRow base e size v n xs) :
    (Builtin.append_ #[t, t] ty #[v, .slice none 0 c]).run P w = .ok v w := by
  rcases hown.2 with ⟨rfl, rfl⟩ | ⟨g, cap, cur, rfl, _, _, hnc, _⟩
  · simp [Builtin.append_, run_underlying ht, sizeOf, typeInfo, hi, Builtin.lenOf, Builtin.firstCells]
  · simp [Builtin.append_, run_underlying ht, sizeOf, typeInfo, hi, Builtin.lenOf, Builtin.firstCells, hnc, storeCells]
/-- append of a slice of leases, nil or not, to a row of the call's own. -/
theorem wpList_append_LL {w : World} {ops : Array Oper} {rest : List Oper} {o : Oper} {a : Act} {Q : Exit → Act → World → Prop} (hgd : o.guard = none) (s x : Operand)
    (ho : o.op = .call { callee := .builtin .append, args := #[s, x], argTypes := #[47, 47] }) (base : Nat) (v : Value) (es : List Le) (hs : a.eval s = v) (hO : OwnL w base v es)
    (ad : Option Addr) (m c : Nat) (fs : List Le) (hx : a.eval x = .slice ad m c) (hl : LS w ad m fs)
    (hlen : es.length + m ≤ 1000000000) (hbase : base ≤ w.heap.size)
    (h : ∀ v' w', OwnL w' base v' (es ++ fs) → w.grownBy w' v.ownBlock → wpList Tryz.prog ops Q rest (a.put o.dst v') w') : wpList Tryz.prog ops Q (o :: rest) a w := by
  cases ad with
  | some ad => exact wpList_append_L hgd s x ho base v es hs hO ad m c fs hx hl.len hl.flat_cells hlen hbase h
  | none =>
    obtain ⟨i0, hi, hz0, hz1, hz2⟩ := info_L'
    have h0 : m = 0 := by
      rcases Nat.eq_zero_or_pos m with h | h
      · exact h
      · obtain ⟨b, o, h, -⟩ := hl.cells 0 h
        cases h
    obtain rfl : fs = [] := List.eq_nil_of_length_eq_zero (by rw [hl.len, h0])
    subst h0
    have h1 := h v w (by rw [List.append_nil]; exact hO) ⟨rfl, rfl, rfl, Nat.le_refl _, fun _ _ _ => rfl⟩
    refine wpList_plain hgd fun K hK => ?_
    have hrun := run_append_none_c (P := Tryz.prog) (w := w) base 47 o.type 55 i0 5 c under_L hi v es.length (flatL es) hO
    unfold Oper.wp
    simp [execOp, ho, resolve, invoke, builtin, hs, hx, hrun, Result.andThen]
    exact hK _ _ h1
theorem poAt_snoc {qs : List Po} {q : Po} {j : Nat} : poAt (qs ++ [q]) j = if j < qs.length then poAt qs j else if j = qs.length then q else poZ := by
  unfold poAt
  rw [List.getD_eq_getElem?_getD, List.getD_eq_getElem?_getD]
  by_cases h : j < qs.length
  · rw [if_pos h, List.getElem?_append_left h]
  · rw [if_neg h, List.getElem?_append_right (by omega)]
    by_cases h2 : j = qs.length
    · subst h2; simp
    · rw [if_neg h2]
      have : j - qs.length ≠ 0 := by omega
      obtain ⟨m, hm⟩ : ∃ m, j - qs.length = m + 1 := ⟨j - qs.length - 1, by omega⟩
      rw [hm]
      rfl
theorem OBk.snoc {W W1 W2 : World} {base : Nat} {v v2 : Value} {qs : List Po} {q : Po} (h : OBk W base v qs qs.length) (hwb : base ≤ W.heap.size) (hb : Below W.heap.size W W1) (ho : OwnL W1 W.heap.size (.slice q.x q.n q.c) q.ls)
    (hg : W1.grownBy W2 v.ownBlock) (hr : OwnP W2 base v2 (qs ++ [q])) : OBk W2 base v2 (qs ++ [q]) (qs ++ [q]).length := by
  have hl : (qs ++ [q]).length = qs.length + 1 := by simp
  have hpool : ∀ g, v.ownBlock = some g → ∃ cur, W1.heap[g]? = some (.cells cur 49) := fun g hv => by
    have hrow := h.row.later hb
    rcases hrow.2 with ⟨rfl, -⟩ | ⟨g', cap, cur, rfl, -, h3, -⟩
    · cases hv
    · obtain rfl : g' = g := by simpa [Value.ownBlock] using hv
      exact ⟨cur, h3⟩
  have keep : ∀ {vv : Value} {b0 : Nat} {es : List Le}, OwnL W1 b0 vv es → OwnL W2 b0 vv es := fun {vv b0 es} hO => by
    refine World.ownsRow.kept hO hg ?_
    cases hv : vv.ownBlock with
    | none => exact .inl rfl
    | some k =>
      refine .inr fun e => ?_
      obtain ⟨cur, hc⟩ := hpool k e.symm
      exact hO.ne hc (by decide) hv
  refine ⟨hr, fun j hj => ?_, fun j hj hj2 => by omega, fun j k hj hk hjk b hbj hbk => ?_⟩
  · rw [poAt_snoc]
    by_cases c1 : j < qs.length
    · rw [if_pos c1]; exact keep ((h.own j c1).later hb)
    · rw [if_neg c1, if_pos (by omega)]
      exact keep (ho.low hwb)
  · rw [poAt_snoc] at hbj hbk
    by_cases c1 : j < qs.length
    · rw [if_pos c1] at hbj
      by_cases c2 : k < qs.length
      · rw [if_pos c2] at hbk
        exact h.apart j k c1 c2 hjk b hbj hbk
      · rw [if_neg c2, if_pos (by omega)] at hbk
        have h1 := ((h.own j c1).lt b hbj).2
        have h2 := (ho.lt b hbk).1
        omega
    · rw [if_neg c1, if_pos (by omega)] at hbj
      by_cases c2 : k < qs.length
      · rw [if_pos c2] at hbk
        have h1 := ((h.own k c2).lt b hbk).2
        have h2 := (ho.lt b hbj).1
        omega
      · omega
/-- The boxes: the book handed in, the result, and what is being made. -/
structure OB3 (w W : World) (t : Int) (v0 v : Value) : Prop where
  hb : W.heap[w.heap.size]? = some (bkV t v0)
  hs : W.heap[w.heap.size + 1]? = some (bkV 0 (.slice none 0 0))
  ho : W.heap[w.heap.size + 2]? = some (bkV t v)
  below : Below w.heap.size w W
theorem OB3.later {w W W' : World} {t : Int} {v0 v : Value} (h : OB3 w W t v0 v) (hb : Below W.heap.size W W') : OB3 w W' t v0 v :=
  ⟨heap_later hb h.hb, heap_later hb h.hs, heap_later hb h.ho, h.below.trans (hb.mono h.below.size)⟩
theorem OB3.kept {w W W' : World} {t : Int} {v0 v : Value} {base : Nat} (h : OB3 w W t v0 v) (hk : Kept base W W') (hb : w.heap.size ≤ base) : OB3 w W' t v0 v :=
  ⟨hk.box _ _ _ h.hb (by decide) (by decide), hk.box _ _ _ h.hs (by decide) (by decide), hk.box _ _ _ h.ho (by decide) (by decide), h.below.trans (hk.below.mono hb)⟩
theorem OB3.put {w W : World} {t : Int} {v0 v u : Value} (h : OB3 w W t v0 v) : OB3 w (W.setCell ⟨w.heap.size + 2, 1, none⟩ u) t v0 u :=
  ⟨(heap_setCell_other W ⟨w.heap.size + 2, 1, none⟩ _ u (by show w.heap.size ≠ w.heap.size + 2; omega)).trans h.hb, (heap_setCell_other W ⟨w.heap.size + 2, 1, none⟩ _ u (by show w.heap.size + 1 ≠ w.heap.size + 2; omega)).trans h.hs,
    by simpa using heap_setCell_same W (w.heap.size + 2) 1 _ 24 u h.ho, h.below.setCell (p := ⟨w.heap.size + 2, 1, none⟩) (by show w.heap.size ≤ w.heap.size + 2; omega) u⟩
theorem Kept.of_own {base : Nat} {w w' : World} {v : Value} {qs : List Po} (h : OwnP w base v qs) (hg : w.grownBy w' v.ownBlock) (hs : base ≤ w.heap.size) : Kept base w w' := by
  rcases h.2 with ⟨rfl, -⟩ | ⟨g, cap, cur, rfl, h2, h3, -⟩
  · exact Kept.of_below ⟨hg.os, hg.tape, hg.output, hg.size, fun k hk => hg.block k hk (by simp [Value.ownBlock])⟩ hs
  · exact Kept.of_grown (by simpa [Value.ownBlock] using hg) h2 hs h3 (.inl rfl)

set_option maxRecDepth 100000 in
set_option maxHeartbeats 3200000 in
theorem ownBook_any (t : Int) (x : Option Addr) (n c : Nat) (ps : List Po) (w : World) (hk : Bk w x n c ps) (hn : n ≤ 64) :
    Calls Tryz.prog 31 #[.agg #[.int .i64 t, .slice x n c]] w (FreshPost t ps w) := by
  have hpl : Hid (ps.length = n) := hk.ps.len
  go_enter Tryz.func31, Tryz.ntmps31
  go_upto_region 1 with fail
  obtain ⟨w1, hw1⟩ : ∃ w1, w1 = (w.alloc (bkV t (.slice x n c))).alloc (bkV 0 (.slice none 0 0)) := ⟨_, rfl⟩
  rw [show (w.alloc (.cells #[.int .i64 t, .slice x n c] 24)).alloc (.cells #[.int .i64 0, .slice none 0 0] 24) = w1 from hw1.symm]
  have hs1 : w1.heap.size = w.heap.size + 2 := by rw [hw1]; simp
  have hbb1 : w1.heap[w.heap.size]? = some (bkV t (.slice x n c)) := by rw [hw1]; exact heap_old _ (heap_new _ rfl)
  have hss1 : w1.heap[w.heap.size + 1]? = some (bkV 0 (.slice none 0 0)) := by rw [hw1]; exact heap_new _ (by simp)
  have hB1 : Below w.heap.size w w1 := by rw [hw1]; exact bl2 w _ _
  clear hw1
  have b0 : w1.cell? ⟨w.heap.size, 0, none⟩ = some (.int .i64 t) := (box_cells hbb1).1 0
  go_upto_region 2 with fail
  obtain ⟨w2, hw2⟩ : ∃ w2, w2 = w1.alloc (bkV t (.slice none 0 0)) := ⟨_, rfl⟩
  rw [show w1.alloc (.cells #[.int .i64 t, .slice none 0 0] 24) = w2 from hw2.symm]
  have hO2 : OB3 w w2 t (.slice x n c) (.slice none 0 0) := by
    rw [hw2]
    exact ⟨heap_old _ hbb1, heap_old _ hss1, heap_new _ (by rw [hs1]), hB1.trans ((bl1 w1 _).mono hB1.size)⟩
  have hsz2 : w.heap.size + 3 ≤ w2.heap.size := by rw [hw2]; simp; omega
  clear hw2 hbb1 hss1 hB1 b0
  go_wp2
  go_loopw [4] (fun i wr => ∃ (k : Nat) (v : Value) (qs : List Po), i = .int .i64 k ∧ k ≤ n ∧ OB3 w wr t (.slice x n c) v ∧ w.heap.size + 3 ≤ wr.heap.size ∧ OBk wr (w.heap.size + 3) v qs qs.length ∧ qs.length = k ∧ ∀ j, j < k → sameP (poAt ps j) (poAt qs j)) (fun i _ => n - (intOf i).toNat)
  case atStart => exact ⟨0, _, [], rfl, by omega, hO2, hsz2, OBk.nil _ _, rfl, fun j hj => by omega⟩
  case round =>
    clear hO2 hsz2
    obtain ⟨k, v, qs, rfl, hkn, hO, hsz, hq, hql, hsame⟩ := hrel
    have hql' : Hid (qs.length = k) := hql
    have hsame' : Hid (∀ j, j < k → sameP (poAt ps j) (poAt qs j)) := hsame
    clear hql hsame
    have b1 : wr.cell? ⟨w.heap.size, 1, none⟩ = some (.slice x n c) := (box_cells hO.hb).1 1
    by_cases hlt : k < n
    · have hkw := hk.later hO.below
      obtain ⟨b, o, rfl, c0, c1, c2, c3, c4, c5, c6, c7, c8⟩ := hkw.ps.cells k hlt
      obtain ⟨hlc, hlm, hLS⟩ := hkw.ps.leases k hlt
      have hk0 : (0 : Int) ≤ k := by omega
      have hkn2 : (k : Int) < n := by omega
      have hlth : Hid (k < n) := hlt
      clear hlt
      go_upto_region 6 with fail
      obtain ⟨w3, hw3⟩ : ∃ w3, w3 = wr.alloc (poB (poAt ps k)) := ⟨_, rfl⟩
      rw [show wr.alloc (.cells #[.int .i64 (poAt ps k).id, .int .i64 (poAt ps k).up, .int .i64 (poAt ps k).a, .int .i64 (poAt ps k).l, .int .i64 (poAt ps k).mn, .int .i64 (poAt ps k).mx, .int .i64 (poAt ps k).us, .int .i64 (poAt ps k).co, .slice (poAt ps k).x (poAt ps k).n (poAt ps k).c] 49) = w3 from hw3.symm]
      have hB3 : Below wr.heap.size wr w3 := by rw [hw3]; exact bl1 _ _
      have hv3 : w3.heap[wr.heap.size]? = some (poB (poAt ps k)) := by rw [hw3]; exact heap_new _ rfl
      have hLS3 := hLS.later hB3
      have hp3 : wr.heap.size < w3.heap.size := by rw [hw3]; simp
      clear hw3 b1 c0 c1 c2 c3 c4 c5 c6 c7 c8 hLS hkw
      have q8 : ∀ o, (w3.alloc o).cell? ⟨wr.heap.size, 8, none⟩ = some (.slice (poAt ps k).x (poAt ps k).n (poAt ps k).c) := fun o => cell_later (bl1 w3 o) ((box_cells hv3).1 8)
      go_wp2_with (at_builtin; refine Hid.out ?_)
      unfold Hid
      have hOL : OwnL (w3.alloc (.cells #[] 55)) w3.heap.size (.slice (some ⟨w3.heap.size, 0, none⟩) 0 0) [] := ⟨rfl, .inr ⟨w3.heap.size, 0, #[], rfl, Nat.le_refl _, heap_new _ rfl, by simp, by unfold maxLen; omega, by simp, rfl⟩⟩
      refine wpList_append_LL rfl _ _ rfl w3.heap.size _ [] rfl hOL (poAt ps k).x (poAt ps k).n (poAt ps k).c (poAt ps k).ls rfl (hLS3.later (bl1 w3 _)) (by simp; omega) (by simp) ?_
      intro v4 w4 hOL4 hg4
      rw [List.nil_append] at hOL4
      have hB4 : Below w3.heap.size w3 w4 := below_grownr (bl1 w3 _) hg4 (fun k e => (hOL.lt k e).1)
      obtain ⟨x4, c4, rfl, -⟩ := hOL4.mem
      have hv4 := heap_later hB4 hv3
      clear hg4 hOL q8 hv3
      have q8 : w4.cell? ⟨wr.heap.size, 8, none⟩ = some (.slice (poAt ps k).x (poAt ps k).n (poAt ps k).c) := (box_cells hv4).1 8
      have z8 : w4.frozen? ⟨wr.heap.size, 8, none⟩ = false := (box_cells hv4).2 8
      have hlen : Hid ((poAt ps k).ls.length = (poAt ps k).n) := hLS3.len
      go_upto_region 7 with fail
      obtain ⟨w5, hw5⟩ : ∃ w5, w5 = w4.setCell ⟨wr.heap.size, 8, none⟩ (.slice x4 (poAt ps k).ls.length c4) := ⟨_, rfl⟩
      rw [← hw5]
      have hB5 : Below wr.heap.size wr w5 := by
        rw [hw5]
        exact (hB3.trans (hB4.mono (Nat.le_of_lt hp3))).setCell (p := ⟨wr.heap.size, 8, none⟩) (Nat.le_refl _) _
      have hv5 : w5.heap[wr.heap.size]? = some (poB (withL (poAt ps k) x4 (poAt ps k).ls.length c4 (poAt ps k).ls)) := by
        rw [hw5]
        have := heap_setCell_same w4 wr.heap.size 8 _ 49 (.slice x4 (poAt ps k).ls.length c4) hv4
        simpa [withL] using this
      have hOL5 : OwnL w5 w3.heap.size (.slice x4 (poAt ps k).ls.length c4) (poAt ps k).ls := by
        rw [hw5]
        exact hOL4.kept (set_grown _ _ _ _) (fun q hq e => by have := (hOL4.lt q hq).1; omega)
      clear hw5 q8 z8 hv4 hOL4 hB4 hB3 hLS3
      have hO5 := hO.later hB5
      have q0 : w5.cell? ⟨wr.heap.size, 0, none⟩ = some (.int .i64 (poAt ps k).id) := (box_cells hv5).1 0
      have q1 : w5.cell? ⟨wr.heap.size, 1, none⟩ = some (.int .i64 (poAt ps k).up) := (box_cells hv5).1 1
      have q2 : w5.cell? ⟨wr.heap.size, 2, none⟩ = some (.int .i64 (poAt ps k).a) := (box_cells hv5).1 2
      have q3 : w5.cell? ⟨wr.heap.size, 3, none⟩ = some (.int .i64 (poAt ps k).l) := (box_cells hv5).1 3
      have q4 : w5.cell? ⟨wr.heap.size, 4, none⟩ = some (.int .i64 (poAt ps k).mn) := (box_cells hv5).1 4
      have q5 : w5.cell? ⟨wr.heap.size, 5, none⟩ = some (.int .i64 (poAt ps k).mx) := (box_cells hv5).1 5
      have q6 : w5.cell? ⟨wr.heap.size, 6, none⟩ = some (.int .i64 (poAt ps k).us) := (box_cells hv5).1 6
      have q7 : w5.cell? ⟨wr.heap.size, 7, none⟩ = some (.int .i64 (poAt ps k).co) := (box_cells hv5).1 7
      have q8 : w5.cell? ⟨wr.heap.size, 8, none⟩ = some (.slice x4 (poAt ps k).ls.length c4) := (box_cells hv5).1 8
      have o1 : w5.cell? ⟨w.heap.size + 2, 1, none⟩ = some v := (box_cells hO5.ho).1 1
      have hs5 : wr.heap.size ≤ w5.heap.size := hB5.size
      go_wp2_with (at_builtin; refine Hid.out ?_)
      unfold Hid
      refine wpList_append_P rfl _ _ rfl (w.heap.size + 3) v qs rfl ((hq.row.later hB5).later (bl1 _ _)) ⟨w5.heap.size, 0, none⟩ 1 1 [withL (poAt ps k) x4 (poAt ps k).ls.length c4 (poAt ps k).ls] rfl rfl ?_ (by have := hql'.out; omega) (by simp; omega) ?_
      · intro j u hj
        have hn := heap_new (W := w5) (poB (withL (poAt ps k) x4 (poAt ps k).ls.length c4 (poAt ps k).ls)) rfl
        rw [addr_add, Nat.zero_add]
        exact ((box_cells hn).1 j).trans (by rw [List.getElem?_toArray]; exact hj)
      intro v6 w6 hP6 hg6
      have hBa : Below wr.heap.size wr (w5.alloc (poB (withL (poAt ps k) x4 (poAt ps k).ls.length c4 (poAt ps k).ls))) := hB5.trans ((bl1 w5 _).mono hB5.size)
      have hK6 : Kept (w.heap.size + 3) (w5.alloc (poB (withL (poAt ps k) x4 (poAt ps k).ls.length c4 (poAt ps k).ls))) w6 := Kept.of_own (hq.row.later hBa) hg6 (by simp; omega)
      have hO6 := (hO5.later (bl1 w5 _)).kept hK6 (by omega)
      have hob6 := OBk.snoc hq hsz hBa ((OwnL.low hOL5 (Nat.le_of_lt hp3)).later (bl1 w5 _)) hg6 hP6
      have hs6 : w.heap.size + 3 ≤ w6.heap.size := Nat.le_trans (by simp; omega) hK6.size
      obtain ⟨x6, c6, rfl, -⟩ := hP6.mem
      rw [show Value.slice x6 (qs ++ [withL (poAt ps k) x4 (poAt ps k).ls.length c4 (poAt ps k).ls]).length c6 = .slice x6 (qs.length + 1) c6 by simp] at hob6
      have o1' : w6.cell? ⟨w.heap.size + 2, 1, none⟩ = some v := (box_cells hO6.ho).1 1
      have z1 : w6.frozen? ⟨w.heap.size + 2, 1, none⟩ = false := (box_cells hO6.ho).2 1
      clear q0 q1 q2 q3 q4 q5 q6 q7 q8 o1 hg6
      go_wp2
      go_roundw
      case rel => exact ⟨k + 1, _, qs ++ [withL (poAt ps k) x4 (poAt ps k).ls.length c4 (poAt ps k).ls], by go_num, hlth.out, hO6.put, by simpa using hs6, OBk.put (b := w.heap.size + 2) (o := 1) hob6 (by omega), by rw [List.length_append, hql'.out]; rfl, fun j hj => by
        rw [poAt_snoc, hql'.out]
        by_cases hj2 : j < k
        · rw [if_pos hj2]; exact hsame'.out j hj2
        · obtain rfl : j = k := by omega
          rw [if_neg hj2, if_pos rfl]
          exact ⟨rfl, rfl, rfl, rfl, rfl, rfl, rfl, rfl, hlen.out.symm, rfl⟩⟩
      case measure => have := hlth.out; simp [intOf]; omega
    · have hnk : ¬ (k : Int) < n := by omega
      have hfin : Hid (sameB ps qs) := ⟨by rw [hpl.out, hql'.out]; omega, fun j hj => hsame'.out j (by rw [hpl.out] at hj; omega)⟩
      obtain ⟨xv, cv, rfl, -⟩ := hq.row.mem
      have s0 : wr.cell? ⟨w.heap.size + 1, 0, none⟩ = some (.int .i64 0) := (box_cells hO.hs).1 0
      have s1 : wr.cell? ⟨w.heap.size + 1, 1, none⟩ = some (.slice none 0 0) := (box_cells hO.hs).1 1
      have z0 := (box_cells hO.hs).2 0
      have z1 := (box_cells hO.hs).2 1
      have o0 : wr.cell? ⟨w.heap.size + 2, 0, none⟩ = some (.int .i64 t) := (box_cells hO.ho).1 0
      have o1 : wr.cell? ⟨w.heap.size + 2, 1, none⟩ = some (.slice xv qs.length cv) := (box_cells hO.ho).1 1
      go_wp2
      refine bodyPost_ret (v := .agg #[.int .i64 t, .slice xv qs.length cv]) (by simp [results, Tryz.results31, go_sem, s0, s1]) rfl ?_
      exact ⟨_, qs, rfl, hfin.out, ((hq.put (by omega)).put (by omega)).low (by omega), (hO.below.setCell (by simp) _).setCell (by simp) _⟩
end Go.Proofs.YtpdoonkhnabfjaaGreat
/- What back of the reference comes to. -/
namespace Go.Proofs.YtpdoonkhnabfjaaGreat
open Go.RowKit Go.Shelf

/-- A lease of that prefix cools, or is gone where nothing cools; another stays. -/
def backE (co a l t : Int) (e : Le) : Option Le := if e.a = a ∧ e.l = l then (if co = 0 then none else some ⟨a, l, 3, 0, t + co⟩) else some e
def backL (p : Po) (a l t : Int) : List Le := p.ls.filterMap (backE p.co a l t)
theorem back_no1 {co a l t : Int} {e : Le} (h : ¬ e.a = a) : backE co a l t e = some e := if_neg fun h' => h h'.1
theorem back_no2 {co a l t : Int} {e : Le} (h : ¬ e.l = l) : backE co a l t e = some e := if_neg fun h' => h h'.2
theorem back_gone {co a l t : Int} {e : Le} (h1 : e.a = a) (h2 : e.l = l) (h3 : co = 0) : backE co a l t e = none := by unfold backE; rw [if_pos ⟨h1, h2⟩, if_pos h3]
theorem back_cool {co a l t : Int} {e : Le} (h1 : e.a = a) (h2 : e.l = l) (h3 : ¬ co = 0) : backE co a l t e = some ⟨a, l, 3, 0, t + co⟩ := by unfold backE; rw [if_pos ⟨h1, h2⟩, if_neg h3]
theorem fm_next {ls : List Le} {f : Le → Option Le} {j : Nat} (h : j < ls.length) : (ls.take (j + 1)).filterMap f = (ls.take j).filterMap f ++ (f (leAt ls j)).toList := by
  have h1 : ls.take (j + 1) = ls.take j ++ [leAt ls j] := by
    rw [List.take_add_one]
    congr 1
    unfold leAt
    rw [List.getD_eq_getElem?_getD, List.getElem?_eq_getElem h]
    rfl
  rw [h1, List.filterMap_append]
  cases hf : f (leAt ls j) <;> simp [hf]
theorem fm_len {ls : List Le} {f : Le → Option Le} (j : Nat) : ((ls.take j).filterMap f).length ≤ j := Nat.le_trans (List.length_filterMap_le _ _) (by rw [List.length_take]; omega)
def BackPost (base g n cap : Nat) (qs : List Po) (i : Nat) (a l t : Int) (w : World) (r : Ending) (w' : World) : Prop :=
  r = .returned (.tuple #[]) ∧ ∃ x' c', OBk w' base (.slice (some ⟨g, 0, none⟩) n cap) (qs.set i (withL (poAt qs i) x' (backL (poAt qs i) a l t).length c' (backL (poAt qs i) a l t))) (qs.set i (withL (poAt qs i) x' (backL (poAt qs i) a l t).length c' (backL (poAt qs i) a l t))).length ∧ Kept base w w'

set_option maxRecDepth 100000 in
set_option maxHeartbeats 3200000 in
theorem back_any (base ob g n cap : Nat) (qs : List Po) (i : Nat) (t a l : Int) (w : World) (hbox : w.heap[ob]? = some (bkV t (.slice (some ⟨g, 0, none⟩) n cap))) (h : OBk w base (.slice (some ⟨g, 0, none⟩) n cap) qs qs.length) (hi : i < qs.length) (hn : (poAt qs i).n ≤ 32) (hwb : base ≤ w.heap.size) (ht0 : 0 ≤ t) (ht1 : t ≤ 1073741824) (hc0 : 0 ≤ (poAt qs i).co) (hc1 : (poAt qs i).co ≤ 1024) :
    Calls Tryz.prog 50 #[.pointer (some ⟨ob, 0, none⟩), .int .i64 i, .agg #[.int .i64 a, .int .i64 l]] w (BackPost base g n cap qs i a l t w) := by
  have hO := h.own i hi
  obtain ⟨hLS, hll, hnc, hc63⟩ := hO.ls
  have hll' : Hid ((poAt qs i).ls.length = (poAt qs i).n) := hll
  have hqn : qs.length = n := by
    obtain ⟨xv, cv, he, -⟩ := h.row.mem
    simp only [Value.slice.injEq] at he
    exact he.2.1.symm
  have hi0 : (0 : Int) ≤ i := by omega
  have hin : (i : Int) < n := by omega
  have hin0 : Hid (i < qs.length) := hi
  clear hll hqn
  go_enter Tryz.func50, Tryz.ntmps50
  go_upto_region 2 with fail
  obtain ⟨w1, hw1⟩ : ∃ w1, w1 = w.alloc (.cells #[.int .i64 a, .int .i64 l] 26) := ⟨_, rfl⟩
  rw [show w.alloc (.cells #[.int .i64 a, .int .i64 l] 26) = w1 from hw1.symm]
  have hB1 : Below w.heap.size w w1 := by rw [hw1]; exact bl1 _ _
  have hp1 : w1.heap[w.heap.size]? = some (.cells #[.int .i64 a, .int .i64 l] 26) := by rw [hw1]; exact heap_new _ rfl
  clear hw1
  have hbox1 := heap_later hB1 hbox
  have h1 := h.later hB1
  have hLS1 := hLS.later hB1
  clear hbox hLS hO
  go_wp2
  go_loopw [7, 6] (fun kk vv wr => ∃ (j : Nat) (es : List Le), kk = .int .i64 j ∧ j ≤ (poAt qs i).n ∧ Below w1.heap.size w1 wr ∧ OwnL wr w1.heap.size vv es ∧ Hid (es = ((poAt qs i).ls.take j).filterMap (backE (poAt qs i).co a l t))) (fun kk _ _ => (poAt qs i).n - (intOf kk).toNat)
  case atStart => exact ⟨0, [], rfl, by omega, Below.refl _ _, World.ownsRow_nil _ _ _ _, by unfold Hid; simp⟩
  case round =>
    obtain ⟨j, es, rfl, hjn, hB, hOv, hes⟩ := hrel
    have hboxr := heap_later hB hbox1
    have hr := h1.later hB
    obtain ⟨-, -, -, -, -, -, -, c7, c8⟩ := hr.row.cells9 i hin0.out
    have b0 : wr.cell? ⟨ob, 0, none⟩ = some (.int .i64 t) := (box_cells hboxr).1 0
    have b1 : wr.cell? ⟨ob, 1, none⟩ = some (.slice (some ⟨g, 0, none⟩) n cap) := (box_cells hboxr).1 1
    have hvl : Hid (es.length ≤ 32) := by
      unfold Hid
      rw [hes.out]
      exact Nat.le_trans (fm_len j) (by omega)
    by_cases hltj : j < (poAt qs i).n
    · obtain ⟨b2, o2, hx2, e0, e1, e2, e3, e4⟩ := (hLS1.later hB).cells j hltj
      rw [hx2] at c8
      have hj0 : (0 : Int) ≤ j := by omega
      have hjn2 : (j : Int) < (poAt qs i).n := by omega
      have hltj' : Hid (j < (poAt qs i).n) := hltj
      have hstep : Hid (((poAt qs i).ls.take (j + 1)).filterMap (backE (poAt qs i).co a l t) = ((poAt qs i).ls.take j).filterMap (backE (poAt qs i).co a l t) ++ (backE (poAt qs i).co a l t (leAt (poAt qs i).ls j)).toList) := fm_next (by rw [hll'.out]; exact hltj)
      clear hltj
      go_upto_region 6 with fail
      obtain ⟨e, he⟩ : ∃ e, Hid (e = leAt (poAt qs i).ls j) := ⟨_, rfl⟩
      rw [← he.out] at e0 e1 e2 e3 e4 hstep
      rw [← he.out]
      obtain ⟨wl, hwl⟩ : ∃ wl, wl = wr.alloc (leO e) := ⟨_, rfl⟩
      rw [show wr.alloc (.cells #[.int .i64 e.a, .int .i64 e.l, .int .i64 e.kd, .int .i64 e.ow, .int .i64 e.un] 55) = wl from hwl.symm]
      have hBl : Below wr.heap.size wr wl := by rw [hwl]; exact bl1 _ _
      have hvb : wl.heap[wr.heap.size]? = some (leO e) := by rw [hwl]; exact heap_new _ rfl
      have hpx := heap_later hBl (heap_later hB hp1)
      have b0' := cell_later_add hBl b0
      have b1' := cell_later_add hBl b1
      have c7' := cell_later_add hBl c7
      clear hwl b0 b1 c7 c8 e0 e1 e2 e3 e4
      have p0 : wl.cell? ⟨w.heap.size, 0, none⟩ = some (.int .i64 a) := (box_cells hpx).1 0
      have p1 : wl.cell? ⟨w.heap.size, 1, none⟩ = some (.int .i64 l) := (box_cells hpx).1 1
      have l0 : wl.cell? ⟨wr.heap.size, 0, none⟩ = some (.int .i64 e.a) := (box_cells hvb).1 0
      have l1 : wl.cell? ⟨wr.heap.size, 1, none⟩ = some (.int .i64 e.l) := (box_cells hvb).1 1
      have l2 : wl.cell? ⟨wr.heap.size, 2, none⟩ = some (.int .i64 e.kd) := (box_cells hvb).1 2
      have l3 : wl.cell? ⟨wr.heap.size, 3, none⟩ = some (.int .i64 e.ow) := (box_cells hvb).1 3
      have l4 : wl.cell? ⟨wr.heap.size, 4, none⟩ = some (.int .i64 e.un) := (box_cells hvb).1 4
      by_cases ha : e.a = a
      · by_cases hl : e.l = l
        · rw [ha] at l0
          rw [hl] at l1
          by_cases hco : (poAt qs i).co = 0
          · rw [hco] at c7'
            have hstep2 : Hid (backE (poAt qs i).co a l t e = none) := back_gone ha hl hco
            go_wp2
            go_roundw
            case rel => exact ⟨j + 1, es, by go_num, hltj'.out, hB.trans (hBl.mono hB.size), hOv.later hBl, by unfold Hid; rw [hstep.out, hes.out, hstep2.out]; simp⟩
            case measure => have := hltj'.out; simp [intOf]; omega
          · have hcob : ((poAt qs i).co == 0) = false := by simpa using hco
            have hcod : decide ((poAt qs i).co = 0) = false := by simpa using hco
            have hstep2 : Hid (backE (poAt qs i).co a l t e = some ⟨a, l, 3, 0, t + (poAt qs i).co⟩) := back_cool ha hl hco
            go_upto_region 8 with fail
            have g0 := Ws.here b0'
            have g1 := Ws.here b1'
            have g2 := Ws.here c7'
            have g3 := Ws.here p0
            have g4 := Ws.here p1
            have hwr : IntKind.i64.wrap (t + (poAt qs i).co) = t + (poAt qs i).co := wrap_mid (by omega) (by omega)
            refine wp_region_tail wl.heap.size 16 (by kernel_rfl) (by kernel_rfl) ?_
            simp only [List.take_succ_cons, List.take_zero, List.drop_succ_cons, List.drop_zero]
            repeat (go_big_quiet_step (fail))
            refine wpQuiet_nil ?_
            intro uu
            have hBu := uu.property
            generalize uu.val = wu at hBu ⊢
            clear uu g0 g1 g2 g3 g4 p0 p1 l0 l1 l2 l3 l4 b0' b1' c7'
            have hvu := heap_later hBu hvb
            have l0 : wu.cell? ⟨wr.heap.size, 0, none⟩ = some (.int .i64 e.a) := (box_cells hvu).1 0
            have l1 : wu.cell? ⟨wr.heap.size, 1, none⟩ = some (.int .i64 e.l) := (box_cells hvu).1 1
            have l2 : wu.cell? ⟨wr.heap.size, 2, none⟩ = some (.int .i64 e.kd) := (box_cells hvu).1 2
            have l3 : wu.cell? ⟨wr.heap.size, 3, none⟩ = some (.int .i64 e.ow) := (box_cells hvu).1 3
            have l4 : wu.cell? ⟨wr.heap.size, 4, none⟩ = some (.int .i64 e.un) := (box_cells hvu).1 4
            have z := (box_cells hvu).2
            clear hwr
            go_upto_region 9 with fail
            obtain ⟨w5, hw5⟩ : ∃ w5, w5 = (((((wu.setCell ⟨wr.heap.size, 0, none⟩ (.int .i64 a)).setCell ⟨wr.heap.size, 1, none⟩ (.int .i64 l)).setCell ⟨wr.heap.size, 2, none⟩ (.int .i64 3)).setCell ⟨wr.heap.size, 3, none⟩ (.int .i64 0)).setCell ⟨wr.heap.size, 4, none⟩ (.int .i64 (t + (poAt qs i).co))) := ⟨_, rfl⟩
            rw [← hw5]
            have hB5 : Below wr.heap.size wr w5 := by
              rw [hw5]
              exact ((((((hBl.trans (hBu.mono hBl.size)).setCell (p := ⟨wr.heap.size, 0, none⟩) (Nat.le_refl _) _).setCell (p := ⟨wr.heap.size, 1, none⟩) (Nat.le_refl _) _).setCell (p := ⟨wr.heap.size, 2, none⟩) (Nat.le_refl _) _).setCell (p := ⟨wr.heap.size, 3, none⟩) (Nat.le_refl _) _).setCell (p := ⟨wr.heap.size, 4, none⟩) (Nat.le_refl _) _)
            have hv5 : w5.heap[wr.heap.size]? = some (leO ⟨a, l, 3, 0, t + (poAt qs i).co⟩) := by
              rw [hw5]
              have h1 := heap_setCell_same wu wr.heap.size 0 _ 55 (.int .i64 a) hvu
              have h2 := heap_setCell_same _ wr.heap.size 1 _ 55 (.int .i64 l) h1
              have h3 := heap_setCell_same _ wr.heap.size 2 _ 55 (.int .i64 3) h2
              have h4 := heap_setCell_same _ wr.heap.size 3 _ 55 (.int .i64 0) h3
              have h5 := heap_setCell_same _ wr.heap.size 4 _ 55 (.int .i64 (t + (poAt qs i).co)) h4
              simpa using h5
            clear hw5 l0 l1 l2 l3 l4 z hvu hvb hBu hBl
            have l0 : w5.cell? ⟨wr.heap.size, 0, none⟩ = some (.int .i64 a) := (box_cells hv5).1 0
            have l1 : w5.cell? ⟨wr.heap.size, 1, none⟩ = some (.int .i64 l) := (box_cells hv5).1 1
            have l2 : w5.cell? ⟨wr.heap.size, 2, none⟩ = some (.int .i64 3) := (box_cells hv5).1 2
            have l3 : w5.cell? ⟨wr.heap.size, 3, none⟩ = some (.int .i64 0) := (box_cells hv5).1 3
            have l4 : w5.cell? ⟨wr.heap.size, 4, none⟩ = some (.int .i64 (t + (poAt qs i).co)) := (box_cells hv5).1 4
            have hOv4 := hOv.later hB5
            have hwl := hB5.size
            have hBsz := hB.size
            go_wp2_with (at_builtin; refine Hid.out ?_)
            unfold Hid
            refine wpList_append_L rfl _ _ rfl w1.heap.size _ _ rfl (hOv4.later (bl1 _ _)) ⟨w5.heap.size, 0, none⟩ 1 1 [(⟨a, l, 3, 0, t + (poAt qs i).co⟩ : Le)] rfl rfl ?_ (by simp; have := hvl.out; omega) (by simp; omega) ?_
            · intro j u hj
              have hn := heap_new (W := w5) (.cells #[.int .i64 ((⟨a, l, 3, 0, t + (poAt qs i).co⟩ : Le)).a, .int .i64 ((⟨a, l, 3, 0, t + (poAt qs i).co⟩ : Le)).l, .int .i64 ((⟨a, l, 3, 0, t + (poAt qs i).co⟩ : Le)).kd, .int .i64 ((⟨a, l, 3, 0, t + (poAt qs i).co⟩ : Le)).ow, .int .i64 ((⟨a, l, 3, 0, t + (poAt qs i).co⟩ : Le)).un] 55) rfl
              rw [addr_add, Nat.zero_add]
              exact ((box_cells hn).1 j).trans (by rw [List.getElem?_toArray]; exact hj)
            intro v' w' hO' hg'
            have hB' : Below w1.heap.size w1 w' := below_grownr (hB.trans ((hB5.trans ((bl1 _ _).mono hB5.size)).mono hB.size)) hg' (fun k e => (hOv4.lt k e).1)
            go_wp2
            go_roundw
            case rel => exact ⟨j + 1, _, by go_num, hltj'.out, hB', hO', by unfold Hid; rw [hstep.out, hes.out, hstep2.out]; rfl⟩
            case measure => have := hltj'.out; simp [intOf]; omega
        · rw [ha] at l0
          have hld : decide (l = e.l) = false := by simp; exact fun h => hl h.symm
          have hld2 : decide (e.l = l) = false := by simpa using hl
          have hstep2 : Hid (backE (poAt qs i).co a l t e = some ⟨a, e.l, e.kd, e.ow, e.un⟩) := by
            have h := back_no2 (co := (poAt qs i).co) (a := a) (t := t) hl
            rw [← ha] at h ⊢
            exact h
          have hOv4 := hOv.later hBl
          have hwl := hBl.size
          have hBsz := hB.size
          go_wp2_with (at_builtin; refine Hid.out ?_)
          unfold Hid
          refine wpList_append_L rfl _ _ rfl w1.heap.size _ _ rfl (hOv4.later (bl1 _ _)) ⟨wl.heap.size, 0, none⟩ 1 1 [(⟨a, e.l, e.kd, e.ow, e.un⟩ : Le)] rfl rfl ?_ (by simp; have := hvl.out; omega) (by simp; omega) ?_
          · intro j u hj
            have hn := heap_new (W := wl) (.cells #[.int .i64 ((⟨a, e.l, e.kd, e.ow, e.un⟩ : Le)).a, .int .i64 ((⟨a, e.l, e.kd, e.ow, e.un⟩ : Le)).l, .int .i64 ((⟨a, e.l, e.kd, e.ow, e.un⟩ : Le)).kd, .int .i64 ((⟨a, e.l, e.kd, e.ow, e.un⟩ : Le)).ow, .int .i64 ((⟨a, e.l, e.kd, e.ow, e.un⟩ : Le)).un] 55) rfl
            rw [addr_add, Nat.zero_add]
            exact ((box_cells hn).1 j).trans (by rw [List.getElem?_toArray]; exact hj)
          intro v' w' hO' hg'
          have hB' : Below w1.heap.size w1 w' := below_grownr (hB.trans ((hBl.trans ((bl1 _ _).mono hBl.size)).mono hB.size)) hg' (fun k e => (hOv4.lt k e).1)
          go_wp2
          go_roundw
          case rel => exact ⟨j + 1, _, by go_num, hltj'.out, hB', hO', by unfold Hid; rw [hstep.out, hes.out, hstep2.out]; rfl⟩
          case measure => have := hltj'.out; simp [intOf]; omega
      · have hld2 : decide (e.a = a) = false := by simpa using ha
        have hstep2 : Hid (backE (poAt qs i).co a l t e = some e) := back_no1 ha
        have hOv4 := hOv.later hBl
        have hwl := hBl.size
        have hBsz := hB.size
        go_wp2_with (at_builtin; refine Hid.out ?_)
        unfold Hid
        refine wpList_append_L rfl _ _ rfl w1.heap.size _ _ rfl (hOv4.later (bl1 _ _)) ⟨wl.heap.size, 0, none⟩ 1 1 [e] rfl rfl ?_ (by simp; have := hvl.out; omega) (by simp; omega) ?_
        · intro j u hj
          have hn := heap_new (W := wl) (.cells #[.int .i64 (e).a, .int .i64 (e).l, .int .i64 (e).kd, .int .i64 (e).ow, .int .i64 (e).un] 55) rfl
          rw [addr_add, Nat.zero_add]
          exact ((box_cells hn).1 j).trans (by rw [List.getElem?_toArray]; exact hj)
        intro v' w' hO' hg'
        have hB' : Below w1.heap.size w1 w' := below_grownr (hB.trans ((hBl.trans ((bl1 _ _).mono hBl.size)).mono hB.size)) hg' (fun k e => (hOv4.lt k e).1)
        go_wp2
        go_roundw
        case rel => exact ⟨j + 1, _, by go_num, hltj'.out, hB', hO', by unfold Hid; rw [hstep.out, hes.out, hstep2.out]; rfl⟩
        case measure => have := hltj'.out; simp [intOf]; omega
    · have hnj : ¬ (j : Int) < (poAt qs i).n := by omega
      have hall : Hid (es = backL (poAt qs i) a l t) := by
        unfold Hid backL
        rw [hes.out, List.take_of_length_le (by rw [hll'.out]; omega)]
      obtain ⟨xv, cv, rfl, -⟩ := hOv.mem
      have hBw := hB1.trans (hB.mono hB1.size)
      have z8 := hr.row.frozen (i * 9 + 8)
      obtain ⟨hbg, cur, hgc⟩ := hr.row.block
      have hfin := h.swap (i := i) hin0.out hBw (hOv.low hB1.size) hwb
      have hK : Kept base w (wr.setCell ⟨g, i * 9 + 8, none⟩ (.slice xv es.length cv)) := (Kept.of_below hBw hwb).trans (Kept.of_grown (set_grown _ _ _ _) hbg (Nat.le_trans hwb hBw.size) hgc (.inl rfl))
      go_wp2
      refine bodyPost_end (results_none Tryz.results50 _ _ _) rfl ?_
      rw [hall.out] at hfin hK ⊢
      exact ⟨rfl, xv, cv, hfin, hK⟩
end Go.Proofs.YtpdoonkhnabfjaaGreat
/- What CheckBook of the reference comes to. -/
namespace Go.Proofs.YtpdoonkhnabfjaaGreat
open Go.RowKit Go.Shelf

/-- The book's box, at the mark. -/
structure CB (w W : World) (t : Int) (x : Option Addr) (n c : Nat) : Prop where
  hb : W.heap[w.heap.size]? = some (bkV t (.slice x n c))
  below : Below w.heap.size w W
theorem CB.later {w W W' : World} {t : Int} {x : Option Addr} {n c : Nat} (h : CB w W t x n c) (hb : Below W.heap.size W W') : CB w W' t x n c := ⟨heap_later hb h.hb, h.below.trans (hb.mono h.below.size)⟩
theorem ruleFine_at (mn mx us co a l : Int) (t : Bool) (h : ruleB mn mx us co l = t) (w : World) :
    Calls Tryz.prog 29 #[.agg #[.int .i64 mn, .int .i64 mx, .int .i64 us, .int .i64 co], .agg #[.int .i64 a, .int .i64 l]] w fun e w' => e = .returned (.bool t) ∧ Below w.heap.size w w' := by
  subst h
  exact ruleFine_any mn mx us co a l w
theorem checkR_at (a l : Int) (x : Option Addr) (n c : Nat) (ps : List (Int × Int)) (E : Int) (h : chkS a l n ps = E) (w : World) (hp : n ≤ 32 → PS w x n ps) :
    Calls Tryz.prog 40 #[.agg #[.int .i64 a, .int .i64 l, .slice x n c]] w fun e w' => e = .returned (.int .i64 E) ∧ Below w.heap.size w w' := by
  subst h
  exact checkR_any a l x n c ps w hp
theorem upFine_at (t : Int) (x : Option Addr) (n c : Nat) (ps : List Po) (p : Po) (T : Bool) (h : upB ps (n + 1) p = T) (w : World) (hp : PoS w x n ps) (hn : n ≤ 64) :
    Calls Tryz.prog 42 #[.agg #[.int .i64 t, .slice x n c], poV p] w fun e w' => e = .returned (.bool T) ∧ Below w.heap.size w w' := by
  subst h
  exact upFine_any t x n c ps p w hp hn
theorem leaseFine_at (t : Int) (p : Po) (x : Option Addr) (n c : Nat) (ps : List Po) (e : Le) (T : Bool) (h : leB t ps p.id e = T) (w : World) (hp : PoS w x n ps) (hn : n ≤ 64) (t0 : 0 ≤ t) (t1 : t ≤ 1073741824) :
    Calls Tryz.prog 43 #[.agg #[.int .i64 t, .slice x n c], poV p, leV e] w fun r w' => r = .returned (.bool T) ∧ Below w.heap.size w w' := by
  subst h
  exact leaseFine_any t p x n c ps e w hp hn t0 t1
theorem chkS_vals (a l : Int) (n : Nat) (ps : List (Int × Int)) : chkS a l n ps = 0 ∨ chkS a l n ps = 1 ∨ chkS a l n ps = 2 := by
  unfold chkS
  split
  · exact .inr (.inr rfl)
  · split
    · exact .inl rfl
    · exact .inr (.inl rfl)

set_option maxRecDepth 100000 in
set_option maxHeartbeats 6400000 in
theorem checkBook_any (t : Int) (x : Option Addr) (n c : Nat) (ps : List Po) (w : World) (hk : Bk w x n c ps) :
    Calls Tryz.prog 11 #[.agg #[.int .i64 t, .slice x n c]] w fun e w' => e = .returned (.int .i64 (chkB t ps)) ∧ Below w.heap.size w w' := by
  have hpl : Hid (ps.length = n) := hk.ps.len
  have hF : Hid (Full ps) := hk.full
  go_enter Tryz.func11, Tryz.ntmps11
  go_upto_region 1 with fail
  obtain ⟨w0, hw0⟩ : ∃ w0, w0 = w.alloc (bkV t (.slice x n c)) := ⟨_, rfl⟩
  rw [show w.alloc (.cells #[.int .i64 t, .slice x n c] 24) = w0 from hw0.symm]
  have hC0 : CB w w0 t x n c := by rw [hw0]; exact ⟨heap_new _ rfl, bl1 _ _⟩
  clear hw0
  have b0 : w0.cell? ⟨w.heap.size, 0, none⟩ = some (.int .i64 t) := (box_cells hC0.hb).1 0
  have b1 : w0.cell? ⟨w.heap.size, 1, none⟩ = some (.slice x n c) := (box_cells hC0.hb).1 1
  by_cases h8 : 8 < n
  · have h8' : (n : Int) > 8 := by omega
    have hE : Hid (chkB t ps = 2) := if_pos (by rw [hpl.out]; exact h8)
    go_wp2
    go_ret
    exact ⟨ret_int hE.out.symm, hC0.below⟩
  have h8' : ¬ (n : Int) > 8 := by omega
  have hn8 : n ≤ 8 := by omega
  have hrows : Hid (chkB t ps = 0 ↔ wth t 0 1073741824 = true ∧ ∀ j, j < ps.length → Row1 ps j ∧ Row2 t ps j) := chk_rows hF.out (by rw [hpl.out]; exact hn8)
  have h01 : Hid (chkB t ps = 0 ∨ chkB t ps = 1) := chk_01 (by rw [hpl.out]; exact hn8)
  clear h8
  cases hwt : wth t 0 1073741824 with
  | false =>
    have hE : Hid (chkB t ps = 1) := by
      rcases h01.out with h | h
      · have := (hrows.out.1 h).1
        rw [hwt] at this
        cases this
      · exact h
    go_wp2_with fail
    refine (within_at t 0 1073741824 false hwt _).mono ?_
    rintro e w1 ⟨rfl, rfl⟩
    go_wp2
    go_ret
    exact ⟨ret_int hE.out.symm, hC0.below⟩
  | true =>
    have hbad1 : Hid (∀ j, j < n → ¬ Row1 ps j → chkB t ps = 1) := fun j hj hr => by
      rcases h01.out with h | h
      · exact absurd ((hrows.out.1 h).2 j (by rw [hpl.out]; exact hj)).1 hr
      · exact h
    have hbad2 : Hid (∀ j, j < n → ¬ Row2 t ps j → chkB t ps = 1) := fun j hj hr => by
      rcases h01.out with h | h
      · exact absurd ((hrows.out.1 h).2 j (by rw [hpl.out]; exact hj)).2 hr
      · exact h
    have hgood : Hid ((∀ j, j < n → Row1 ps j) → (∀ j, j < n → Row2 t ps j) → chkB t ps = 0) := fun g1 g2 => hrows.out.2 ⟨hwt, fun j hj => by rw [hpl.out] at hj; exact ⟨g1 j hj, g2 j hj⟩⟩
    clear hrows h01
    have ht : 0 ≤ t ∧ t ≤ 1073741824 := by unfold wth at hwt; simpa using hwt
    go_wp2_with fail
    refine (within_at t 0 1073741824 true hwt _).mono ?_
    rintro e w1 ⟨rfl, rfl⟩
    clear b0 b1 hwt
    go_wp2
    go_loopw [3] (fun i wr => ∃ k : Nat, i = .int .i64 k ∧ k ≤ n ∧ CB w wr t x n c ∧ ∀ j, j < k → Row1 ps j) (fun i _ => n - (intOf i).toNat)
    case atStart => exact ⟨0, rfl, by omega, hC0, fun j hj => by omega⟩
    case round =>
      obtain ⟨k, rfl, hkn, hC, hr1⟩ := hrel
      have hr1' : Hid (∀ j, j < k → Row1 ps j) := hr1
      clear hr1 hC0
      have b1 : wr.cell? ⟨w.heap.size, 1, none⟩ = some (.slice x n c) := (box_cells hC.hb).1 1
      by_cases hlt : k < n
      · have hkw := hk.later hC.below
        obtain ⟨b, o, rfl, c0, c1, c2, c3, c4, c5, c6, c7, c8⟩ := hkw.ps.cells k hlt
        obtain ⟨hlc, hlm, hLS⟩ := hkw.ps.leases k hlt
        have hk0 : (0 : Int) ≤ k := by omega
        have hkn2 : (k : Int) < n := by omega
        have hlth : Hid (k < n) := hlt
        clear hlt
        go_upto_region 9 with fail
        obtain ⟨w2, hw2⟩ : ∃ w2, w2 = wr.alloc (poB (poAt ps k)) := ⟨_, rfl⟩
        rw [show wr.alloc (.cells #[.int .i64 (poAt ps k).id, .int .i64 (poAt ps k).up, .int .i64 (poAt ps k).a, .int .i64 (poAt ps k).l, .int .i64 (poAt ps k).mn, .int .i64 (poAt ps k).mx, .int .i64 (poAt ps k).us, .int .i64 (poAt ps k).co, .slice (poAt ps k).x (poAt ps k).n (poAt ps k).c] 49) = w2 from hw2.symm]
        have hB2 : Below wr.heap.size wr w2 := by rw [hw2]; exact bl1 _ _
        have hv2 : w2.heap[wr.heap.size]? = some (poB (poAt ps k)) := by rw [hw2]; exact heap_new _ rfl
        have hC2 := hC.later hB2
        have hLS2 := hLS.later hB2
        have hk2 := hkw.later hB2
        clear hw2 hB2 b1 c0 c1 c2 c3 c4 c5 c6 c7 c8 hLS hkw hC
        generalize wr.heap.size = pb at hv2 ⊢
        have g1 := Ws.here (show w2.cell? ⟨w.heap.size, 1, none⟩ = some (.slice (some ⟨b, o, none⟩) n c) from (box_cells hC2.hb).1 1)
        have q0 := Ws.here (show w2.cell? ⟨pb, 0, none⟩ = some (.int .i64 (poAt ps k).id) from (box_cells hv2).1 0)
        have q1 := Ws.here (show w2.cell? ⟨pb, 1, none⟩ = some (.int .i64 (poAt ps k).up) from (box_cells hv2).1 1)
        have q2 := Ws.here (show w2.cell? ⟨pb, 2, none⟩ = some (.int .i64 (poAt ps k).a) from (box_cells hv2).1 2)
        have q3 := Ws.here (show w2.cell? ⟨pb, 3, none⟩ = some (.int .i64 (poAt ps k).l) from (box_cells hv2).1 3)
        have q4 := Ws.here (show w2.cell? ⟨pb, 4, none⟩ = some (.int .i64 (poAt ps k).mn) from (box_cells hv2).1 4)
        have q5 := Ws.here (show w2.cell? ⟨pb, 5, none⟩ = some (.int .i64 (poAt ps k).mx) from (box_cells hv2).1 5)
        have q6 := Ws.here (show w2.cell? ⟨pb, 6, none⟩ = some (.int .i64 (poAt ps k).us) from (box_cells hv2).1 6)
        have q7 := Ws.here (show w2.cell? ⟨pb, 7, none⟩ = some (.int .i64 (poAt ps k).co) from (box_cells hv2).1 7)
        have q8 := Ws.here (show w2.cell? ⟨pb, 8, none⟩ = some (.slice (poAt ps k).x (poAt ps k).n (poAt ps k).c) from (box_cells hv2).1 8)
        cases hid : wth (poAt ps k).id 1 65536
        · have hE : Hid (chkB t ps = 1) := hbad1.out k hlth.out fun h => by
            have := h.1
            rw [hid] at this
            cases this
          refine wp_region_ws w2.heap.size (by kernel_rfl) (by kernel_rfl) ?_
          repeat (go_big_quiet_step ((go_at_call 25; exact Calls.in_ws_same (within_at _ _ _ _ hid _))))
          refine wpQuiet_nil ?_
          rintro _ ⟨u, rfl⟩
          have hu := hC2.later u.property
          generalize u.val = wu at hu ⊢
          clear u g1 q0 q1 q2 q3 q4 q5 q6 q7 q8
          go_wp2
          go_ret
          exact ⟨ret_int hE.out.symm, hu.below⟩
        · cases k with
          | zero =>
            have hrise : Hid (0 = 0 ∨ (poAt ps (0 - 1)).id < (poAt ps 0).id) := .inl rfl
            obtain ⟨E, hch⟩ : ∃ E, chkS (poAt ps 0).a (poAt ps 0).l (poAt ps 0).n (lp (poAt ps 0).ls) = E := ⟨_, rfl⟩
            have hch' : Hid (chkS (poAt ps 0).a (poAt ps 0).l (poAt ps 0).n (lp (poAt ps 0).ls) = E) := hch
            have hcr := fun (W : World) (x' : Option Addr) (c' : Nat) (hp : PS W x' (poAt ps 0).n (lp (poAt ps 0).ls)) => checkR_at (poAt ps 0).a (poAt ps 0).l x' (poAt ps 0).n c' (lp (poAt ps 0).ls) E hch W (fun _ => hp)
            clear hch
            refine wp_region_mid w2.heap.size 22 24 (by kernel_rfl) (by kernel_rfl) ?_
            simp only [List.take_succ_cons, List.take_zero, List.drop_succ_cons, List.drop_zero]
            repeat (go_big_quiet_step ((go_at_call 25; exact Calls.in_ws_same (within_at _ _ _ _ hid _))))
            refine wpQuiet_nil ?_
            intro uu
            have hB3 := uu.property
            generalize uu.val = w3 at hB3 ⊢
            clear uu g1 q0 q1 q2 q3 q4 q5 q6 q7 q8
            go_wp2_with fail
            refine (spaceOfR_any (poAt ps 0) w3 (hLS2.later hB3) hlm).mono ?_
            rintro e w4 ⟨x', c', rfl, hB4, hPS⟩
            go_wp2_with fail
            refine (hcr w4 x' c' hPS).mono ?_
            rintro e w5 ⟨rfl, hB5⟩
            have hB25 : Below w2.heap.size w2 w5 := (hB3.trans (hB4.mono hB3.size)).trans (hB5.mono (Nat.le_trans hB3.size hB4.size))
            have hC5 := hC2.later hB25
            have hv5 := heap_later hB25 hv2
            clear hB3 hB4 hB5 hPS hcr hv2 hC2 hLS2
            go_wp2_with fail
            refine restQ_normal ?_
            have q2 := Ws.here (show w5.cell? ⟨pb, 2, none⟩ = some (.int .i64 (poAt ps 0).a) from (box_cells hv5).1 2)
            have q3 := Ws.here (show w5.cell? ⟨pb, 3, none⟩ = some (.int .i64 (poAt ps 0).l) from (box_cells hv5).1 3)
            have q4 := Ws.here (show w5.cell? ⟨pb, 4, none⟩ = some (.int .i64 (poAt ps 0).mn) from (box_cells hv5).1 4)
            have q5 := Ws.here (show w5.cell? ⟨pb, 5, none⟩ = some (.int .i64 (poAt ps 0).mx) from (box_cells hv5).1 5)
            have q6 := Ws.here (show w5.cell? ⟨pb, 6, none⟩ = some (.int .i64 (poAt ps 0).us) from (box_cells hv5).1 6)
            have q7 := Ws.here (show w5.cell? ⟨pb, 7, none⟩ = some (.int .i64 (poAt ps 0).co) from (box_cells hv5).1 7)
            by_cases hE0 : E = 0
            · subst hE0
              cases hru : ruleB (poAt ps 0).mn (poAt ps 0).mx (poAt ps 0).us (poAt ps 0).co (poAt ps 0).l
              · have hE : Hid (chkB t ps = 1) := hbad1.out 0 hlth.out fun h => by
                  have := h.2.2.2
                  rw [hru] at this
                  cases this
                refine wpAny_ws w5.heap.size 24 (by kernel_rfl) rfl rfl (by kernel_rfl) ?_
                simp only [List.drop_succ_cons, List.drop_zero]
                repeat (go_big_quiet_step ((go_at_call 29; exact Calls.in_ws (Nat.le_refl _) (ruleFine_at _ _ _ _ _ _ _ hru _))))
                refine wpQuiet_nil ?_
                rintro _ ⟨u, rfl⟩
                have hu := hC5.later u.property
                generalize u.val = wu at hu ⊢
                clear u q2 q3 q4 q5 q6 q7
                go_wp2
                go_ret
                exact ⟨ret_int hE.out.symm, hu.below⟩
              · refine wpAny_ws w5.heap.size 24 (by kernel_rfl) rfl rfl (by kernel_rfl) ?_
                simp only [List.drop_succ_cons, List.drop_zero]
                repeat (go_big_quiet_step ((go_at_call 29; exact Calls.in_ws (Nat.le_refl _) (ruleFine_at _ _ _ _ _ _ _ hru _))))
                refine wpQuiet_nil ?_
                rintro _ ⟨u, rfl⟩
                have hu := hC5.later u.property
                generalize u.val = wu at hu ⊢
                clear u q2 q3 q4 q5 q6 q7
                go_wp2
                go_roundw
                case rel => exact ⟨1, by go_num, hlth.out, hu, fun j hj => by
                    obtain rfl : j = 0 := by omega
                    exact ⟨hid, .inl rfl, hch'.out, hru⟩⟩
                case measure => simp [intOf]; omega
            · have hE12 : E = 1 ∨ E = 2 := by
                rcases chkS_vals (poAt ps 0).a (poAt ps 0).l (poAt ps 0).n (lp (poAt ps 0).ls) with h | h | h
                · exact absurd (hch'.out.symm.trans h) hE0
                · exact .inl (hch'.out.symm.trans h)
                · exact .inr (hch'.out.symm.trans h)
              have hE : Hid (chkB t ps = 1) := hbad1.out 0 hlth.out fun h => hE0 (hch'.out.symm.trans h.2.2.1)
              clear hE0 hch'
              rcases hE12 with rfl | rfl
              all_goals refine wpAny_ws w5.heap.size 24 (by kernel_rfl) rfl rfl (by kernel_rfl) ?_
              all_goals simp only [List.drop_succ_cons, List.drop_zero]
              all_goals repeat (go_big_quiet_step (fail))
              all_goals refine wpQuiet_nil ?_
              all_goals rintro _ ⟨u, rfl⟩
              all_goals have hu := hC5.later u.property
              all_goals generalize u.val = wu at hu ⊢
              all_goals clear u q2 q3 q4 q5 q6 q7
              all_goals go_wp2
              all_goals go_ret
              all_goals exact ⟨ret_int hE.out.symm, hu.below⟩
          | succ k' =>
            obtain ⟨b2, o2, hbo, c2', -⟩ := hk2.ps.cells k' (by omega)
            simp only [Option.some.injEq, Addr.mk.injEq, and_true] at hbo
            obtain ⟨rfl, rfl⟩ := hbo
            have r0 := Ws.here c2'
            clear c2'
            by_cases hle : (poAt ps (k' + 1)).id ≤ (poAt ps k').id
            · have hE : Hid (chkB t ps = 1) := hbad1.out (k' + 1) hlth.out fun h => by
                rcases h.2.1 with h | h
                · omega
                · rw [Nat.add_sub_cancel] at h
                  omega
              refine wp_region_ws w2.heap.size (by kernel_rfl) (by kernel_rfl) ?_
              repeat (go_big_quiet_step ((go_at_call 25; exact Calls.in_ws_same (within_at _ _ _ _ hid _))))
              refine wpQuiet_nil ?_
              rintro _ ⟨u, rfl⟩
              have hu := hC2.later u.property
              generalize u.val = wu at hu ⊢
              clear u g1 q0 q1 q2 q3 q4 q5 q6 q7 q8 r0
              go_wp2
              go_ret
              exact ⟨ret_int hE.out.symm, hu.below⟩
            have hd : decide ((poAt ps (k' + 1)).id ≤ (poAt ps k').id) = false := by simpa using hle
            have hrise : Hid (k' + 1 = 0 ∨ (poAt ps (k' + 1 - 1)).id < (poAt ps (k' + 1)).id) := .inr (by rw [Nat.add_sub_cancel]; omega)
            obtain ⟨E, hch⟩ : ∃ E, chkS (poAt ps (k' + 1)).a (poAt ps (k' + 1)).l (poAt ps (k' + 1)).n (lp (poAt ps (k' + 1)).ls) = E := ⟨_, rfl⟩
            have hch' : Hid (chkS (poAt ps (k' + 1)).a (poAt ps (k' + 1)).l (poAt ps (k' + 1)).n (lp (poAt ps (k' + 1)).ls) = E) := hch
            have hcr := fun (W : World) (x' : Option Addr) (c' : Nat) (hp : PS W x' (poAt ps (k' + 1)).n (lp (poAt ps (k' + 1)).ls)) => checkR_at (poAt ps (k' + 1)).a (poAt ps (k' + 1)).l x' (poAt ps (k' + 1)).n c' (lp (poAt ps (k' + 1)).ls) E hch W (fun _ => hp)
            clear hch
            refine wp_region_mid w2.heap.size 22 24 (by kernel_rfl) (by kernel_rfl) ?_
            simp only [List.take_succ_cons, List.take_zero, List.drop_succ_cons, List.drop_zero]
            repeat (go_big_quiet_step ((go_at_call 25; exact Calls.in_ws_same (within_at _ _ _ _ hid _))))
            refine wpQuiet_nil ?_
            intro uu
            have hB3 := uu.property
            generalize uu.val = w3 at hB3 ⊢
            clear uu g1 q0 q1 q2 q3 q4 q5 q6 q7 q8 r0
            go_wp2_with fail
            refine (spaceOfR_any (poAt ps (k' + 1)) w3 (hLS2.later hB3) hlm).mono ?_
            rintro e w4 ⟨x', c', rfl, hB4, hPS⟩
            go_wp2_with fail
            refine (hcr w4 x' c' hPS).mono ?_
            rintro e w5 ⟨rfl, hB5⟩
            have hB25 : Below w2.heap.size w2 w5 := (hB3.trans (hB4.mono hB3.size)).trans (hB5.mono (Nat.le_trans hB3.size hB4.size))
            have hC5 := hC2.later hB25
            have hv5 := heap_later hB25 hv2
            clear hB3 hB4 hB5 hPS hcr hv2 hC2 hLS2
            go_wp2_with fail
            refine restQ_normal ?_
            have q2 := Ws.here (show w5.cell? ⟨pb, 2, none⟩ = some (.int .i64 (poAt ps (k' + 1)).a) from (box_cells hv5).1 2)
            have q3 := Ws.here (show w5.cell? ⟨pb, 3, none⟩ = some (.int .i64 (poAt ps (k' + 1)).l) from (box_cells hv5).1 3)
            have q4 := Ws.here (show w5.cell? ⟨pb, 4, none⟩ = some (.int .i64 (poAt ps (k' + 1)).mn) from (box_cells hv5).1 4)
            have q5 := Ws.here (show w5.cell? ⟨pb, 5, none⟩ = some (.int .i64 (poAt ps (k' + 1)).mx) from (box_cells hv5).1 5)
            have q6 := Ws.here (show w5.cell? ⟨pb, 6, none⟩ = some (.int .i64 (poAt ps (k' + 1)).us) from (box_cells hv5).1 6)
            have q7 := Ws.here (show w5.cell? ⟨pb, 7, none⟩ = some (.int .i64 (poAt ps (k' + 1)).co) from (box_cells hv5).1 7)
            by_cases hE0 : E = 0
            · subst hE0
              cases hru : ruleB (poAt ps (k' + 1)).mn (poAt ps (k' + 1)).mx (poAt ps (k' + 1)).us (poAt ps (k' + 1)).co (poAt ps (k' + 1)).l
              · have hE : Hid (chkB t ps = 1) := hbad1.out (k' + 1) hlth.out fun h => by
                  have := h.2.2.2
                  rw [hru] at this
                  cases this
                refine wpAny_ws w5.heap.size 24 (by kernel_rfl) rfl rfl (by kernel_rfl) ?_
                simp only [List.drop_succ_cons, List.drop_zero]
                repeat (go_big_quiet_step ((go_at_call 29; exact Calls.in_ws (Nat.le_refl _) (ruleFine_at _ _ _ _ _ _ _ hru _))))
                refine wpQuiet_nil ?_
                rintro _ ⟨u, rfl⟩
                have hu := hC5.later u.property
                generalize u.val = wu at hu ⊢
                clear u q2 q3 q4 q5 q6 q7
                go_wp2
                go_ret
                exact ⟨ret_int hE.out.symm, hu.below⟩
              · refine wpAny_ws w5.heap.size 24 (by kernel_rfl) rfl rfl (by kernel_rfl) ?_
                simp only [List.drop_succ_cons, List.drop_zero]
                repeat (go_big_quiet_step ((go_at_call 29; exact Calls.in_ws (Nat.le_refl _) (ruleFine_at _ _ _ _ _ _ _ hru _))))
                refine wpQuiet_nil ?_
                rintro _ ⟨u, rfl⟩
                have hu := hC5.later u.property
                generalize u.val = wu at hu ⊢
                clear u q2 q3 q4 q5 q6 q7
                go_wp2
                go_roundw
                case rel => exact ⟨k' + 1 + 1, by go_num, hlth.out, hu, fun j hj => by
                    by_cases hj2 : j < k' + 1
                    · exact hr1'.out j hj2
                    · obtain rfl : j = k' + 1 := by omega
                      exact ⟨hid, hrise.out, hch'.out, hru⟩⟩
                case measure => simp [intOf]; omega
            · have hE12 : E = 1 ∨ E = 2 := by
                rcases chkS_vals (poAt ps (k' + 1)).a (poAt ps (k' + 1)).l (poAt ps (k' + 1)).n (lp (poAt ps (k' + 1)).ls) with h | h | h
                · exact absurd (hch'.out.symm.trans h) hE0
                · exact .inl (hch'.out.symm.trans h)
                · exact .inr (hch'.out.symm.trans h)
              have hE : Hid (chkB t ps = 1) := hbad1.out (k' + 1) hlth.out fun h => hE0 (hch'.out.symm.trans h.2.2.1)
              clear hE0 hch'
              rcases hE12 with rfl | rfl
              all_goals refine wpAny_ws w5.heap.size 24 (by kernel_rfl) rfl rfl (by kernel_rfl) ?_
              all_goals simp only [List.drop_succ_cons, List.drop_zero]
              all_goals repeat (go_big_quiet_step (fail))
              all_goals refine wpQuiet_nil ?_
              all_goals rintro _ ⟨u, rfl⟩
              all_goals have hu := hC5.later u.property
              all_goals generalize u.val = wu at hu ⊢
              all_goals clear u q2 q3 q4 q5 q6 q7
              all_goals go_wp2
              all_goals go_ret
              all_goals exact ⟨ret_int hE.out.symm, hu.below⟩
      · have hall1 : Hid (∀ j, j < n → Row1 ps j) := fun j hj => hr1'.out j (by omega)
        have hnk : ¬ (k : Int) < n := by omega
        clear hr1' hbad1 hlt
        go_wp2
        go_loopw [5] (fun i wr => ∃ k : Nat, i = .int .i64 k ∧ k ≤ n ∧ CB w wr t x n c ∧ ∀ j, j < k → Row2 t ps j) (fun i _ => n - (intOf i).toNat)
        case atStart => exact ⟨0, rfl, by omega, hC, fun j hj => by omega⟩
        case round =>
          clear hC hnk b1 hkn
          obtain ⟨k, rfl, hkn, hC, hr2⟩ := hrel
          have hr2' : Hid (∀ j, j < k → Row2 t ps j) := hr2
          clear hr2
          have b1 : wr.cell? ⟨w.heap.size, 1, none⟩ = some (.slice x n c) := (box_cells hC.hb).1 1
          by_cases hlt : k < n
          · have hkw := hk.later hC.below
            obtain ⟨b, o, rfl, c0, c1, c2, c3, c4, c5, c6, c7, c8⟩ := hkw.ps.cells k hlt
            obtain ⟨hlc, hlm, hLS⟩ := hkw.ps.leases k hlt
            have hk0 : (0 : Int) ≤ k := by omega
            have hkn2 : (k : Int) < n := by omega
            have hlth : Hid (k < n) := hlt
            clear hlt
            go_upto_region 15 with fail
            obtain ⟨w2, hw2⟩ : ∃ w2, w2 = wr.alloc (poB (poAt ps k)) := ⟨_, rfl⟩
            rw [show wr.alloc (.cells #[.int .i64 (poAt ps k).id, .int .i64 (poAt ps k).up, .int .i64 (poAt ps k).a, .int .i64 (poAt ps k).l, .int .i64 (poAt ps k).mn, .int .i64 (poAt ps k).mx, .int .i64 (poAt ps k).us, .int .i64 (poAt ps k).co, .slice (poAt ps k).x (poAt ps k).n (poAt ps k).c] 49) = w2 from hw2.symm]
            have hB2 : Below wr.heap.size wr w2 := by rw [hw2]; exact bl1 _ _
            have hv2 : w2.heap[wr.heap.size]? = some (poB (poAt ps k)) := by rw [hw2]; exact heap_new _ rfl
            have hC2 := hC.later hB2
            have hLS2 := hLS.later hB2
            have hk2 := hkw.later hB2
            clear hw2 hB2 b1 c0 c1 c2 c3 c4 c5 c6 c7 c8 hLS hkw hC
            generalize wr.heap.size = pb at hv2 ⊢
            have b0 : w2.cell? ⟨w.heap.size, 0, none⟩ = some (.int .i64 t) := (box_cells hC2.hb).1 0
            have b1 : w2.cell? ⟨w.heap.size, 1, none⟩ = some (.slice (some ⟨b, o, none⟩) n c) := (box_cells hC2.hb).1 1
            have q0 : w2.cell? ⟨pb, 0, none⟩ = some (.int .i64 (poAt ps k).id) := (box_cells hv2).1 0
            have q1 : w2.cell? ⟨pb, 1, none⟩ = some (.int .i64 (poAt ps k).up) := (box_cells hv2).1 1
            have q2 : w2.cell? ⟨pb, 2, none⟩ = some (.int .i64 (poAt ps k).a) := (box_cells hv2).1 2
            have q3 : w2.cell? ⟨pb, 3, none⟩ = some (.int .i64 (poAt ps k).l) := (box_cells hv2).1 3
            have q4 : w2.cell? ⟨pb, 4, none⟩ = some (.int .i64 (poAt ps k).mn) := (box_cells hv2).1 4
            have q5 : w2.cell? ⟨pb, 5, none⟩ = some (.int .i64 (poAt ps k).mx) := (box_cells hv2).1 5
            have q6 : w2.cell? ⟨pb, 6, none⟩ = some (.int .i64 (poAt ps k).us) := (box_cells hv2).1 6
            have q7 : w2.cell? ⟨pb, 7, none⟩ = some (.int .i64 (poAt ps k).co) := (box_cells hv2).1 7
            have q8 : w2.cell? ⟨pb, 8, none⟩ = some (.slice (poAt ps k).x (poAt ps k).n (poAt ps k).c) := (box_cells hv2).1 8
            cases hup : upB ps (n + 1) (poAt ps k)
            · have hE : Hid (chkB t ps = 1) := hbad2.out k hlth.out fun h => by
                have := h.1
                rw [hpl.out, hup] at this
                cases this
              go_wp2_with fail
              refine (upFine_at t (some ⟨b, o, none⟩) n c ps (poAt ps k) false hup w2 hk2.ps (by omega)).mono ?_
              rintro e w3 ⟨rfl, hB3⟩
              go_wp2
              go_ret
              exact ⟨ret_int hE.out.symm, (hC2.later hB3).below⟩
            go_wp2_with fail
            refine (upFine_at t (some ⟨b, o, none⟩) n c ps (poAt ps k) true hup w2 hk2.ps (by omega)).mono ?_
            rintro e w3 ⟨rfl, hB3⟩
            have hup' : Hid (upB ps (n + 1) (poAt ps k) = true) := hup
            have hC3 := hC2.later hB3
            have hv3 := heap_later hB3 hv2
            have hLS3 := hLS2.later hB3
            have hk3 := hk2.later hB3
            clear hup hB3 b0 b1 q0 q1 q2 q3 q4 q5 q6 q7 q8 hC2 hv2 hLS2 hk2
            go_wp2
            go_loopw [7] (fun i wr => ∃ j : Nat, i = .int .i64 j ∧ j ≤ (poAt ps k).n ∧ Below w3.heap.size w3 wr ∧ ∀ q, q < j → leB t ps (poAt ps k).id (leAt (poAt ps k).ls q) = true) (fun i _ => (poAt ps k).n - (intOf i).toNat)
            case atStart => exact ⟨0, rfl, by omega, Below.refl _ _, fun j hj => by omega⟩
            case round =>
              obtain ⟨j, rfl, hjn, hB4, hle⟩ := hrel
              have hle' : Hid (∀ q, q < j → leB t ps (poAt ps k).id (leAt (poAt ps k).ls q) = true) := hle
              clear hle
              have hC4 := hC3.later hB4
              have hv4 := heap_later hB4 hv3
              have hk4 := hk3.later hB4
              have q8 : wr.cell? ⟨pb, 8, none⟩ = some (.slice (poAt ps k).x (poAt ps k).n (poAt ps k).c) := (box_cells hv4).1 8
              by_cases hltj : j < (poAt ps k).n
              · obtain ⟨b2, o2, hx2, e0, e1, e2, e3, e4⟩ := (hLS3.later hB4).cells j hltj
                have hjn2 : (j : Int) < (poAt ps k).n := by omega
                have hj0 : (0 : Int) ≤ j := by omega
                have hltjh : Hid (j < (poAt ps k).n) := hltj
                clear hltj
                go_upto_region 20 with fail
                have hlf := fun (T : Bool) (h : leB t ps (poAt ps k).id (leAt (poAt ps k).ls j) = T) (W : World) (hW : Bk W (some ⟨b, o, none⟩) n c ps) => leaseFine_at t (poAt ps k) (some ⟨b, o, none⟩) n c ps (leAt (poAt ps k).ls j) T h W hW.ps (by omega) ht.1 ht.2
                rw [show poV (poAt ps k) = .agg #[.int .i64 (poAt ps k).id, .int .i64 (poAt ps k).up, .int .i64 (poAt ps k).a, .int .i64 (poAt ps k).l, .int .i64 (poAt ps k).mn, .int .i64 (poAt ps k).mx, .int .i64 (poAt ps k).us, .int .i64 (poAt ps k).co, .slice (poAt ps k).x (poAt ps k).n (poAt ps k).c] from rfl] at hlf
                have q8' := q8
                rw [hx2] at q8' hlf
                have g0 := Ws.here (show wr.cell? ⟨w.heap.size, 0, none⟩ = some (.int .i64 t) from (box_cells hC4.hb).1 0)
                have g1 := Ws.here (show wr.cell? ⟨w.heap.size, 1, none⟩ = some (.slice (some ⟨b, o, none⟩) n c) from (box_cells hC4.hb).1 1)
                have k0 := Ws.here (show wr.cell? ⟨pb, 0, none⟩ = some (.int .i64 (poAt ps k).id) from (box_cells hv4).1 0)
                have k1 := Ws.here (show wr.cell? ⟨pb, 1, none⟩ = some (.int .i64 (poAt ps k).up) from (box_cells hv4).1 1)
                have k2 := Ws.here (show wr.cell? ⟨pb, 2, none⟩ = some (.int .i64 (poAt ps k).a) from (box_cells hv4).1 2)
                have k3 := Ws.here (show wr.cell? ⟨pb, 3, none⟩ = some (.int .i64 (poAt ps k).l) from (box_cells hv4).1 3)
                have k4 := Ws.here (show wr.cell? ⟨pb, 4, none⟩ = some (.int .i64 (poAt ps k).mn) from (box_cells hv4).1 4)
                have k5 := Ws.here (show wr.cell? ⟨pb, 5, none⟩ = some (.int .i64 (poAt ps k).mx) from (box_cells hv4).1 5)
                have k6 := Ws.here (show wr.cell? ⟨pb, 6, none⟩ = some (.int .i64 (poAt ps k).us) from (box_cells hv4).1 6)
                have k7 := Ws.here (show wr.cell? ⟨pb, 7, none⟩ = some (.int .i64 (poAt ps k).co) from (box_cells hv4).1 7)
                have k8 := Ws.here q8'
                have l0 := Ws.here e0
                have l1 := Ws.here e1
                have l2 := Ws.here e2
                have l3 := Ws.here e3
                have l4 := Ws.here e4
                clear q8 q8' e0 e1 e2 e3 e4
                cases hlb : leB t ps (poAt ps k).id (leAt (poAt ps k).ls j)
                all_goals refine wp_region_ws wr.heap.size (by kernel_rfl) (by kernel_rfl) ?_
                all_goals repeat (go_big_quiet_step ((go_at_call 43; exact Calls.in_ws (Nat.le_refl _) (hlf _ hlb _ (hk4.later (Ws.property _))))))
                all_goals refine wpQuiet_nil ?_
                all_goals rintro _ ⟨u, rfl⟩
                all_goals have hu := u.property
                all_goals generalize u.val = wu at hu ⊢
                all_goals clear u g0 g1 k0 k1 k2 k3 k4 k5 k6 k7 k8 l0 l1 l2 l3 l4 hlf
                all_goals go_wp2
                · have hE : chkB t ps = 1 := hbad2.out k hlth.out fun h => by
                    have := h.2.1 j hltjh.out
                    rw [hlb] at this
                    cases this
                  go_ret
                  exact ⟨ret_int hE.symm, (hC4.later hu).below⟩
                · go_roundw
                  case rel => exact ⟨j + 1, by go_num, hltjh.out, hB4.trans (hu.mono hB4.size), fun q hq => by
                    by_cases hq2 : q < j
                    · exact hle'.out q hq2
                    · obtain rfl : q = j := by omega
                      exact hlb⟩
                  case measure => have := hltjh.out; simp [intOf]; omega
              · have hall : Hid (∀ q, q < (poAt ps k).n → leB t ps (poAt ps k).id (leAt (poAt ps k).ls q) = true) := fun q hq => hle'.out q (by omega)
                have hnj : ¬ (j : Int) < (poAt ps k).n := by omega
                clear hle' hltj hC3 hv3 hk3 hLS3
                go_wp2
                go_loopw [8] (fun i wr2 => ∃ m : Nat, i = .int .i64 m ∧ m ≤ k ∧ Below wr.heap.size wr wr2 ∧ ∀ q, q < m → ((poAt ps k).up = 0 ∧ (poAt ps q).up = 0) → mts (poAt ps k).a (poAt ps k).l (poAt ps q).a (poAt ps q).l = false) (fun i _ => k - (intOf i).toNat)
                case atStart => exact ⟨0, rfl, by omega, Below.refl _ _, fun j hj => by omega⟩
                case round =>
                  clear q8 hnj hjn
                  obtain ⟨m, rfl, hmk, hB5, hmt⟩ := hrel
                  have hmt' : Hid (∀ q, q < m → ((poAt ps k).up = 0 ∧ (poAt ps q).up = 0) → mts (poAt ps k).a (poAt ps k).l (poAt ps q).a (poAt ps q).l = false) := hmt
                  clear hmt
                  have hC5 := hC4.later hB5
                  have hv5 := heap_later hB5 hv4
                  have hk5 := hk4.later hB5
                  by_cases hltm : m < k
                  · obtain ⟨b2, o2, hbo, d0, d1, d2, d3, -⟩ := hk5.ps.cells m (by have := hlth.out; omega)
                    simp only [Option.some.injEq, Addr.mk.injEq, and_true] at hbo
                    obtain ⟨rfl, rfl⟩ := hbo
                    have hmn2 : (m : Int) < n := by have := hlth.out; omega
                    have hmk2 : (m : Int) < k := by omega
                    have hm0 : (0 : Int) ≤ m := by omega
                    have hltmh : Hid (m < k) := hltm
                    clear hltm d0
                    go_upto_region 25 with fail
                    have g1 := Ws.here (show wr.cell? ⟨w.heap.size, 1, none⟩ = some (.slice (some ⟨b, o, none⟩) n c) from (box_cells hC5.hb).1 1)
                    have k1 := Ws.here (show wr.cell? ⟨pb, 1, none⟩ = some (.int .i64 (poAt ps k).up) from (box_cells hv5).1 1)
                    have k2 := Ws.here (show wr.cell? ⟨pb, 2, none⟩ = some (.int .i64 (poAt ps k).a) from (box_cells hv5).1 2)
                    have k3 := Ws.here (show wr.cell? ⟨pb, 3, none⟩ = some (.int .i64 (poAt ps k).l) from (box_cells hv5).1 3)
                    have l1 := Ws.here d1
                    have l2 := Ws.here d2
                    have l3 := Ws.here d3
                    clear d1 d2 d3
                    cases hu1 : decide ((poAt ps k).up = 0)
                    · have hz : ¬ (poAt ps k).up = 0 := by simpa using hu1
                      have hzb : ((poAt ps k).up == 0) = false := by simpa using hu1
                      refine wp_region_ws wr.heap.size (by kernel_rfl) (by kernel_rfl) ?_
                      repeat (go_big_quiet_step (fail))
                      refine wpQuiet_nil ?_
                      rintro _ ⟨u, rfl⟩
                      have hu := u.property
                      generalize u.val = wu at hu ⊢
                      clear u g1 k1 k2 k3 l1 l2 l3
                      go_wp2
                      go_roundw
                      case rel => exact ⟨m + 1, by go_num, hltmh.out, hB5.trans (hu.mono hB5.size), fun q hq hqu => absurd hqu.1 hz⟩
                      case measure => have := hltmh.out; simp [intOf]; omega
                    · have hz : (poAt ps k).up = 0 := by simpa using hu1
                      have hzb : ((poAt ps k).up == 0) = true := by simpa using hu1
                      have hz' : Hid ((poAt ps k).up = 0) := hz
                      clear hz
                      cases hu2 : decide ((poAt ps m).up = 0)
                      · have hy : ¬ (poAt ps m).up = 0 := by simpa using hu2
                        have hyb : ((poAt ps m).up == 0) = false := by simpa using hu2
                        refine wp_region_ws wr.heap.size (by kernel_rfl) (by kernel_rfl) ?_
                        repeat (go_big_quiet_step (fail))
                        refine wpQuiet_nil ?_
                        rintro _ ⟨u, rfl⟩
                        have hu := u.property
                        generalize u.val = wu at hu ⊢
                        clear u g1 k1 k2 k3 l1 l2 l3
                        go_wp2
                        go_roundw
                        case rel => exact ⟨m + 1, by go_num, hltmh.out, hB5.trans (hu.mono hB5.size), fun q hq hqu => by
                          by_cases hq2 : q < m
                          · exact hmt'.out q hq2 hqu
                          · obtain rfl : q = m := by omega
                            exact absurd hqu.2 hy⟩
                        case measure => have := hltmh.out; simp [intOf]; omega
                      · have hy' : Hid ((poAt ps m).up = 0) := by unfold Hid; simpa using hu2
                        have hyb : ((poAt ps m).up == 0) = true := by simpa using hu2
                        cases hM : mts (poAt ps k).a (poAt ps k).l (poAt ps m).a (poAt ps m).l
                        all_goals refine wp_region_ws wr.heap.size (by kernel_rfl) (by kernel_rfl) ?_
                        all_goals repeat (go_big_quiet_step ((go_at_call 28; exact Calls.in_ws (Nat.le_refl _) (meet_is _ _ _ _ _ hM _))))
                        all_goals refine wpQuiet_nil ?_
                        all_goals rintro _ ⟨u, rfl⟩
                        all_goals have hu := u.property
                        all_goals generalize u.val = wu at hu ⊢
                        all_goals clear u g1 k1 k2 k3 l1 l2 l3
                        all_goals go_wp2
                        · go_roundw
                          case rel => exact ⟨m + 1, by go_num, hltmh.out, hB5.trans (hu.mono hB5.size), fun q hq hqu => by
                            by_cases hq2 : q < m
                            · exact hmt'.out q hq2 hqu
                            · obtain rfl : q = m := by omega
                              exact hM⟩
                          case measure => have := hltmh.out; simp [intOf]; omega
                        · have hE : chkB t ps = 1 := hbad2.out k hlth.out fun h => by
                            have := h.2.2 m hltmh.out ⟨hz'.out, hy'.out⟩
                            rw [hM] at this
                            cases this
                          go_ret
                          exact ⟨ret_int hE.symm, (hC5.later hu).below⟩
                  · have hnm : ¬ (m : Int) < k := by omega
                    have hfin : Row2 t ps k := ⟨by rw [hpl.out]; exact hup'.out, hall.out, fun q hq => hmt'.out q (by omega)⟩
                    go_wp2
                    go_roundw
                    case rel => exact ⟨k + 1, by go_num, hlth.out, hC5, fun q hq => by
                      by_cases hq2 : q < k
                      · exact hr2'.out q hq2
                      · obtain rfl : q = k := by omega
                        exact hfin⟩
                    case measure => have := hlth.out; simp [intOf]; omega
          · have hnk : ¬ (k : Int) < n := by omega
            have hE : Hid (chkB t ps = 0) := hgood.out hall1.out (fun j hj => hr2'.out j (by omega))
            go_wp2
            go_ret
            exact ⟨ret_int hE.out.symm, hC.below⟩
end Go.Proofs.YtpdoonkhnabfjaaGreat
/- What CloseOf of the reference comes to. -/
namespace Go.Proofs.YtpdoonkhnabfjaaGreat
open Go.RowKit Go.Shelf

theorem backL_same {p q : Po} (h : sameP p q) {a l t : Int} : backL q a l t = backL p a l t := by
  obtain ⟨-, -, -, -, -, -, -, h1, -, h2⟩ := h
  unfold backL
  rw [h1, h2]
/-- The pool i of ps with the lease of that prefix come back. -/
def BackAt (ps : List Po) (i : Nat) (a l t : Int) (rs : List Po) : Prop := ∃ qs x' c', sameB ps qs ∧ rs = qs.set i (withL (poAt qs i) x' (backL (poAt ps i) a l t).length c' (backL (poAt ps i) a l t))
def Close2At (t : Int) (ps : List Po) (i : Nat) (rs : List Po) : Prop :=
  ∃ qs, (atId ps (poAt ps i).up < 0 → sameB ps qs) ∧ (∀ k : Nat, atId ps (poAt ps i).up = k → BackAt ps k (poAt ps i).a (poAt ps i).l t qs) ∧ rs = qs.take i ++ qs.drop (i + 1)
def Close2R (t : Int) (ps : List Po) (id : Int) (t' : Int) (rs : List Po) : Prop := t' = t ∧ Close2At t ps (atId ps id).toNat rs
def Close2Post (t : Int) (ps : List Po) (id : Int) (w : World) : Ending → World → Prop := BkPost (closeE t ps id) (Close2R t ps id) w
/-- append(s[:i], s[i+1:]...) of a row of pools of the call's own. -/
theorem cutP_run (base g k cap i : Nat) (es : List Po) (w : World) (hO : OwnP w base (.slice (some ⟨g, 0, none⟩) (k + 1) cap) es) (hn : es.length = k + 1) (hi : i ≤ k) (hnc : k + 1 ≤ cap) :
    ∃ wa, (∀ q c', ((cap = i + 1 ∧ q = 0 ∧ c' = 0) ∨ (¬ cap = i + 1 ∧ q = (i + 1) * 9 ∧ c' = cap - (i + 1))) → (Builtin.append_ #[22, 22] 22 #[.slice (some ⟨g, 0, none⟩) i cap, .slice (some ⟨g, q, none⟩) (k - i) c']).run Tryz.prog w = .ok (.slice (some ⟨g, 0, none⟩) k cap) wa) ∧
      OwnP wa base (.slice (some ⟨g, 0, none⟩) k cap) (es.take i ++ es.drop (i + 1)) ∧ w.grownBy wa (some g) := by
  obtain ⟨i0, hi0, hz0, hz1, hz2⟩ := info_P'
  have hlt : (es.take i).length = i := by rw [List.length_take]; omega
  have hld : (es.drop (i + 1)).length = k - i := by rw [List.length_drop]; omega
  have hle : (es.take i ++ es.drop (i + 1)).length = k := by rw [List.length_append, hlt, hld]; omega
  have hOi := hO.take i (by omega)
  unfold OwnP at hOi
  rw [hlt] at hOi
  have Run_P : RunP w (some ⟨g, 0, none⟩) (k + 1) es := ⟨hn, fun _ => by simp, fun ad hx q u hq => by cases hx; exact World.ownsRow.cells hO (g := g) rfl q u hq⟩
  have hrun := Run_P.drop (i := i + 1) (c := cap) (by omega) hnc
  have hik : i + (k - i) = k := by omega
  by_cases hcj : cap = i + 1
  · rw [if_pos hcj] at hrun
    obtain ⟨wa, h1, h2, h3⟩ := run_append_own_spare (P := Tryz.prog) w base 22 22 49 i0 9 under_P hi0 hz1 g i cap _ hOi ⟨g, 0, none⟩ (k - i) 0 (flatP (es.drop (i + 1))) (by rw [flatP_len, hld]) (hrun.2.2 _ rfl) (flatP_one _) (by omega)
    rw [hik] at h1 h2
    have hO2 : OwnP wa base (.slice (some ⟨g, 0, none⟩) k cap) (es.take i ++ es.drop (i + 1)) := by unfold OwnP; rw [flatP_app, hle]; exact h2
    refine ⟨wa, fun q c' h => ?_, hO2, h3⟩
    rcases h with ⟨-, rfl, rfl⟩ | ⟨h, -⟩
    · exact h1
    · exact absurd hcj h
  · rw [if_neg hcj, Nat.zero_add] at hrun
    obtain ⟨wa, h1, h2, h3⟩ := run_append_own_spare (P := Tryz.prog) w base 22 22 49 i0 9 under_P hi0 hz1 g i cap _ hOi ⟨g, (i + 1) * 9, none⟩ (k - i) (cap - (i + 1)) (flatP (es.drop (i + 1))) (by rw [flatP_len, hld]) (hrun.2.2 _ rfl) (flatP_one _) (by omega)
    rw [hik] at h1 h2
    have hO2 : OwnP wa base (.slice (some ⟨g, 0, none⟩) k cap) (es.take i ++ es.drop (i + 1)) := by unfold OwnP; rw [flatP_app, hle]; exact h2
    refine ⟨wa, fun q c' h => ?_, hO2, h3⟩
    rcases h with ⟨h, -⟩ | ⟨-, rfl, rfl⟩
    · exact absurd h hcj
    · exact h1

theorem wpList_append_run {w w' : World} {ops : Array Oper} {rest : List Oper} {o : Oper} {a : Act} {Q : Exit → Act → World → Prop} (hgd : o.guard = none) (s x : Operand) (t : TypeId)
    (ho : o.op = .call { callee := .builtin .append, args := #[s, x], argTypes := #[t, t] }) (u v r : Value) (hs : a.eval s = u) (hx : a.eval x = v) (hrun : (Builtin.append_ #[t, t] o.type #[u, v]).run Tryz.prog w = .ok r w')
    (h : wpList Tryz.prog ops Q rest (a.put o.dst r) w') : wpList Tryz.prog ops Q (o :: rest) a w := by
  refine wpList_plain hgd fun K hK => ?_
  unfold Oper.wp
  simp [execOp, ho, resolve, invoke, builtin, hs, hx, hrun, Result.andThen]
  exact hK _ _ h

end Go.Proofs.YtpdoonkhnabfjaaGreat
/- What PassOf of the reference comes to. -/
namespace Go.Proofs.YtpdoonkhnabfjaaGreat
open Go.RowKit Go.Shelf

theorem pass_next {T : Int} {ls : List Le} {j : Nat} (h : j < ls.length) : passL T (ls.take (j + 1)) = passL T (ls.take j) ++ (if cooled T (leAt ls j) = true then [] else [leAt ls j]) := by
  have h1 : ls.take (j + 1) = ls.take j ++ [leAt ls j] := by
    rw [List.take_add_one]
    congr 1
    unfold leAt
    rw [List.getD_eq_getElem?_getD, List.getElem?_eq_getElem h]
    rfl
  unfold passL
  rw [h1, List.filter_append]
  cases hc : cooled T (leAt ls j) <;> simp [hc]
theorem pass_len (T : Int) (ls : List Le) (j : Nat) : (passL T (ls.take j)).length ≤ j := Nat.le_trans (List.length_filter_le _ _) (by rw [List.length_take]; omega)

end Go.Proofs.YtpdoonkhnabfjaaGreat
/- What Close and CloseOf, Pass and PassOf make is the same. -/
namespace Go.Proofs.YtpdoonkhnabfjaaGreat
open Go.RowKit Go.Shelf

theorem sameP.symm {p q : Po} (h : sameP p q) : sameP q p := by
  obtain ⟨h0, h1, h2, h3, h4, h5, h6, h7, h8, h9⟩ := h
  exact ⟨h0.symm, h1.symm, h2.symm, h3.symm, h4.symm, h5.symm, h6.symm, h7.symm, h8.symm, h9.symm⟩
theorem sameP.trans {p q r : Po} (h : sameP p q) (g : sameP q r) : sameP p r := by
  obtain ⟨h0, h1, h2, h3, h4, h5, h6, h7, h8, h9⟩ := h
  obtain ⟨g0, g1, g2, g3, g4, g5, g6, g7, g8, g9⟩ := g
  exact ⟨h0.trans g0, h1.trans g1, h2.trans g2, h3.trans g3, h4.trans g4, h5.trans g5, h6.trans g6, h7.trans g7, h8.trans g8, h9.trans g9⟩
theorem sameB.symm {ps qs : List Po} (h : sameB ps qs) : sameB qs ps := ⟨h.1.symm, fun i hi => (h.2 i (by rw [h.1]; exact hi)).symm⟩
theorem sameB.trans {ps qs rs : List Po} (h : sameB ps qs) (g : sameB qs rs) : sameB ps rs := ⟨h.1.trans g.1, fun i hi => (h.2 i hi).trans (g.2 i (by rw [← h.1]; exact hi))⟩
theorem sameP.withL {p q : Po} (h : sameP p q) {x x' : Option Addr} {c c' n : Nat} {ls : List Le} : sameP (Go.Proofs.YtpdoonkhnabfjaaGreat.withL p x n c ls) (Go.Proofs.YtpdoonkhnabfjaaGreat.withL q x' n c' ls) := by
  obtain ⟨h0, h1, h2, h3, h4, h5, h6, h7, h8, h9⟩ := h
  exact ⟨h0, h1, h2, h3, h4, h5, h6, h7, rfl, rfl⟩
theorem sameB.set2 {qs rs : List Po} {i : Nat} {p q : Po} (h : sameB qs rs) (hi : i < qs.length) (hp : sameP p q) : sameB (qs.set i p) (rs.set i q) := by
  have hr : i < rs.length := by rw [← h.1]; exact hi
  refine ⟨by rw [List.length_set, List.length_set]; exact h.1, fun j hj => ?_⟩
  rw [List.length_set] at hj
  rw [poAt_set hi, poAt_set hr]
  by_cases hij : i = j
  · rw [if_pos hij, if_pos hij]; exact hp
  · rw [if_neg hij, if_neg hij]; exact h.2 j hj
theorem sameB.del {qs rs : List Po} {i : Nat} (h : sameB qs rs) (hi : i < qs.length) : sameB (qs.take i ++ qs.drop (i + 1)) (rs.take i ++ rs.drop (i + 1)) := by
  have hr : i < rs.length := by rw [← h.1]; exact hi
  have h1 := h.1
  have hl : (qs.take i ++ qs.drop (i + 1)).length = qs.length - 1 := by simp; omega
  refine ⟨by rw [hl]; simp; omega, fun j hj => ?_⟩
  rw [poAt_del hi, poAt_del hr]
  rw [hl] at hj
  by_cases hij : j < i
  · rw [if_pos hij, if_pos hij]; exact h.2 j (by omega)
  · rw [if_neg hij, if_neg hij]; exact h.2 (j + 1) (by omega)
theorem split_at {ls : List Le} {j : Nat} (hj : j < ls.length) : ls = ls.take j ++ leAt ls j :: ls.drop (j + 1) := by
  have h : leAt ls j = ls[j] := by unfold leAt; rw [List.getD_eq_getElem?_getD, List.getElem?_eq_getElem hj]; rfl
  rw [h, List.getElem_cons_drop, List.take_append_drop]
theorem others_at {ls : List Le} {a l : Int} {j : Nat} (h : Used (lp ls) a l) (hj : j < ls.length) : ∀ e ∈ ls.take j ++ ls.drop (j + 1), e.a ≠ (leAt ls j).a := by
  intro e he hea
  have hr := h.rise
  unfold lp at hr
  rw [List.pairwise_map, List.pairwise_iff_getElem] at hr
  rw [leAt_eq hj] at hea
  rcases List.mem_append.1 he with h1 | h1
  · obtain ⟨k, hk, rfl⟩ := List.mem_iff_getElem.1 h1
    rw [List.length_take] at hk
    have := hr k j (by omega) hj (by omega)
    simp only at this
    rw [List.getElem_take] at hea
    have hs := sp_pos (ls[k]'(by omega)).l
    omega
  · obtain ⟨k, hk, rfl⟩ := List.mem_iff_getElem.1 h1
    rw [List.length_drop] at hk
    have := hr j (j + 1 + k) hj (by omega) (by omega)
    simp only at this
    rw [List.getElem_drop] at hea
    have hs := sp_pos (ls[j]).l
    omega
theorem fm_self {f : Le → Option Le} : ∀ {l : List Le}, (∀ e ∈ l, f e = some e) → l.filterMap f = l
  | [], _ => rfl
  | e :: l, h => by
    rw [List.filterMap_cons, h e (by simp)]
    simp only
    rw [fm_self fun x hx => h x (by simp [hx])]
theorem back_cools {p : Po} {a l t A L : Int} {j : Nat} (hU : Used (lp p.ls) A L) (hj : j < p.ls.length) (ha : (leAt p.ls j).a = a) (hl : (leAt p.ls j).l = l) : backL p a l t = coolL p j t := by
  have ho := others_at hU hj
  have h1 : (p.ls.take j).filterMap (backE p.co a l t) = p.ls.take j := fm_self fun e he => back_no1 (by rw [← ha]; exact ho e (List.mem_append.2 (.inl he)))
  have h2 : (p.ls.drop (j + 1)).filterMap (backE p.co a l t) = p.ls.drop (j + 1) := fm_self fun e he => back_no1 (by rw [← ha]; exact ho e (List.mem_append.2 (.inr he)))
  have hb : backL p a l t = p.ls.take j ++ (leAt p.ls j :: p.ls.drop (j + 1)).filterMap (backE p.co a l t) := by
    unfold backL
    conv => lhs; rw [split_at hj]
    rw [List.filterMap_append, h1]
  rw [hb, List.filterMap_cons]
  unfold coolL
  by_cases hco : p.co = 0
  · rw [back_gone ha hl hco, if_pos hco]
    simp only
    rw [h2]
  · rw [back_cool ha hl hco, if_neg hco]
    simp only
    rw [h2, ha, hl, List.set_eq_take_append_cons_drop, if_pos hj]
theorem atId_self {ps : List Po} (h : idsB ps.length ps = true) {i : Nat} (hi : i < ps.length) : atId ps (poAt ps i).id = i := by
  refine atId_yes hi rfl fun j hj he => ?_
  have := ids_lt h j (i - j - 1) (by omega)
  rw [show j + (i - j - 1) + 1 = i by omega] at this
  omega
theorem root_of {t : Int} {ps : List Po} {i k j : Nat} (hc : chkB t ps = 0) (hF : Full ps) (hi : i < ps.length) (hk : atId ps (poAt ps i).up = k) (hj : j < (poAt ps k).n) (hf : firstAt (poAt ps k).n (forB (poAt ps k).ls (poAt ps i).id) = j) :
    (leAt (poAt ps k).ls j).a = (poAt ps i).a ∧ (leAt (poAt ps k).ls j).l = (poAt ps i).l := by
  obtain ⟨-, -, hids, -, hp⟩ := chk_ok hc
  obtain ⟨hkl, -, -⟩ := atId_first hk
  obtain ⟨-, -, -, hles⟩ := pool_ok (hp k hkl)
  have hle := (les_mem (hF k hkl)).1 hles _ (leAt_mem (by rw [hF k hkl]; exact hj))
  have hfor : forB (poAt ps k).ls (poAt ps i).id j = true := by
    rcases firstAt_any (n := (poAt ps k).n) (f := forB (poAt ps k).ls (poAt ps i).id) with ⟨-, j2, -, h2, -, h3⟩ | ⟨-, -, h3⟩
    · obtain rfl : j = j2 := by omega
      exact h2
    · omega
  unfold forB at hfor
  simp only [Bool.and_eq_true, beq_iff_eq] at hfor
  have hat : atId ps (leAt (poAt ps k).ls j).ow = i := by rw [hfor.2]; exact atId_self hids hi
  rw [le_2 hfor.1 hat] at hle
  unfold le2 at hle
  simp only [Bool.and_eq_true, decide_eq_true_eq] at hle
  exact ⟨hle.1.2.1.symm, hle.1.2.2.symm⟩
theorem close_same {t : Int} {ps rs rs' : List Po} {i : Nat} (hc : chkB t ps = 0) (hF : Full ps) (hi : i < ps.length) (h1 : CloseAt t ps i rs) (h2 : Close2At t ps i rs') : sameB rs rs' := by
  obtain ⟨qs, a1, a2, rfl⟩ := h1
  obtain ⟨qs', b1, b2, rfl⟩ := h2
  have key : sameB qs qs' ∧ qs.length = ps.length := by
    by_cases hn : atId ps (poAt ps i).up < 0
    · exact ⟨(a1 hn).symm.trans (b1 hn), (a1 hn).1.symm⟩
    · obtain ⟨k, hkl, hk, -⟩ := atId_range hn
      obtain ⟨j, hj, hf⟩ := up_has hc hi hk
      obtain ⟨q1, x1, c1, s1, rfl⟩ := a2 k hk
      obtain ⟨q2, x2, c2, s2, rfl⟩ := b2 k hk
      obtain ⟨r1, r2⟩ := root_of hc hF hi hk hj hf
      have hcb := back_cools (t := t) (used_mem hc k hkl) (by rw [hF k hkl]; exact hj) r1 r2
      rw [hf, Int.toNat_natCast, hcb]
      refine ⟨(s1.symm.trans s2).set2 (by rw [← s1.1]; exact hkl) ((s1.2 k hkl).symm.trans (s2.2 k hkl)).withL, by rw [List.length_set]; exact s1.1.symm⟩
  exact key.1.del (by rw [key.2]; exact hi)
theorem pass_same {T : Int} {ps qs qs' rs rs' : List Po} (s1 : sameB ps qs) (s2 : sameB ps qs') (h1 : PassTo T qs qs.length rs) (h2 : PassTo T qs' qs'.length rs') : sameB rs rs' := by
  have s := s1.symm.trans s2
  refine ⟨by rw [h1.1, h2.1]; exact s.1, fun j hj => ?_⟩
  rw [h1.1] at hj
  have hj' : j < qs'.length := by rw [← s.1]; exact hj
  obtain ⟨x1, c1, e1⟩ := (h1.2 j hj).1 hj
  obtain ⟨x2, c2, e2⟩ := (h2.2 j hj').1 hj'
  have hls : (poAt qs j).ls = (poAt qs' j).ls := (s.2 j hj).2.2.2.2.2.2.2.2.2
  rw [e1, e2, hls]
  exact (s.2 j hj).withL
end Go.Proofs.YtpdoonkhnabfjaaGreat
/- What SameBooks of the reference says of two books that are the same. -/
namespace Go.Proofs.YtpdoonkhnabfjaaGreat
open Go.RowKit Go.Shelf

theorem lease_struct : Tryz.prog.underlying 55 = some (.struct (Tryz.prog.fieldsOf 55)) := by kernel_rfl
theorem lease_held : Tryz.prog.stoodInHeld 55 = false := by kernel_rfl
theorem lease_guard : Tryz.prog.eqGuardType Tryz.prog.depth 55 = false := by kernel_rfl
theorem guard_lease (op : BinOp) (x y : Operand) (p q : Array Value) (w : World) : (eqGuard op 55 x y (.agg p) (.agg q)).run Tryz.prog w = .ok () w := by
  have h := lease_guard
  unfold eqGuard
  cases op <;> simp [go_sem, h]
theorem neq_lease_same (a l k o u : Int) (w : World) : (binOp .neq 55 (.agg #[.int .i64 a, .int .i64 l, .int .i64 k, .int .i64 o, .int .i64 u]) (.agg #[.int .i64 a, .int .i64 l, .int .i64 k, .int .i64 o, .int .i64 u])).run Tryz.prog w = .ok (.bool false) w := by
  rw [run_neq_struct, show (10000 : Nat) = 9999 + 1 from rfl, run_equalIn_agg w 9999 _ _ _ lease_struct lease_held]
  simp only [Program.fieldsOf, Tryz.underlying55]
  go_simp
theorem quiet_neqL {ops : Array Oper} {C : World → Prop} {Q : Act → Prop} {A : Act} {o : Oper} {rest : List Oper} (x y : Operand) (t : TypeId) (a l k ow u : Int) (hop : o.op = .binOp .neq 55 x y t) (hg : Region.wanted o (yielded ops A.tmps) = true)
    (hx : A.eval x = .agg #[.int .i64 a, .int .i64 l, .int .i64 k, .int .i64 ow, .int .i64 u]) (hy : A.eval y = .agg #[.int .i64 a, .int .i64 l, .int .i64 k, .int .i64 ow, .int .i64 u]) (h : wpQuiet Tryz.prog ops C Q rest (A.put o.dst (.bool false))) : wpQuiet Tryz.prog ops C Q (o :: rest) A := by
  unfold wpQuiet
  rw [if_pos hg]
  refine ⟨_, fun w _ => ?_, h⟩
  unfold Oper.quietAt execOp
  rw [hop]
  simp only [hx, hy, Sem.run_bind, guard_lease, neq_lease_same, Result.andThen_ok, Sem.run_pure]
  exact ⟨rfl, rfl⟩

/-- The boxes of the two books. -/
structure TB2 (w W : World) (t : Int) (v v2 : Value) : Prop where
  ha : W.heap[w.heap.size]? = some (bkV t v)
  hb : W.heap[w.heap.size + 1]? = some (bkV t v2)
  below : Below w.heap.size w W
theorem TB2.later {w W W' : World} {t : Int} {v v2 : Value} (h : TB2 w W t v v2) (hb : Below W.heap.size W W') : TB2 w W' t v v2 :=
  ⟨heap_later hb h.ha, heap_later hb h.hb, h.below.trans (hb.mono h.below.size)⟩

set_option maxRecDepth 100000 in
set_option maxHeartbeats 6400000 in
theorem sameBooks_yes (t : Int) (x y : Option Addr) (n c d : Nat) (ps qs : List Po) (w : World) (hp : PoS w x n ps) (hq : PoS w y n qs) (hs : sameB ps qs) (hn : n ≤ 64) :
    Calls Tryz.prog 12 #[.agg #[.int .i64 t, .slice x n c], .agg #[.int .i64 t, .slice y n d]] w fun e w' => e = .returned (.bool true) ∧ Below w.heap.size w w' := by
  have hs' : Hid (sameB ps qs) := hs
  have hpl : Hid (ps.length = n) := hp.len
  clear hs
  go_enter Tryz.func12, Tryz.ntmps12
  go_upto_region 1 with fail
  obtain ⟨w0, hw0⟩ : ∃ w0, w0 = (w.alloc (bkV t (.slice x n c))).alloc (bkV t (.slice y n d)) := ⟨_, rfl⟩
  rw [show (w.alloc (.cells #[.int .i64 t, .slice x n c] 24)).alloc (.cells #[.int .i64 t, .slice y n d] 24) = w0 from hw0.symm]
  have hT0 : TB2 w w0 t (.slice x n c) (.slice y n d) := by rw [hw0]; exact ⟨heap_old _ (heap_new _ rfl), heap_new _ (by simp), bl2 w _ _⟩
  clear hw0
  have a0 : w0.cell? ⟨w.heap.size, 0, none⟩ = some (.int .i64 t) := (box_cells hT0.ha).1 0
  have a1 : w0.cell? ⟨w.heap.size, 1, none⟩ = some (.slice x n c) := (box_cells hT0.ha).1 1
  have d0 : w0.cell? ⟨w.heap.size + 1, 0, none⟩ = some (.int .i64 t) := (box_cells hT0.hb).1 0
  have d1 : w0.cell? ⟨w.heap.size + 1, 1, none⟩ = some (.slice y n d) := (box_cells hT0.hb).1 1
  go_wp2
  clear a0 a1 d0 d1
  go_loopw [5] (fun i wr => ∃ k : Nat, i = .int .i64 k ∧ k ≤ n ∧ TB2 w wr t (.slice x n c) (.slice y n d)) (fun i _ => n - (intOf i).toNat)
  case atStart => exact ⟨0, rfl, by omega, hT0⟩
  case round =>
    clear hT0
    obtain ⟨k, rfl, hkn, hT⟩ := hrel
    have a1 : wr.cell? ⟨w.heap.size, 1, none⟩ = some (.slice x n c) := (box_cells hT.ha).1 1
    have d1 : wr.cell? ⟨w.heap.size + 1, 1, none⟩ = some (.slice y n d) := (box_cells hT.hb).1 1
    by_cases hlt : k < n
    · obtain ⟨b, o, rfl, c0, c1, c2, c3, c4, c5, c6, c7, c8⟩ := (hp.later hT.below).cells k hlt
      obtain ⟨b2, o2, rfl, e0, e1, e2, e3, e4, e5, e6, e7, e8⟩ := (hq.later hT.below).cells k hlt
      obtain ⟨hlc, hlm, hLS⟩ := (hp.later hT.below).leases k hlt
      obtain ⟨hmc, hmm, hMS⟩ := (hq.later hT.below).leases k hlt
      obtain ⟨s0, s1, s2, s3, s4, s5, s6, s7, s8, s9⟩ := hs'.out.2 k (by rw [hpl.out]; exact hlt)
      rw [← s0] at e0
      rw [← s1] at e1
      rw [← s2] at e2
      rw [← s3] at e3
      rw [← s4] at e4
      rw [← s5] at e5
      rw [← s6] at e6
      rw [← s7] at e7
      rw [← s8] at e8
      rw [← s8, ← s9] at hMS
      have hk0 : (0 : Int) ≤ k := by omega
      have hkn2 : (k : Int) < n := by omega
      have hlth : Hid (k < n) := hlt
      clear hlt s0 s1 s2 s3 s4 s5 s6 s7 s8 s9
      go_upto_region 6 with fail
      go_cut [6, 7] (fun p q wc => ∃ bp bq, p = .pointer (some ⟨bp, 0, none⟩) ∧ q = .pointer (some ⟨bq, 0, none⟩) ∧ wc.heap[bp]? = some (poB (poAt ps k)) ∧ wc.heap[bq]? = some (.cells #[.int .i64 (poAt ps k).id, .int .i64 (poAt ps k).up, .int .i64 (poAt ps k).a, .int .i64 (poAt ps k).l, .int .i64 (poAt ps k).mn, .int .i64 (poAt ps k).mx, .int .i64 (poAt ps k).us, .int .i64 (poAt ps k).co, .slice (poAt qs k).x (poAt ps k).n (poAt qs k).c] 49) ∧ Below wr.heap.size wr wc)
      case first =>
        go_region_held3 (fun w' => w'.cell? ⟨w.heap.size, 1, none⟩ = some (.slice (some ⟨b, o, none⟩) n c) ∧ w'.cell? ⟨w.heap.size + 1, 1, none⟩ = some (.slice (some ⟨b2, o2, none⟩) n d) ∧ w'.cell? ⟨b, o + k * 9, none⟩ = some (.int .i64 (poAt ps k).id) ∧ w'.cell? ⟨b, o + k * 9 + 1, none⟩ = some (.int .i64 (poAt ps k).up) ∧ w'.cell? ⟨b, o + k * 9 + 2, none⟩ = some (.int .i64 (poAt ps k).a) ∧ w'.cell? ⟨b, o + k * 9 + 3, none⟩ = some (.int .i64 (poAt ps k).l) ∧ w'.cell? ⟨b, o + k * 9 + 4, none⟩ = some (.int .i64 (poAt ps k).mn) ∧ w'.cell? ⟨b, o + k * 9 + 5, none⟩ = some (.int .i64 (poAt ps k).mx) ∧ w'.cell? ⟨b, o + k * 9 + 6, none⟩ = some (.int .i64 (poAt ps k).us) ∧ w'.cell? ⟨b, o + k * 9 + 7, none⟩ = some (.int .i64 (poAt ps k).co) ∧ w'.cell? ⟨b, o + k * 9 + 8, none⟩ = some (.slice (poAt ps k).x (poAt ps k).n (poAt ps k).c) ∧ w'.cell? ⟨b2, o2 + k * 9, none⟩ = some (.int .i64 (poAt ps k).id) ∧ w'.cell? ⟨b2, o2 + k * 9 + 1, none⟩ = some (.int .i64 (poAt ps k).up) ∧ w'.cell? ⟨b2, o2 + k * 9 + 2, none⟩ = some (.int .i64 (poAt ps k).a) ∧ w'.cell? ⟨b2, o2 + k * 9 + 3, none⟩ = some (.int .i64 (poAt ps k).l) ∧ w'.cell? ⟨b2, o2 + k * 9 + 4, none⟩ = some (.int .i64 (poAt ps k).mn) ∧ w'.cell? ⟨b2, o2 + k * 9 + 5, none⟩ = some (.int .i64 (poAt ps k).mx) ∧ w'.cell? ⟨b2, o2 + k * 9 + 6, none⟩ = some (.int .i64 (poAt ps k).us) ∧ w'.cell? ⟨b2, o2 + k * 9 + 7, none⟩ = some (.int .i64 (poAt ps k).co) ∧ w'.cell? ⟨b2, o2 + k * 9 + 8, none⟩ = some (.slice (poAt qs k).x (poAt ps k).n (poAt qs k).c)) (first | (go_keep; done)) (fail)
        · go_wp2
          go_meet
          case rel => exact ⟨wr.heap.size, wr.heap.size + 1, rfl, rfl, heap_old _ (heap_new _ rfl), heap_new _ (by simp), (bl2 wr _ _).drew⟩
        · go_wp2
          go_meet
          case rel => exact ⟨wr.heap.size + 1, wr.heap.size, rfl, rfl, heap_new _ (by simp), heap_old _ (heap_new _ rfl), (bl2 wr _ _).drew⟩
      case rest =>
        obtain ⟨bp, bq, rfl, rfl, hv, hu, hBc⟩ := hcut
        clear a1 d1 c0 c1 c2 c3 c4 c5 c6 c7 c8 e0 e1 e2 e3 e4 e5 e6 e7 e8
        have hTc := hT.later hBc
        have hLc := hLS.later hBc
        have hMc := hMS.later hBc
        clear hT hLS hMS hBc
        have p0 : wc.cell? ⟨bp, 0, none⟩ = some (.int .i64 (poAt ps k).id) := (box_cells hv).1 0
        have r0 : wc.cell? ⟨bq, 0, none⟩ = some (.int .i64 (poAt ps k).id) := (box_cells hu).1 0
        have p1 : wc.cell? ⟨bp, 1, none⟩ = some (.int .i64 (poAt ps k).up) := (box_cells hv).1 1
        have r1 : wc.cell? ⟨bq, 1, none⟩ = some (.int .i64 (poAt ps k).up) := (box_cells hu).1 1
        have p2 : wc.cell? ⟨bp, 2, none⟩ = some (.int .i64 (poAt ps k).a) := (box_cells hv).1 2
        have r2 : wc.cell? ⟨bq, 2, none⟩ = some (.int .i64 (poAt ps k).a) := (box_cells hu).1 2
        have p3 : wc.cell? ⟨bp, 3, none⟩ = some (.int .i64 (poAt ps k).l) := (box_cells hv).1 3
        have r3 : wc.cell? ⟨bq, 3, none⟩ = some (.int .i64 (poAt ps k).l) := (box_cells hu).1 3
        have p4 : wc.cell? ⟨bp, 4, none⟩ = some (.int .i64 (poAt ps k).mn) := (box_cells hv).1 4
        have r4 : wc.cell? ⟨bq, 4, none⟩ = some (.int .i64 (poAt ps k).mn) := (box_cells hu).1 4
        have p5 : wc.cell? ⟨bp, 5, none⟩ = some (.int .i64 (poAt ps k).mx) := (box_cells hv).1 5
        have r5 : wc.cell? ⟨bq, 5, none⟩ = some (.int .i64 (poAt ps k).mx) := (box_cells hu).1 5
        have p6 : wc.cell? ⟨bp, 6, none⟩ = some (.int .i64 (poAt ps k).us) := (box_cells hv).1 6
        have r6 : wc.cell? ⟨bq, 6, none⟩ = some (.int .i64 (poAt ps k).us) := (box_cells hu).1 6
        have p7 : wc.cell? ⟨bp, 7, none⟩ = some (.int .i64 (poAt ps k).co) := (box_cells hv).1 7
        have r7 : wc.cell? ⟨bq, 7, none⟩ = some (.int .i64 (poAt ps k).co) := (box_cells hu).1 7
        have p8 : wc.cell? ⟨bp, 8, none⟩ = some (.slice (poAt ps k).x (poAt ps k).n (poAt ps k).c) := (box_cells hv).1 8
        have r8 : wc.cell? ⟨bq, 8, none⟩ = some (.slice (poAt qs k).x (poAt ps k).n (poAt qs k).c) := (box_cells hu).1 8
        go_wp2
        clear p0 p1 p2 p3 p4 p5 p6 p7 p8 r0 r1 r2 r3 r4 r5 r6 r7 r8
        go_loopw [8] (fun i ws => ∃ j : Nat, i = .int .i64 j ∧ j ≤ (poAt ps k).n ∧ Below wc.heap.size wc ws) (fun i _ => (poAt ps k).n - (intOf i).toNat)
        case atStart => exact ⟨0, rfl, by omega, Below.refl _ _⟩
        case round =>
          obtain ⟨j, rfl, hjn, hBj⟩ := hrel
          have hv' := heap_later hBj hv
          have hu' := heap_later hBj hu
          have p8 : wr.cell? ⟨bp, 8, none⟩ = some (.slice (poAt ps k).x (poAt ps k).n (poAt ps k).c) := (box_cells hv').1 8
          have r8 : wr.cell? ⟨bq, 8, none⟩ = some (.slice (poAt qs k).x (poAt ps k).n (poAt qs k).c) := (box_cells hu').1 8
          by_cases hltj : j < (poAt ps k).n
          · obtain ⟨b3, o3, hx3, l0, l1, l2, l3, l4⟩ := (hLc.later hBj).cells j hltj
            obtain ⟨b4, o4, hx4, m0, m1, m2, m3, m4⟩ := (hMc.later hBj).cells j hltj
            rw [hx3] at p8
            rw [hx4] at r8
            have hj0 : (0 : Int) ≤ j := by omega
            have hjn2 : (j : Int) < (poAt ps k).n := by omega
            have hltjh : Hid (j < (poAt ps k).n) := hltj
            clear hltj
            go_upto_region 12 with fail
            have g0 := Ws.here p8
            have g1 := Ws.here r8
            have f0 := Ws.here l0
            have f1 := Ws.here l1
            have f2 := Ws.here l2
            have f3 := Ws.here l3
            have f4 := Ws.here l4
            have h0 := Ws.here m0
            have h1 := Ws.here m1
            have h2 := Ws.here m2
            have h3 := Ws.here m3
            have h4 := Ws.here m4
            clear p8 r8 l0 l1 l2 l3 l4 m0 m1 m2 m3 m4
            refine wp_region_ws wr.heap.size (by kernel_rfl) (by kernel_rfl) ?_
            repeat (go_big_quiet_step (fail))
            refine wpQuiet_nil ?_
            rintro _ ⟨u, rfl⟩
            have hub := hBj.trans (u.property.mono hBj.size)
            generalize u.val = wu at hub ⊢
            clear u g0 g1 f0 f1 f2 f3 f4 h0 h1 h2 h3 h4
            go_wp2
            go_roundw
            case rel => exact ⟨j + 1, by go_num, hltjh.out, hub⟩
            case measure => have := hltjh.out; simp [intOf]; omega
          · have hnj : ¬ (j : Int) < (poAt ps k).n := by omega
            have hTj := hTc.later hBj
            go_wp2
            go_roundw
            case rel => exact ⟨k + 1, by go_num, hlth.out, hTj⟩
            case measure => have := hlth.out; simp [intOf]; omega
    · have hnk : ¬ (k : Int) < n := by omega
      go_wp2
      go_ret
      exact ⟨rfl, hT.below⟩
end Go.Proofs.YtpdoonkhnabfjaaGreat
/- What PoolCloses comes to: it answers true. -/
namespace Go.Proofs.YtpdoonkhnabfjaaGreat
open Go.RowKit Go.Shelf

theorem hid_mk {p : Prop} (h : p) : Hid p := h
/-- Few pools, and few leases in each. -/
def Small (rs : List Po) : Prop := rs.length ≤ 64 ∧ ∀ j, j < rs.length → (poAt rs j).n ≤ 1048576
theorem Small.same {rs rs' : List Po} (h : Small rs) (hs : sameB rs rs') : Small rs' := ⟨by rw [← hs.1]; exact h.1, fun j hj => by
  rw [← (hs.2 j (by rw [hs.1]; exact hj)).2.2.2.2.2.2.2.2.1]
  exact h.2 j (by rw [hs.1]; exact hj)⟩
theorem Small.nil : Small [] := ⟨by simp, fun j hj => by simp at hj⟩
/-- Two books of the call's own, the same but for where they lie. -/
structure Twin (W : World) (t t' : Int) (v v' : Value) : Prop where
  tick : t = t'
  books : ∃ x y n c d ps qs, v = .slice x n c ∧ v' = .slice y n d ∧ PoS W x n ps ∧ PoS W y n qs ∧ sameB ps qs ∧ n ≤ 64
theorem Twin.later {W W' : World} {t t' : Int} {v v' : Value} (h : Twin W t t' v v') (hb : Below W.heap.size W W') : Twin W' t t' v v' := by
  obtain ⟨ht, x, y, n, c, d, ps, qs, h1, h2, h3, h4, h5, h6⟩ := h
  exact ⟨ht, x, y, n, c, d, ps, qs, h1, h2, h3.later hb, h4.later hb, h5, h6⟩
theorem Twin.of {W : World} {b b' : Nat} {t t' : Int} {v v' : Value} {rs rs' : List Po} (ht : t = t') (h : OBk W b v rs rs.length) (h' : OBk W b' v' rs' rs'.length) (hs : sameB rs rs') (hm : Small rs) : Twin W t t' v v' := by
  have hm' := hm.same hs
  obtain ⟨x, c, rfl, hB⟩ := h.bk hm.2
  obtain ⟨y, d, rfl, hB'⟩ := h'.bk hm'.2
  have hl := hs.1
  rw [← hl] at hB' ⊢
  exact ⟨ht, x, y, rs.length, c, d, rs, rs', rfl, rfl, hB.ps, hB'.ps, hs, hm.1⟩
theorem sameBooks_twin {W : World} {t t' : Int} {v v' : Value} (h : Twin W t t' v v') : Calls Tryz.prog 12 #[.agg #[.int .i64 t, v], .agg #[.int .i64 t', v']] W fun e w' => e = .returned (.bool true) ∧ Below W.heap.size W w' := by
  obtain ⟨rfl, x, y, n, c, d, ps, qs, rfl, rfl, h3, h4, h5, h6⟩ := h
  exact sameBooks_yes t x y n c d ps qs W h3 h4 h5 h6
theorem chk_small {t : Int} {ps : List Po} (hc : chkB t ps = 0) : Small ps := ⟨by have := (chk_ok hc).1; omega, fun j hj => by have := (chk_pool hc j hj).1; omega⟩
theorem Small.del {qs : List Po} {i : Nat} (h : Small qs) (hi : i < qs.length) : Small (qs.take i ++ qs.drop (i + 1)) := by
  have hl : (qs.take i ++ qs.drop (i + 1)).length = qs.length - 1 := by simp; omega
  refine ⟨by have := h.1; omega, fun j hj => ?_⟩
  rw [hl] at hj
  rw [poAt_del hi]
  split
  · exact h.2 j (by omega)
  · exact h.2 (j + 1) (by omega)
theorem Small.cool {ps rs : List Po} {t T : Int} {k j : Nat} (hc : chkB t ps = 0) (hF : Full ps) (hk : k < ps.length) (hj : j < (poAt ps k).n) (h : CoolAt ps k j T rs) : Small rs ∧ rs.length = ps.length := by
  obtain ⟨qs, x', c', hs, rfl⟩ := h
  have hm := (chk_small hc).same hs
  have hkq : k < qs.length := by rw [← hs.1]; exact hk
  refine ⟨⟨by rw [List.length_set]; exact hm.1, fun q hq => ?_⟩, by rw [List.length_set]; exact hs.1.symm⟩
  rw [List.length_set] at hq
  rw [poAt_set hkq]
  split
  · have h1 := cool_len (p := poAt ps k) (t := T) (j := j) (by rw [hF k hk]; exact hj)
    rw [hF k hk] at h1
    have h2 := (chk_pool hc k hk).1
    show (coolL (poAt ps k) j T).length ≤ 1048576
    omega
  · exact hm.2 q hq
theorem close_small {t : Int} {ps rs : List Po} {i : Nat} (hc : chkB t ps = 0) (hF : Full ps) (hi : i < ps.length) (h : CloseAt t ps i rs) : Small rs := by
  obtain ⟨qs, a1, a2, rfl⟩ := h
  have key : Small qs ∧ qs.length = ps.length := by
    by_cases hn : atId ps (poAt ps i).up < 0
    · exact ⟨(chk_small hc).same (a1 hn), (a1 hn).1.symm⟩
    · obtain ⟨k, hkl, hk, -⟩ := atId_range hn
      obtain ⟨j, hj, hf⟩ := up_has hc hi hk
      have h2 := a2 k hk
      rw [hf, Int.toNat_natCast] at h2
      exact Small.cool hc hF hkl hj h2
  exact key.1.del (by rw [key.2]; exact hi)
theorem close_ok {t : Int} {ps : List Po} {id : Int} (h : closeE t ps id = 0) : chkB t ps = 0 ∧ (atId ps id).toNat < ps.length := by
  unfold closeE at h
  by_cases h1 : chkB t ps = 0
  · rw [if_neg (by simp [h1])] at h
    by_cases h2 : atId ps id < 0
    · rw [if_pos h2] at h; cases h
    · obtain ⟨i, hi, he, -⟩ := atId_range h2
      exact ⟨h1, by rw [he, Int.toNat_natCast]; exact hi⟩
  · rw [if_pos h1] at h; exact absurd h h1
theorem twin_close {W : World} {b b' : Nat} {t t1 t2 id : Int} {v1 v2 : Value} {ps rs1 rs2 : List Po} (hF : Full ps) (o1 : OBk W b v1 rs1 rs1.length) (o2 : OBk W b' v2 rs2 rs2.length)
    (z1 : closeE t ps id ≠ 0 → t1 = 0 ∧ rs1 = [] ∧ v1 = .slice none 0 0) (z2 : closeE t ps id ≠ 0 → t2 = 0 ∧ rs2 = [] ∧ v2 = .slice none 0 0) (r1 : closeE t ps id = 0 → CloseR t ps id t1 rs1) (r2 : closeE t ps id = 0 → Close2R t ps id t2 rs2) : Twin W t1 t2 v1 v2 := by
  by_cases h : closeE t ps id = 0
  · obtain ⟨hc, hi⟩ := close_ok h
    obtain ⟨e1, f1⟩ := r1 h
    obtain ⟨e2, f2⟩ := r2 h
    exact Twin.of (e1.trans e2.symm) o1 o2 (close_same hc hF hi f1 f2) (close_small hc hF hi f1)
  · obtain ⟨e1, rfl, rfl⟩ := z1 h
    obtain ⟨e2, rfl, rfl⟩ := z2 h
    exact Twin.of (e1.trans e2.symm) o1 o2 (sameB.refl _) Small.nil
theorem twin_pass {W : World} {b b' : Nat} {t t1 t2 m : Int} {v1 v2 : Value} {ps rs1 rs2 : List Po} (hF : Full ps) (o1 : OBk W b v1 rs1 rs1.length) (o2 : OBk W b' v2 rs2 rs2.length)
    (z1 : passE t ps m ≠ 0 → t1 = 0 ∧ rs1 = [] ∧ v1 = .slice none 0 0) (z2 : passE t ps m ≠ 0 → t2 = 0 ∧ rs2 = [] ∧ v2 = .slice none 0 0) (r1 : passE t ps m = 0 → PassR t ps m t1 rs1) (r2 : passE t ps m = 0 → PassR t ps m t2 rs2) : Twin W t1 t2 v1 v2 := by
  by_cases h : passE t ps m = 0
  · obtain ⟨hc, -, -⟩ := pass_ok h
    obtain ⟨e1, q1, s1, f1⟩ := r1 h
    obtain ⟨e2, q2, s2, f2⟩ := r2 h
    refine Twin.of (e1.trans e2.symm) o1 o2 (pass_same s1 s2 f1 f2) ⟨by rw [f1.1]; exact ((chk_small hc).same s1).1, fun j hj => ?_⟩
    rw [f1.1] at hj
    obtain ⟨x, c, e⟩ := (f1.2 j hj).1 hj
    have hj2 : j < ps.length := by rw [s1.1]; exact hj
    have hls : (poAt ps j).ls = (poAt q1 j).ls := (s1.2 j hj2).2.2.2.2.2.2.2.2.2
    rw [e]
    show (passL (t + m) (poAt q1 j).ls).length ≤ 1048576
    have h1 : (passL (t + m) (poAt q1 j).ls).length ≤ (poAt q1 j).ls.length := List.length_filter_le _ _
    rw [← hls, hF j hj2] at h1
    have h2 := (chk_pool hc j hj2).1
    rw [← hls]
    omega
  · obtain ⟨e1, rfl, rfl⟩ := z1 h
    obtain ⟨e2, rfl, rfl⟩ := z2 h
    exact Twin.of (e1.trans e2.symm) o1 o2 (sameB.refl _) Small.nil

end Go.Proofs.YtpdoonkhnabfjaaGreat
/- What room of the reference comes to. -/
namespace Go.Proofs.YtpdoonkhnabfjaaGreat
open Go.RowKit Go.Shelf

theorem pfit_is {p : Po} {z : Int} (hc : chkS p.a p.l p.n (lp p.ls) = 0) (hn : p.n ≠ 32) (h1 : p.l ≤ z) (h2 : z ≤ 16) : FitIs (lp p.ls) p.a p.l z (pfitS p z) := by
  obtain ⟨-, hr, hap⟩ := chkS_ok hc
  obtain ⟨l0, l1, a0, a1, -⟩ := rt_range hr
  have hH := hol_are (lp p.ls) (16 - p.l).toNat p.a p.l hr (by omega)
  have hE : fitE p.a p.l p.n (lp p.ls) z = 0 := by unfold fitE; rw [if_pos hc, if_neg (by omega)]
  unfold pfitS
  rw [if_neg hn]
  unfold fitS
  rw [if_pos hE]
  exact fit_hol hH h2

set_option maxRecDepth 100000 in
set_option maxHeartbeats 1600000 in
theorem room_any (p : Po) (z : Int) (w : World) (hp : LS w p.x p.n p.ls) (hc : chkS p.a p.l p.n (lp p.ls) = 0) (h1 : p.l ≤ z) (h2 : z ≤ 16) :
    Calls Tryz.prog 32 #[poV p, .int .i64 z] w fun e w' => e = .returned (fitR z (pfitS p z)) ∧ Below w.heap.size w w' := by
  obtain ⟨hn32, hr, -⟩ := chkS_ok hc
  have hfit : Hid (p.n ≠ 32 → FitIs (lp p.ls) p.a p.l z (pfitS p z)) := fun h => pfit_is hc h h1 h2
  go_enter Tryz.func32, Tryz.ntmps32
  go_upto_region 1 with fail
  obtain ⟨w0, hw0⟩ : ∃ w0, w0 = (w.alloc (poB p)).alloc (.cells #[.int .i64 0, .int .i64 0] 26) := ⟨_, rfl⟩
  rw [← hw0]
  have hB0 : Below w.heap.size w w0 := by rw [hw0]; exact bl2 w _ _
  have hb0 : w0.heap[w.heap.size]? = some (poB p) := by rw [hw0]; exact heap_old _ (heap_new _ rfl)
  have hs0 : w0.heap[w.heap.size + 1]? = some (.cells #[.int .i64 0, .int .i64 0] 26) := by rw [hw0]; exact heap_new _ (by simp)
  clear hw0
  have q8 : w0.cell? ⟨w.heap.size, 8, none⟩ = some (.slice p.x p.n p.c) := (box_cells hb0).1 8
  have s0 : w0.cell? ⟨w.heap.size + 1, 0, none⟩ = some (.int .i64 0) := (box_cells hs0).1 0
  have s1 : w0.cell? ⟨w.heap.size + 1, 1, none⟩ = some (.int .i64 0) := (box_cells hs0).1 1
  have zs0 := (box_cells hs0).2 0
  have zs1 := (box_cells hs0).2 1
  by_cases hn : p.n = 32
  · have hq : Hid (fitR z (pfitS p z) = .tuple #[.agg #[.int .i64 0, .int .i64 0], .bool false]) := by unfold Hid pfitS; rw [if_pos hn]; rfl
    have hge : (p.n : Int) ≥ 32 := by omega
    go_wp2
    refine bodyPost_ret (v := .tuple #[.agg #[.int .i64 0, .int .i64 0], .bool false]) (by simp [results, Tryz.results32, go_sem, s0, s1]) rfl ?_
    exact ⟨by rw [hq.out], (hB0.setCell (p := ⟨w.heap.size + 1, 0, none⟩) (Nat.le_succ _) _).setCell (p := ⟨w.heap.size + 1, 1, none⟩) (Nat.le_succ _) _⟩
  · have hge : ¬ (p.n : Int) ≥ 32 := by omega
    have hfi : Hid (FitIs (lp p.ls) p.a p.l z (pfitS p z)) := hfit.out hn
    have q0 : w0.cell? ⟨w.heap.size, 0, none⟩ = some (.int .i64 p.id) := (box_cells hb0).1 0
    have q1 : w0.cell? ⟨w.heap.size, 1, none⟩ = some (.int .i64 p.up) := (box_cells hb0).1 1
    have q2 : w0.cell? ⟨w.heap.size, 2, none⟩ = some (.int .i64 p.a) := (box_cells hb0).1 2
    have q3 : w0.cell? ⟨w.heap.size, 3, none⟩ = some (.int .i64 p.l) := (box_cells hb0).1 3
    have q4 : w0.cell? ⟨w.heap.size, 4, none⟩ = some (.int .i64 p.mn) := (box_cells hb0).1 4
    have q5 : w0.cell? ⟨w.heap.size, 5, none⟩ = some (.int .i64 p.mx) := (box_cells hb0).1 5
    have q6 : w0.cell? ⟨w.heap.size, 6, none⟩ = some (.int .i64 p.us) := (box_cells hb0).1 6
    have q7 : w0.cell? ⟨w.heap.size, 7, none⟩ = some (.int .i64 p.co) := (box_cells hb0).1 7
    go_wp2_with fail
    refine (spaceOfR_any p w0 (hp.later hB0) (by omega)).mono ?_
    rintro e w1 ⟨x1, c1, rfl, hb1, hps⟩
    have hs1' := heap_later hb1 hs0
    clear q0 q1 q2 q3 q4 q5 q6 q7 q8 s0 s1 zs0 zs1
    go_wp2_with fail
    refine (fitOf_any p.a p.l z x1 p.n c1 (lp p.ls) w1 hps (by omega) hr h1 h2).mono ?_
    rintro e w2 ⟨hb2, r, hr2, rfl⟩
    have hrr : r = pfitS p z := FitIs.one hr2 hfi.out
    rw [hrr]
    have hB2 : Below w.heap.size w w2 := (hB0.trans (hb1.mono hB0.size)).trans (hb2.mono (Nat.le_trans hB0.size hb1.size))
    have hs2 := heap_later hb2 hs1'
    clear hrr hr2 hfi hfit
    have s0 : w2.cell? ⟨w.heap.size + 1, 0, none⟩ = some (.int .i64 0) := (box_cells hs2).1 0
    have s1 : w2.cell? ⟨w.heap.size + 1, 1, none⟩ = some (.int .i64 0) := (box_cells hs2).1 1
    have zs0 := (box_cells hs2).2 0
    have zs1 := (box_cells hs2).2 1
    cases hq : pfitS p z with
    | none =>
      unfold fitR
      go_wp2
      refine bodyPost_ret (v := .tuple #[.agg #[.int .i64 0, .int .i64 0], .bool false]) (by simp [results, Tryz.results32, go_sem, s0, s1]) rfl ?_
      exact ⟨by first | rfl | (rw [hq]; rfl), (hB2.setCell (p := ⟨w.heap.size + 1, 0, none⟩) (Nat.le_succ _) _).setCell (p := ⟨w.heap.size + 1, 1, none⟩) (Nat.le_succ _) _⟩
    | some y =>
      unfold fitR
      go_wp2
      refine bodyPost_ret (v := .tuple #[.agg #[.int .i64 y, .int .i64 z], .bool true]) (by simp [results, Tryz.results32, go_sem, s0, s1]) rfl ?_
      exact ⟨by first | rfl | (rw [hq]; rfl), (hB2.setCell (p := ⟨w.heap.size + 1, 0, none⟩) (Nat.le_succ _) _).setCell (p := ⟨w.heap.size + 1, 1, none⟩) (Nat.le_succ _) _⟩
end Go.Proofs.YtpdoonkhnabfjaaGreat
/- What addLease of the reference comes to: the lease stands ahead of the first one that begins behind it. -/
namespace Go.Proofs.YtpdoonkhnabfjaaGreat
open Go.RowKit Go.Shelf

/-- What has been made of the first q leases, and whether e is in it. -/
def insR (e : Le) (ls : List Le) : Nat → Bool × List Le
  | 0 => (false, [])
  | q + 1 => if (insR e ls q).1 = false ∧ e.a < (leAt ls q).a then (true, (insR e ls q).2 ++ [e] ++ [leAt ls q]) else ((insR e ls q).1, (insR e ls q).2 ++ [leAt ls q])
def insE (e : Le) (ls : List Le) : List Le := if (insR e ls ls.length).1 = true then (insR e ls ls.length).2 else (insR e ls ls.length).2 ++ [e]
theorem take_nxt {ls : List Le} {q : Nat} (h : q < ls.length) : ls.take (q + 1) = ls.take q ++ [leAt ls q] := by
  rw [List.take_add_one]
  congr 1
  unfold leAt
  rw [List.getD_eq_getElem?_getD, List.getElem?_eq_getElem h]
  rfl
theorem insR_spec (e : Le) (ls : List Le) : ∀ q, q ≤ ls.length → ((insR e ls q).1 = false ∧ (∀ j, j < q → ¬ e.a < (leAt ls j).a) ∧ (insR e ls q).2 = ls.take q) ∨
    ((insR e ls q).1 = true ∧ ∃ i, i < q ∧ (∀ j, j < i → ¬ e.a < (leAt ls j).a) ∧ e.a < (leAt ls i).a ∧ (insR e ls q).2 = ls.take i ++ [e] ++ (ls.take q).drop i)
  | 0, _ => .inl ⟨rfl, fun j hj => by omega, by simp [insR]⟩
  | q + 1, h => by
    rcases insR_spec e ls q (by omega) with ⟨h1, h2, h3⟩ | ⟨h1, i, hi, h2, h3, h4⟩
    · by_cases hlt : e.a < (leAt ls q).a
      · refine .inr ⟨by simp only [insR, h1, hlt, and_self, if_true], q, by omega, h2, hlt, ?_⟩
        simp only [insR, h1, hlt, and_self, if_true, h3]
        rw [take_nxt (by omega), List.drop_append_of_le_length (by simp; omega), List.drop_of_length_le (by rw [List.length_take]; omega)]
        simp
      · refine .inl ⟨by simp only [insR, h1, hlt, and_false, if_false], fun j hj => ?_, ?_⟩
        · by_cases hj2 : j < q
          · exact h2 j hj2
          · obtain rfl : j = q := by omega
            exact hlt
        · simp only [insR, h1, hlt, and_false, if_false, h3]
          rw [take_nxt (by omega)]
    · refine .inr ⟨by simp [insR, h1], i, by omega, h2, h3, ?_⟩
      have hx : (insR e ls (q + 1)).2 = (insR e ls q).2 ++ [leAt ls q] := by simp [insR, h1]
      rw [hx, take_nxt (by omega), List.drop_append_of_le_length (by simp; omega), h4]
      simp
theorem ins_len (e : Le) (ls : List Le) : ∀ q, (insR e ls q).2.length ≤ q + 1 ∧ ((insR e ls q).1 = false → (insR e ls q).2.length ≤ q)
  | 0 => by simp [insR]
  | q + 1 => by
    obtain ⟨h1, h2⟩ := ins_len e ls q
    unfold insR
    split
    · rename_i h
      have := h2 h.1
      exact ⟨by simp; omega, fun h => by cases h⟩
    · exact ⟨by simp; omega, fun h => by have := h2 h; simp; omega⟩
theorem ins_put (e : Le) (ls : List Le) : PutLe e ls (insE e ls) := by
  unfold insE
  rcases insR_spec e ls ls.length (Nat.le_refl _) with ⟨h1, h2, h3⟩ | ⟨h1, i, hi, h2, h3, h4⟩
  · rw [h1, if_neg (by decide), h3]
    exact ⟨ls.length, Nat.le_refl _, h2, fun h => by omega, by simp⟩
  · rw [h1, if_pos rfl, h4]
    exact ⟨i, by omega, h2, fun _ => h3, by simp⟩
theorem OwnL.put {w : World} {base b o : Nat} {u v : Value} {es : List Le} (h : OwnL w base v es) (hb : b < base) : OwnL (w.setCell ⟨b, o, none⟩ u) base v es :=
  h.kept (set_grown _ _ _ _) (fun k hk e => by have := (h.lt k hk).1; omega)
theorem Below.put9 {w W : World} (h : Below w.heap.size w W) (o : Nat) (u : Value) : Below w.heap.size w (W.setCell ⟨w.heap.size + 1 + 1, o, none⟩ u) :=
  h.setCell (p := ⟨w.heap.size + 1 + 1, o, none⟩) (by show w.heap.size ≤ w.heap.size + 1 + 1; omega) u
def AddRPost (p : Po) (e : Le) (w : World) (r : Ending) (w' : World) : Prop :=
  ∃ x' c', r = .returned (poV (withL p x' (insE e p.ls).length c' (insE e p.ls))) ∧ OwnL w' w.heap.size (.slice x' (insE e p.ls).length c') (insE e p.ls) ∧ Below w.heap.size w w'

set_option maxRecDepth 100000 in
set_option maxHeartbeats 3200000 in
theorem addLeaseR_any (p : Po) (e : Le) (w : World) (hp : LS w p.x p.n p.ls) (hn : p.n ≤ 32) :
    Calls Tryz.prog 33 #[poV p, leV e] w (AddRPost p e w) := by
  have hll : Hid (p.ls.length = p.n) := hp.len
  go_enter Tryz.func33, Tryz.ntmps33
  go_upto_region 1 with fail
  obtain ⟨w2, hw2⟩ : ∃ w2, w2 = ((w.alloc (poB p)).alloc (leO e)).alloc (poB poZ) := ⟨_, rfl⟩
  rw [show ((w.alloc (.cells #[.int .i64 p.id, .int .i64 p.up, .int .i64 p.a, .int .i64 p.l, .int .i64 p.mn, .int .i64 p.mx, .int .i64 p.us, .int .i64 p.co, .slice p.x p.n p.c] 49)).alloc (.cells #[.int .i64 e.a, .int .i64 e.l, .int .i64 e.kd, .int .i64 e.ow, .int .i64 e.un] 55)).alloc (.cells #[.int .i64 0, .int .i64 0, .int .i64 0, .int .i64 0, .int .i64 0, .int .i64 0, .int .i64 0, .int .i64 0, .slice none 0 0] 49) = w2 from hw2.symm]
  have hB2 : Below w.heap.size w w2 := by rw [hw2]; exact (bl2 w _ _).trans ((bl1 _ _).mono (by simp; omega))
  have hb2 : w2.heap[w.heap.size]? = some (poB p) := by rw [hw2]; exact heap_old _ (heap_old _ (heap_new _ rfl))
  have hl2 : w2.heap[w.heap.size + 1]? = some (leO e) := by rw [hw2]; exact heap_old _ (heap_new _ (by simp))
  have hs2 : w2.heap[w.heap.size + 2]? = some (poB poZ) := by rw [hw2]; exact heap_new _ (by simp)
  have hz2 : w2.heap.size = w.heap.size + 3 := by rw [hw2]; simp
  have hLS2 := hp.later hB2
  clear hw2
  go_wp2
  go_loopw [7, 6, 5] (fun kk dd vv wr => ∃ q : Nat, kk = .int .i64 q ∧ q ≤ p.n ∧ dd = .bool (insR e p.ls q).1 ∧ Below w2.heap.size w2 wr ∧ OwnL wr w2.heap.size vv (insR e p.ls q).2) (fun kk _ _ _ => p.n - (intOf kk).toNat)
  case atStart => exact ⟨0, rfl, by omega, rfl, Below.refl _ _, World.ownsRow_nil _ _ _ _⟩
  case round =>
    obtain ⟨q, rfl, hqn, rfl, hB, hOv⟩ := hrel
    have hbr := heap_later hB hb2
    have hlr := heap_later hB hl2
    have hvl : Hid ((insR e p.ls q).2.length ≤ 40) := by
      unfold Hid
      have := (ins_len e p.ls q).1
      omega
    have p8 : wr.cell? ⟨w.heap.size, 8, none⟩ = some (.slice p.x p.n p.c) := (box_cells hbr).1 8
    by_cases hlt : q < p.n
    · obtain ⟨b2, o2, hx2, e0, e1, e2, e3, e4⟩ := (hLS2.later hB).cells q hlt
      rw [hx2] at p8
      have hq0 : (0 : Int) ≤ q := by omega
      have hqn2 : (q : Int) < p.n := by omega
      have hlth : Hid (q < p.n) := hlt
      clear hlt
      obtain ⟨f, hf⟩ : ∃ f, Hid (f = leAt p.ls q) := ⟨_, rfl⟩
      rw [← hf.out] at e0 e1 e2 e3 e4
      have l0 : wr.cell? ⟨w.heap.size + 1, 0, none⟩ = some (.int .i64 e.a) := (box_cells hlr).1 0
      have hnext : Hid (insR e p.ls (q + 1) = if (insR e p.ls q).1 = false ∧ e.a < f.a then (true, (insR e p.ls q).2 ++ [e] ++ [f]) else ((insR e p.ls q).1, (insR e p.ls q).2 ++ [f])) := by unfold Hid; rw [hf.out]; rfl
      obtain ⟨D, hD⟩ : ∃ D, Hid (D = (insR e p.ls q).1) := ⟨_, rfl⟩
      rw [← hD.out] at hnext ⊢
      go_upto_region 6 with fail
      have g8 := Ws.here p8
      have g0 := Ws.here e0
      have gl := Ws.here l0
      by_cases hins : D = false ∧ e.a < f.a
      · obtain ⟨rfl, hlt2⟩ := hins
        have hgt : f.a > e.a := hlt2
        have hnx : Hid (insR e p.ls (q + 1) = (true, (insR e p.ls q).2 ++ [e] ++ [f])) := hnext.out.trans (if_pos ⟨rfl, hlt2⟩)
        refine wp_region_ws wr.heap.size (by kernel_rfl) (by kernel_rfl) ?_
        repeat (go_big_quiet_step (fail))
        refine wpQuiet_nil ?_
        rintro _ ⟨u, rfl⟩
        have hu := u.property
        generalize u.val = wu at hu ⊢
        clear u g8 g0 gl p8 l0
        have hOu := hOv.later hu
        have hBu := hB.trans (hu.mono hB.size)
        have hlu := heap_later hu hlr
        have hbu := heap_later hu hbr
        have l0 : wu.cell? ⟨w.heap.size + 1, 0, none⟩ = some (.int .i64 e.a) := (box_cells hlu).1 0
        have l1 : wu.cell? ⟨w.heap.size + 1, 1, none⟩ = some (.int .i64 e.l) := (box_cells hlu).1 1
        have l2 : wu.cell? ⟨w.heap.size + 1, 2, none⟩ = some (.int .i64 e.kd) := (box_cells hlu).1 2
        have l3 : wu.cell? ⟨w.heap.size + 1, 3, none⟩ = some (.int .i64 e.ow) := (box_cells hlu).1 3
        have l4 : wu.cell? ⟨w.heap.size + 1, 4, none⟩ = some (.int .i64 e.un) := (box_cells hlu).1 4
        go_wp2_with (at_builtin; refine Hid.out ?_)
        unfold Hid
        refine wpList_append_L rfl _ _ rfl w2.heap.size _ _ rfl (hOu.later (bl1 _ _)) ⟨wu.heap.size, 0, none⟩ 1 1 [e] rfl rfl ?_ (by have := hvl.out; simp at this ⊢; omega) (by simp; have := hBu.size; omega) ?_
        · intro j u hj
          have hn := heap_new (W := wu) (leO e) rfl
          rw [addr_add, Nat.zero_add]
          exact ((box_cells hn).1 j).trans (by rw [List.getElem?_toArray]; exact hj)

        intro v3 w3 hO3 hg3
        have hB3 : Below w2.heap.size w2 w3 := below_grownr (hBu.trans ((bl1 _ _).mono hBu.size)) hg3 (fun k e => (hOu.lt k e).1)
        have hvl3 : Hid (((insR e p.ls q).2 ++ [e]).length ≤ 40) := by
          unfold Hid
          have := (ins_len e p.ls q).1
          simp
          omega
        clear l0 l1 l2 l3 l4 hvl
        have hvl := hvl3
        have hb3 := heap_later hB3 hb2
        have p8 : w3.cell? ⟨w.heap.size, 8, none⟩ = some (.slice (some ⟨b2, o2, none⟩) p.n p.c) := by rw [← hx2]; exact (box_cells hb3).1 8
        obtain ⟨b3, o3, hx3, d0, d1, d2, d3, d4⟩ := (hLS2.later hB3).cells q hlth.out
        rw [hx2] at hx3
        simp only [Option.some.injEq, Addr.mk.injEq, and_true] at hx3
        obtain ⟨rfl, rfl⟩ := hx3
        rw [← hf.out] at d0 d1 d2 d3 d4
        clear e0 e1 e2 e3 e4
        go_wp2_with (at_builtin; refine Hid.out ?_)
        unfold Hid
        refine wpList_append_L rfl _ _ rfl w2.heap.size _ _ rfl (hO3.later (bl1 _ _)) ⟨w3.heap.size, 0, none⟩ 1 1 [f] rfl rfl ?_ (by have := hvl.out; simp at this ⊢; omega) (by simp; have := hB3.size; omega) ?_
        · intro j u hj
          have hn := heap_new (W := w3) (leO f) rfl
          rw [addr_add, Nat.zero_add]
          exact ((box_cells hn).1 j).trans (by rw [List.getElem?_toArray]; exact hj)

        intro v4 w4 hO4 hg4
        have hB4 : Below w2.heap.size w2 w4 := below_grownr (hB3.trans ((bl1 _ _).mono hB3.size)) hg4 (fun k e => (hO3.lt k e).1)
        go_wp2
        go_roundw
        case rel => exact ⟨q + 1, by go_num, hlth.out, by rw [hnx.out], hB4, by rw [hnx.out]; exact hO4⟩
        case measure => have := hlth.out; simp [intOf]; omega
      · have hnx : Hid (insR e p.ls (q + 1) = (D, (insR e p.ls q).2 ++ [f])) := hnext.out.trans (if_neg hins)
        cases D with
        | true =>
          refine wp_region_ws wr.heap.size (by kernel_rfl) (by kernel_rfl) ?_
          repeat (go_big_quiet_step (fail))
          refine wpQuiet_nil ?_
          rintro _ ⟨u, rfl⟩
          have hu := u.property
          generalize u.val = wu at hu ⊢
          clear u g8 g0 gl p8 l0
          have hOu := hOv.later hu
          have hBu := hB.trans (hu.mono hB.size)
          have hbu := heap_later hu hbr
          have p8 : wu.cell? ⟨w.heap.size, 8, none⟩ = some (.slice (some ⟨b2, o2, none⟩) p.n p.c) := by rw [← hx2]; exact (box_cells hbu).1 8
          have d0 := cell_later_add hu e0
          have d1 := cell_later_add hu e1
          have d2 := cell_later_add hu e2
          have d3 := cell_later_add hu e3
          have d4 := cell_later_add hu e4
          clear e0 e1 e2 e3 e4
          go_wp2_with (at_builtin; refine Hid.out ?_)
          unfold Hid
          refine wpList_append_L rfl _ _ rfl w2.heap.size _ _ rfl (hOu.later (bl1 _ _)) ⟨wu.heap.size, 0, none⟩ 1 1 [f] rfl rfl ?_ (by have := hvl.out; simp at this ⊢; omega) (by simp; have := hBu.size; omega) ?_
          · intro j u hj
            have hn := heap_new (W := wu) (leO f) rfl
            rw [addr_add, Nat.zero_add]
            exact ((box_cells hn).1 j).trans (by rw [List.getElem?_toArray]; exact hj)

          intro v4 w4 hO4 hg4
          have hB4 : Below w2.heap.size w2 w4 := below_grownr (hBu.trans ((bl1 _ _).mono hBu.size)) hg4 (fun k e => (hOu.lt k e).1)
          go_wp2
          go_roundw
          case rel => exact ⟨q + 1, by go_num, hlth.out, by rw [hnx.out], hB4, by rw [hnx.out]; exact hO4⟩
          case measure => have := hlth.out; simp [intOf]; omega
        | false =>
          have hle : ¬ f.a > e.a := fun h => hins ⟨rfl, h⟩
          refine wp_region_ws wr.heap.size (by kernel_rfl) (by kernel_rfl) ?_
          repeat (go_big_quiet_step (fail))
          refine wpQuiet_nil ?_
          rintro _ ⟨u, rfl⟩
          have hu := u.property
          generalize u.val = wu at hu ⊢
          clear u g8 g0 gl p8 l0
          have hOu := hOv.later hu
          have hBu := hB.trans (hu.mono hB.size)
          have hbu := heap_later hu hbr
          have p8 : wu.cell? ⟨w.heap.size, 8, none⟩ = some (.slice (some ⟨b2, o2, none⟩) p.n p.c) := by rw [← hx2]; exact (box_cells hbu).1 8
          have d0 := cell_later_add hu e0
          have d1 := cell_later_add hu e1
          have d2 := cell_later_add hu e2
          have d3 := cell_later_add hu e3
          have d4 := cell_later_add hu e4
          clear e0 e1 e2 e3 e4
          go_wp2_with (at_builtin; refine Hid.out ?_)
          unfold Hid
          refine wpList_append_L rfl _ _ rfl w2.heap.size _ _ rfl (hOu.later (bl1 _ _)) ⟨wu.heap.size, 0, none⟩ 1 1 [f] rfl rfl ?_ (by have := hvl.out; simp at this ⊢; omega) (by simp; have := hBu.size; omega) ?_
          · intro j u hj
            have hn := heap_new (W := wu) (leO f) rfl
            rw [addr_add, Nat.zero_add]
            exact ((box_cells hn).1 j).trans (by rw [List.getElem?_toArray]; exact hj)

          intro v4 w4 hO4 hg4
          have hB4 : Below w2.heap.size w2 w4 := below_grownr (hBu.trans ((bl1 _ _).mono hBu.size)) hg4 (fun k e => (hOu.lt k e).1)
          go_wp2
          go_roundw
          case rel => exact ⟨q + 1, by go_num, hlth.out, by rw [hnx.out], hB4, by rw [hnx.out]; exact hO4⟩
          case measure => have := hlth.out; simp [intOf]; omega
    · have hnq : ¬ (q : Int) < p.n := by omega
      obtain rfl : q = p.n := by omega
      have hE : Hid (insE e p.ls = if (insR e p.ls p.n).1 = true then (insR e p.ls p.n).2 else (insR e p.ls p.n).2 ++ [e]) := by unfold Hid insE; rw [hll.out]
      have hsr := heap_later hB hs2
      obtain ⟨D, hD⟩ : ∃ D, Hid (D = (insR e p.ls p.n).1) := ⟨_, rfl⟩
      rw [← hD.out] at hE ⊢
      cases D with
      | true =>
        have hE2 : Hid (insE e p.ls = (insR e p.ls p.n).2) := hE.out.trans (if_pos rfl)
        rw [← hE2.out] at hOv
        obtain ⟨xv, cv, rfl, -⟩ := hOv.mem
        have p8 : wr.cell? ⟨w.heap.size, 8, none⟩ = some (.slice p.x p.n p.c) := (box_cells hbr).1 8
        have zp8 : wr.frozen? ⟨w.heap.size, 8, none⟩ = false := (box_cells hbr).2 8
        go_upto_region 13 with fail
        obtain ⟨w5, hw5⟩ : ∃ w5, w5 = wr.setCell ⟨w.heap.size, 8, none⟩ (.slice xv (insE e p.ls).length cv) := ⟨_, rfl⟩
        rw [← hw5]
        have hv5 : w5.heap[w.heap.size]? = some (poB (withL p xv (insE e p.ls).length cv (insE e p.ls))) := by
          rw [hw5]
          have := heap_setCell_same wr w.heap.size 8 _ 49 (.slice xv (insE e p.ls).length cv) hbr
          simpa [withL] using this
        have hs5 : w5.heap[w.heap.size + 2]? = some (poB poZ) := by
          rw [hw5]
          exact (heap_setCell_other wr ⟨w.heap.size, 8, none⟩ _ _ (by show w.heap.size + 2 ≠ w.heap.size; omega)).trans hsr
        have hB5 : Below w.heap.size w w5 := by
          rw [hw5]
          exact (hB2.trans (hB.mono hB2.size)).setCell (p := ⟨w.heap.size, 8, none⟩) (Nat.le_refl _) _
        have hO5 : OwnL w5 w2.heap.size (.slice xv (insE e p.ls).length cv) (insE e p.ls) := by
          rw [hw5]
          exact hOv.kept (set_grown _ _ _ _) (fun k hk e => by have := (hOv.lt k hk).1; omega)
        clear hw5 p8 zp8
        have q0 : w5.cell? ⟨w.heap.size, 0, none⟩ = some (.int .i64 p.id) := (box_cells hv5).1 0
        have q1 : w5.cell? ⟨w.heap.size, 1, none⟩ = some (.int .i64 p.up) := (box_cells hv5).1 1
        have q2 : w5.cell? ⟨w.heap.size, 2, none⟩ = some (.int .i64 p.a) := (box_cells hv5).1 2
        have q3 : w5.cell? ⟨w.heap.size, 3, none⟩ = some (.int .i64 p.l) := (box_cells hv5).1 3
        have q4 : w5.cell? ⟨w.heap.size, 4, none⟩ = some (.int .i64 p.mn) := (box_cells hv5).1 4
        have q5 : w5.cell? ⟨w.heap.size, 5, none⟩ = some (.int .i64 p.mx) := (box_cells hv5).1 5
        have q6 : w5.cell? ⟨w.heap.size, 6, none⟩ = some (.int .i64 p.us) := (box_cells hv5).1 6
        have q7 : w5.cell? ⟨w.heap.size, 7, none⟩ = some (.int .i64 p.co) := (box_cells hv5).1 7
        have q8 : w5.cell? ⟨w.heap.size, 8, none⟩ = some (.slice xv (insE e p.ls).length cv) := (box_cells hv5).1 8
        have s0 : w5.cell? ⟨w.heap.size + 2, 0, none⟩ = some (.int .i64 0) := (box_cells hs5).1 0
        have s1 : w5.cell? ⟨w.heap.size + 2, 1, none⟩ = some (.int .i64 0) := (box_cells hs5).1 1
        have s2 : w5.cell? ⟨w.heap.size + 2, 2, none⟩ = some (.int .i64 0) := (box_cells hs5).1 2
        have s3 : w5.cell? ⟨w.heap.size + 2, 3, none⟩ = some (.int .i64 0) := (box_cells hs5).1 3
        have s4 : w5.cell? ⟨w.heap.size + 2, 4, none⟩ = some (.int .i64 0) := (box_cells hs5).1 4
        have s5 : w5.cell? ⟨w.heap.size + 2, 5, none⟩ = some (.int .i64 0) := (box_cells hs5).1 5
        have s6 : w5.cell? ⟨w.heap.size + 2, 6, none⟩ = some (.int .i64 0) := (box_cells hs5).1 6
        have s7 : w5.cell? ⟨w.heap.size + 2, 7, none⟩ = some (.int .i64 0) := (box_cells hs5).1 7
        have s8 : w5.cell? ⟨w.heap.size + 2, 8, none⟩ = some (.slice none 0 0) := (box_cells hs5).1 8
        have zz := (box_cells hs5).2
        go_wp2
        refine bodyPost_ret (v := poV (withL p xv (insE e p.ls).length cv (insE e p.ls))) (by simp [results, Tryz.results33, go_sem, s0, s1, s2, s3, s4, s5, s6, s7, s8, poV, withL]) rfl ?_
        exact ⟨xv, cv, rfl, (((((((((hO5.put (b := w.heap.size + 1 + 1) (o := 0) (by omega)).put (b := w.heap.size + 1 + 1) (o := 1) (by omega)).put (b := w.heap.size + 1 + 1) (o := 2) (by omega)).put (b := w.heap.size + 1 + 1) (o := 3) (by omega)).put (b := w.heap.size + 1 + 1) (o := 4) (by omega)).put (b := w.heap.size + 1 + 1) (o := 5) (by omega)).put (b := w.heap.size + 1 + 1) (o := 6) (by omega)).put (b := w.heap.size + 1 + 1) (o := 7) (by omega)).put (b := w.heap.size + 1 + 1) (o := 8) (by omega)).low hB2.size,
          Below.put9 (Below.put9 (Below.put9 (Below.put9 (Below.put9 (Below.put9 (Below.put9 (Below.put9 (Below.put9 hB5 0 _) 1 _) 2 _) 3 _) 4 _) 5 _) 6 _) 7 _) 8 _⟩
      | false =>
        have hE2 : Hid (insE e p.ls = (insR e p.ls p.n).2 ++ [e]) := hE.out.trans (if_neg (by decide))
        have l0 : wr.cell? ⟨w.heap.size + 1, 0, none⟩ = some (.int .i64 e.a) := (box_cells hlr).1 0
        have l1 : wr.cell? ⟨w.heap.size + 1, 1, none⟩ = some (.int .i64 e.l) := (box_cells hlr).1 1
        have l2 : wr.cell? ⟨w.heap.size + 1, 2, none⟩ = some (.int .i64 e.kd) := (box_cells hlr).1 2
        have l3 : wr.cell? ⟨w.heap.size + 1, 3, none⟩ = some (.int .i64 e.ow) := (box_cells hlr).1 3
        have l4 : wr.cell? ⟨w.heap.size + 1, 4, none⟩ = some (.int .i64 e.un) := (box_cells hlr).1 4
        go_wp2_with (at_builtin; refine Hid.out ?_)
        unfold Hid
        refine wpList_append_L rfl _ _ rfl w2.heap.size _ _ rfl (hOv.later (bl1 _ _)) ⟨wr.heap.size, 0, none⟩ 1 1 [e] rfl rfl ?_ (by have := hvl.out; simp at this ⊢; omega) (by simp; have := hB.size; omega) ?_
        · intro j u hj
          have hn := heap_new (W := wr) (leO e) rfl
          rw [addr_add, Nat.zero_add]
          exact ((box_cells hn).1 j).trans (by rw [List.getElem?_toArray]; exact hj)

        intro v3 w3 hO3 hg3
        have hB3 : Below w2.heap.size w2 w3 := below_grownr (hB.trans ((bl1 _ _).mono hB.size)) hg3 (fun k e => (hOv.lt k e).1)
        rw [← hE2.out] at hO3
        have hb3 := heap_later hB3 hb2
        have hs3 := heap_later hB3 hs2
        clear l0 l1 l2 l3 l4 p8
        obtain ⟨xv, cv, rfl, -⟩ := hO3.mem
        have p8 : w3.cell? ⟨w.heap.size, 8, none⟩ = some (.slice p.x p.n p.c) := (box_cells hb3).1 8
        have zp8 : w3.frozen? ⟨w.heap.size, 8, none⟩ = false := (box_cells hb3).2 8
        go_upto_region 13 with fail
        obtain ⟨w5, hw5⟩ : ∃ w5, w5 = w3.setCell ⟨w.heap.size, 8, none⟩ (.slice xv (insE e p.ls).length cv) := ⟨_, rfl⟩
        rw [← hw5]
        have hv5 : w5.heap[w.heap.size]? = some (poB (withL p xv (insE e p.ls).length cv (insE e p.ls))) := by
          rw [hw5]
          have := heap_setCell_same w3 w.heap.size 8 _ 49 (.slice xv (insE e p.ls).length cv) hb3
          simpa [withL] using this
        have hs5 : w5.heap[w.heap.size + 2]? = some (poB poZ) := by
          rw [hw5]
          exact (heap_setCell_other w3 ⟨w.heap.size, 8, none⟩ _ _ (by show w.heap.size + 2 ≠ w.heap.size; omega)).trans hs3
        have hB5 : Below w.heap.size w w5 := by
          rw [hw5]
          exact (hB2.trans (hB3.mono hB2.size)).setCell (p := ⟨w.heap.size, 8, none⟩) (Nat.le_refl _) _
        have hO5 : OwnL w5 w2.heap.size (.slice xv (insE e p.ls).length cv) (insE e p.ls) := by
          rw [hw5]
          exact hO3.kept (set_grown _ _ _ _) (fun k hk e => by have := (hO3.lt k hk).1; omega)
        clear hw5 p8 zp8
        have q0 : w5.cell? ⟨w.heap.size, 0, none⟩ = some (.int .i64 p.id) := (box_cells hv5).1 0
        have q1 : w5.cell? ⟨w.heap.size, 1, none⟩ = some (.int .i64 p.up) := (box_cells hv5).1 1
        have q2 : w5.cell? ⟨w.heap.size, 2, none⟩ = some (.int .i64 p.a) := (box_cells hv5).1 2
        have q3 : w5.cell? ⟨w.heap.size, 3, none⟩ = some (.int .i64 p.l) := (box_cells hv5).1 3
        have q4 : w5.cell? ⟨w.heap.size, 4, none⟩ = some (.int .i64 p.mn) := (box_cells hv5).1 4
        have q5 : w5.cell? ⟨w.heap.size, 5, none⟩ = some (.int .i64 p.mx) := (box_cells hv5).1 5
        have q6 : w5.cell? ⟨w.heap.size, 6, none⟩ = some (.int .i64 p.us) := (box_cells hv5).1 6
        have q7 : w5.cell? ⟨w.heap.size, 7, none⟩ = some (.int .i64 p.co) := (box_cells hv5).1 7
        have q8 : w5.cell? ⟨w.heap.size, 8, none⟩ = some (.slice xv (insE e p.ls).length cv) := (box_cells hv5).1 8
        have s0 : w5.cell? ⟨w.heap.size + 2, 0, none⟩ = some (.int .i64 0) := (box_cells hs5).1 0
        have s1 : w5.cell? ⟨w.heap.size + 2, 1, none⟩ = some (.int .i64 0) := (box_cells hs5).1 1
        have s2 : w5.cell? ⟨w.heap.size + 2, 2, none⟩ = some (.int .i64 0) := (box_cells hs5).1 2
        have s3 : w5.cell? ⟨w.heap.size + 2, 3, none⟩ = some (.int .i64 0) := (box_cells hs5).1 3
        have s4 : w5.cell? ⟨w.heap.size + 2, 4, none⟩ = some (.int .i64 0) := (box_cells hs5).1 4
        have s5 : w5.cell? ⟨w.heap.size + 2, 5, none⟩ = some (.int .i64 0) := (box_cells hs5).1 5
        have s6 : w5.cell? ⟨w.heap.size + 2, 6, none⟩ = some (.int .i64 0) := (box_cells hs5).1 6
        have s7 : w5.cell? ⟨w.heap.size + 2, 7, none⟩ = some (.int .i64 0) := (box_cells hs5).1 7
        have s8 : w5.cell? ⟨w.heap.size + 2, 8, none⟩ = some (.slice none 0 0) := (box_cells hs5).1 8
        have zz := (box_cells hs5).2
        go_wp2
        refine bodyPost_ret (v := poV (withL p xv (insE e p.ls).length cv (insE e p.ls))) (by simp [results, Tryz.results33, go_sem, s0, s1, s2, s3, s4, s5, s6, s7, s8, poV, withL]) rfl ?_
        exact ⟨xv, cv, rfl, (((((((((hO5.put (b := w.heap.size + 1 + 1) (o := 0) (by omega)).put (b := w.heap.size + 1 + 1) (o := 1) (by omega)).put (b := w.heap.size + 1 + 1) (o := 2) (by omega)).put (b := w.heap.size + 1 + 1) (o := 3) (by omega)).put (b := w.heap.size + 1 + 1) (o := 4) (by omega)).put (b := w.heap.size + 1 + 1) (o := 5) (by omega)).put (b := w.heap.size + 1 + 1) (o := 6) (by omega)).put (b := w.heap.size + 1 + 1) (o := 7) (by omega)).put (b := w.heap.size + 1 + 1) (o := 8) (by omega)).low hB2.size,
          Below.put9 (Below.put9 (Below.put9 (Below.put9 (Below.put9 (Below.put9 (Below.put9 (Below.put9 (Below.put9 hB5 0 _) 1 _) 2 _) 3 _) 4 _) 5 _) 6 _) 7 _) 8 _⟩
end Go.Proofs.YtpdoonkhnabfjaaGreat
/- What TakeOf of the reference comes to. -/
namespace Go.Proofs.YtpdoonkhnabfjaaGreat
open Go.RowKit Go.Shelf

theorem setCell_self {w : World} {b o : Nat} {v : Value} (h : w.cell? ⟨b, o, none⟩ = some v) : w.setCell ⟨b, o, none⟩ v = w := by
  unfold World.cell? at h
  cases hb : w.heap[b]? with
  | none => simp [hb] at h
  | some ob =>
    cases ob with
    | cells c e f =>
      simp [hb] at h
      have hc : c.setIfInBounds o v = c := by
        apply Array.ext_getElem?
        intro k
        by_cases hk : o = k
        · subst hk
          rw [h, Array.getElem?_setIfInBounds_self_of_lt (Array.getElem?_eq_some_iff.1 h).1]
        · rw [Array.getElem?_setIfInBounds_ne hk]
      unfold World.setCell
      have hm : ∀ F : Obj → Obj, F (.cells c e f) = .cells c e f → w.heap.modify b F = w.heap := fun F hF => by
        apply Array.ext_getElem?
        intro k
        rw [Array.getElem?_modify]
        by_cases hk : b = k
        · subst hk
          rw [if_pos rfl, hb]
          simp [hF]
        · rw [if_neg hk]
      rw [hm _ (by simp [hc])]
    | _ =>
      rw [hb] at h
      simp at h
set_option maxRecDepth 100000 in
set_option maxHeartbeats 6400000 in
theorem takeOf_any (t : Int) (x : Option Addr) (n c : Nat) (ps : List Po) (id z ow : Int) (w : World) (hk : Bk w x n c ps) :
    Calls Tryz.prog 15 #[.agg #[.int .i64 t, .slice x n c], .int .i64 id, .int .i64 z, .int .i64 ow] w (TakePost t ps id z ow w) := by
  have hpl : Hid (ps.length = n) := hk.ps.len
  go_enter Tryz.func15, Tryz.ntmps15
  go_upto_region 1 with fail
  obtain ⟨w0, hw0⟩ : ∃ w0, w0 = ((w.alloc (bkV t (.slice x n c))).alloc (bkV 0 (.slice none 0 0))).alloc (.cells #[.int .i64 0, .int .i64 0] 26) := ⟨_, rfl⟩
  rw [← hw0]
  have hT0 : TB w w0 t (.slice x n c) := by
    rw [hw0]
    exact ⟨heap_old _ (heap_old _ (heap_new _ rfl)), heap_old _ (heap_new _ (by simp)), heap_new _ (by simp), (bl2 w _ _).alloc (by simp; omega) _⟩
  clear hw0
  have b0 : w0.cell? ⟨w.heap.size, 0, none⟩ = some (.int .i64 t) := (box_cells hT0.hb).1 0
  have b1 : w0.cell? ⟨w.heap.size, 1, none⟩ = some (.slice x n c) := (box_cells hT0.hb).1 1
  have s0 : w0.cell? ⟨w.heap.size + 1, 0, none⟩ = some (.int .i64 0) := (box_cells hT0.hs).1 0
  have s1 : w0.cell? ⟨w.heap.size + 1, 1, none⟩ = some (.slice none 0 0) := (box_cells hT0.hs).1 1
  have r0 : w0.cell? ⟨w.heap.size + 2, 0, none⟩ = some (.int .i64 0) := (box_cells hT0.hr).1 0
  have r1 : w0.cell? ⟨w.heap.size + 2, 1, none⟩ = some (.int .i64 0) := (box_cells hT0.hr).1 1
  have zs0 : w0.frozen? ⟨w.heap.size + 1, 0, none⟩ = false := (box_cells hT0.hs).2 0
  have zs1 : w0.frozen? ⟨w.heap.size + 1, 1, none⟩ = false := (box_cells hT0.hs).2 1
  have zr0 : w0.frozen? ⟨w.heap.size + 2, 0, none⟩ = false := (box_cells hT0.hr).2 0
  have zr1 : w0.frozen? ⟨w.heap.size + 2, 1, none⟩ = false := (box_cells hT0.hr).2 1
  have hck := checkBook_any t x n c ps w0 (hk.later hT0.below)
  by_cases hc0 : chkB t ps = 0
  · rw [hc0] at hck
    go_wp2_with fail
    refine hck.mono ?_
    rintro e w1 ⟨rfl, hb1⟩
    have hT1 := hT0.later hb1
    have hn8 : n ≤ 8 := by rw [← hpl.out]; exact chk_len hc0
    have hk1 := hk.later hT1.below
    have hpc := poolAt_any t id x n c ps w1 hk1.ps (by omega)
    clear b0 b1 s0 s1 r0 r1 zs0 zs1 zr0 zr1 hck hb1
    have b0 : w1.cell? ⟨w.heap.size, 0, none⟩ = some (.int .i64 t) := (box_cells hT1.hb).1 0
    have b1 : w1.cell? ⟨w.heap.size, 1, none⟩ = some (.slice x n c) := (box_cells hT1.hb).1 1
    have s0 : w1.cell? ⟨w.heap.size + 1, 0, none⟩ = some (.int .i64 0) := (box_cells hT1.hs).1 0
    have s1 : w1.cell? ⟨w.heap.size + 1, 1, none⟩ = some (.slice none 0 0) := (box_cells hT1.hs).1 1
    have r0 : w1.cell? ⟨w.heap.size + 2, 0, none⟩ = some (.int .i64 0) := (box_cells hT1.hr).1 0
    have r1 : w1.cell? ⟨w.heap.size + 2, 1, none⟩ = some (.int .i64 0) := (box_cells hT1.hr).1 1
    have zs0 : w1.frozen? ⟨w.heap.size + 1, 0, none⟩ = false := (box_cells hT1.hs).2 0
    have zs1 : w1.frozen? ⟨w.heap.size + 1, 1, none⟩ = false := (box_cells hT1.hs).2 1
    have zr0 : w1.frozen? ⟨w.heap.size + 2, 0, none⟩ = false := (box_cells hT1.hr).2 0
    have zr1 : w1.frozen? ⟨w.heap.size + 2, 1, none⟩ = false := (box_cells hT1.hr).2 1
    by_cases hat : atId ps id < 0
    · have hne : takeE t ps id z ow = 5 ∧ (5 : Int) ≠ 0 := ⟨by unfold takeE; rw [if_neg (by simp [hc0]), if_pos hat], by decide⟩
      go_wp2_with fail
      refine hpc.mono ?_
      rintro e w2 ⟨rfl, hb2⟩
      have hT2 := hT1.later hb2
      clear b0 b1 s0 s1 r0 r1 zs0 zs1 zr0 zr1 hb2
      have b0 : w2.cell? ⟨w.heap.size, 0, none⟩ = some (.int .i64 t) := (box_cells hT2.hb).1 0
      have b1 : w2.cell? ⟨w.heap.size, 1, none⟩ = some (.slice x n c) := (box_cells hT2.hb).1 1
      have s0 : w2.cell? ⟨w.heap.size + 1, 0, none⟩ = some (.int .i64 0) := (box_cells hT2.hs).1 0
      have s1 : w2.cell? ⟨w.heap.size + 1, 1, none⟩ = some (.slice none 0 0) := (box_cells hT2.hs).1 1
      have r0 : w2.cell? ⟨w.heap.size + 2, 0, none⟩ = some (.int .i64 0) := (box_cells hT2.hr).1 0
      have r1 : w2.cell? ⟨w.heap.size + 2, 1, none⟩ = some (.int .i64 0) := (box_cells hT2.hr).1 1
      have zs0 : w2.frozen? ⟨w.heap.size + 1, 0, none⟩ = false := (box_cells hT2.hs).2 0
      have zs1 : w2.frozen? ⟨w.heap.size + 1, 1, none⟩ = false := (box_cells hT2.hs).2 1
      have zr0 : w2.frozen? ⟨w.heap.size + 2, 0, none⟩ = false := (box_cells hT2.hr).2 0
      have zr1 : w2.frozen? ⟨w.heap.size + 2, 1, none⟩ = false := (box_cells hT2.hr).2 1
      go_wp2
      refine bodyPost_ret (v := .tuple #[.agg #[.int .i64 0, .slice none 0 0], .agg #[.int .i64 0, .int .i64 0], .int .i64 5]) (by simp [results, Tryz.results15, go_sem, s0, s1, r0, r1]) rfl ?_
      exact TakePost.err hne (hT2.fin _ _ _ _)
    · have hE1 : takeE t ps id z ow = if wth ow 1 65536 = false then 3 else pfitE (poAt ps (atId ps id).toNat) (sizeZ (poAt ps (atId ps id).toNat) z) := by unfold takeE; rw [if_neg (by simp [hc0]), if_neg hat]
      obtain ⟨i, hi, hati, -⟩ := atId_range hat
      rw [hpl.out] at hi
      have hto : (atId ps id).toNat = i := by rw [hati]; rfl
      rw [hto] at hE1
      rw [hati] at hpc
      go_wp2_with fail
      refine hpc.mono ?_
      rintro e w2 ⟨rfl, hb2⟩
      have hT2 := hT1.later hb2
      have hneg : ¬ ((i : Int) < 0) := by omega
      clear b0 b1 s0 s1 r0 r1 zs0 zs1 zr0 zr1 hb2
      have b0 : w2.cell? ⟨w.heap.size, 0, none⟩ = some (.int .i64 t) := (box_cells hT2.hb).1 0
      have b1 : w2.cell? ⟨w.heap.size, 1, none⟩ = some (.slice x n c) := (box_cells hT2.hb).1 1
      have s0 : w2.cell? ⟨w.heap.size + 1, 0, none⟩ = some (.int .i64 0) := (box_cells hT2.hs).1 0
      have s1 : w2.cell? ⟨w.heap.size + 1, 1, none⟩ = some (.slice none 0 0) := (box_cells hT2.hs).1 1
      have r0 : w2.cell? ⟨w.heap.size + 2, 0, none⟩ = some (.int .i64 0) := (box_cells hT2.hr).1 0
      have r1 : w2.cell? ⟨w.heap.size + 2, 1, none⟩ = some (.int .i64 0) := (box_cells hT2.hr).1 1
      have zs0 : w2.frozen? ⟨w.heap.size + 1, 0, none⟩ = false := (box_cells hT2.hs).2 0
      have zs1 : w2.frozen? ⟨w.heap.size + 1, 1, none⟩ = false := (box_cells hT2.hs).2 1
      have zr0 : w2.frozen? ⟨w.heap.size + 2, 0, none⟩ = false := (box_cells hT2.hr).2 0
      have zr1 : w2.frozen? ⟨w.heap.size + 2, 1, none⟩ = false := (box_cells hT2.hr).2 1
      cases how : wth ow 1 65536 with
      | false =>
        have hne : takeE t ps id z ow = 3 ∧ (3 : Int) ≠ 0 := ⟨by rw [hE1, if_pos how], by decide⟩
        go_wp2_with fail
        refine (within_at ow 1 65536 false how _).mono ?_
        rintro e w3 ⟨rfl, rfl⟩
        go_wp2
        refine bodyPost_ret (v := .tuple #[.agg #[.int .i64 0, .slice none 0 0], .agg #[.int .i64 0, .int .i64 0], .int .i64 3]) (by simp [results, Tryz.results15, go_sem, s0, s1, r0, r1]) rfl ?_
        exact TakePost.err hne (hT2.fin _ _ _ _)
      | true =>
        rw [if_neg (by simp [how])] at hE1
        go_wp2_with fail
        refine (within_at ow 1 65536 true how _).mono ?_
        rintro e w2 ⟨rfl, rfl⟩
        have hk2 := hk.later hT2.below
        obtain ⟨b, o, rfl, c0, c1, c2, c3, c4, c5, c6, c7, c8⟩ := hk2.ps.cells i hi
        obtain ⟨hlc, hlm, hLS⟩ := hk2.ps.leases i hi
        have hi0 : (0 : Int) ≤ i := by omega
        have hin : (i : Int) < n := by omega
        obtain ⟨zz, hzz⟩ : ∃ zz, Hid (zz = sizeZ (poAt ps i) z) := ⟨_, rfl⟩
        rw [← hzz.out] at hE1
        have hE2 : Hid (takeE t ps id z ow = pfitE (poAt ps i) zz) := hE1
        obtain ⟨-, -, -, -, hpools⟩ := chk_ok hc0
        obtain ⟨hchk, hrule, -, -⟩ := pool_ok (hpools i (by rw [hpl.out]; exact hi))
        obtain ⟨hu1, hu2, hu3, hu4, -, -⟩ := rule_ok hrule
        clear hE1 hpools hrule
        go_upto_region 10 with fail
        obtain ⟨w3, hw3⟩ : ∃ w3, w3 = w2.alloc (.cells #[.int .i64 (poAt ps i).mn, .int .i64 (poAt ps i).mx, .int .i64 (poAt ps i).us, .int .i64 (poAt ps i).co] 28) := ⟨_, rfl⟩
        rw [← hw3]
        have hB3 : Below w2.heap.size w2 w3 := by rw [hw3]; exact bl1 _ _
        have hR3 : w3.heap[w2.heap.size]? = some (.cells #[.int .i64 (poAt ps i).mn, .int .i64 (poAt ps i).mx, .int .i64 (poAt ps i).us, .int .i64 (poAt ps i).co] 28) := by rw [hw3]; exact heap_new _ rfl
        have hT3 := hT2.later hB3
        have hk3 := hk2.later hB3
        clear hw3 b0 b1 s0 s1 r0 r1 zs0 zs1 zr0 zr1 c0 c1 c2 c3 c4 c5 c6 c7 c8 hLS
        generalize w2.heap.size = kr at hR3 ⊢
        have u0 : w3.cell? ⟨kr, 0, none⟩ = some (.int .i64 (poAt ps i).mn) := (box_cells hR3).1 0
        have u1 : w3.cell? ⟨kr, 1, none⟩ = some (.int .i64 (poAt ps i).mx) := (box_cells hR3).1 1
        have u2 : w3.cell? ⟨kr, 2, none⟩ = some (.int .i64 (poAt ps i).us) := (box_cells hR3).1 2
        go_upto_if 43 with fail
        go_cut [2] (fun s wc => s = .int .i64 zz ∧ wc = w3)
        case first =>
          by_cases hz : z = 0
          · have hz2 : (poAt ps i).us = zz := by rw [hzz.out]; unfold sizeZ; rw [if_pos hz]
            subst hz
            go_wp2
            go_meet
            case rel => exact ⟨by first | rfl | rw [hz2], rfl⟩
          · have hz2 : z = zz := by rw [hzz.out]; unfold sizeZ; rw [if_neg hz]
            go_wp2
            go_meet
            case rel => exact ⟨by first | rfl | rw [← hz2], rfl⟩
        case rest =>
          obtain ⟨rfl, rfl⟩ := hcut
          clear u2
          cases hwz : wth zz (poAt ps i).mn (poAt ps i).mx with
          | false =>
            have hout : zz < (poAt ps i).mn ∨ (poAt ps i).mx < zz := by
              unfold wth at hwz
              simp only [Bool.and_eq_false_iff, decide_eq_false_iff_not] at hwz
              omega
            have hne : takeE t ps id z ow = 7 ∧ (7 : Int) ≠ 0 := ⟨hE2.out.trans (by unfold pfitE; rw [if_pos hout]), by decide⟩
            go_wp2_with fail
            refine (within_at zz (poAt ps i).mn (poAt ps i).mx false hwz _).mono ?_
            rintro e w3 ⟨rfl, rfl⟩
            clear u0 u1
            have s0 : w3.cell? ⟨w.heap.size + 1, 0, none⟩ = some (.int .i64 0) := (box_cells hT3.hs).1 0
            have s1 : w3.cell? ⟨w.heap.size + 1, 1, none⟩ = some (.slice none 0 0) := (box_cells hT3.hs).1 1
            have r0 : w3.cell? ⟨w.heap.size + 2, 0, none⟩ = some (.int .i64 0) := (box_cells hT3.hr).1 0
            have r1 : w3.cell? ⟨w.heap.size + 2, 1, none⟩ = some (.int .i64 0) := (box_cells hT3.hr).1 1
            have zs0 : w3.frozen? ⟨w.heap.size + 1, 0, none⟩ = false := (box_cells hT3.hs).2 0
            have zs1 : w3.frozen? ⟨w.heap.size + 1, 1, none⟩ = false := (box_cells hT3.hs).2 1
            have zr0 : w3.frozen? ⟨w.heap.size + 2, 0, none⟩ = false := (box_cells hT3.hr).2 0
            have zr1 : w3.frozen? ⟨w.heap.size + 2, 1, none⟩ = false := (box_cells hT3.hr).2 1
            go_wp2
            refine bodyPost_ret (v := .tuple #[.agg #[.int .i64 0, .slice none 0 0], .agg #[.int .i64 0, .int .i64 0], .int .i64 7]) (by simp [results, Tryz.results15, go_sem, s0, s1, r0, r1]) rfl ?_
            exact TakePost.err hne (hT3.fin _ _ _ _)
          | true =>
            have hin2 : ¬ (zz < (poAt ps i).mn ∨ (poAt ps i).mx < zz) := by
              unfold wth at hwz
              simp only [Bool.and_eq_true, decide_eq_true_eq] at hwz
              omega
            have hE3 : Hid (pfitS (poAt ps i) zz = none → takeE t ps id z ow = 8) := fun h => hE2.out.trans (by unfold pfitE; rw [if_neg hin2, h])
            have hE4 : Hid (∀ y, pfitS (poAt ps i) zz = some y → takeE t ps id z ow = 0) := fun y h => hE2.out.trans (by unfold pfitE; rw [if_neg hin2, h])
            have hO3 : Hid (∀ y, pfitS (poAt ps i) zz = some y → pfitO (poAt ps i) zz = (y, zz)) := fun y hy => by unfold pfitO; rw [if_neg hin2, hy]
            have hz1 : (poAt ps i).l ≤ zz := by omega
            have hz2 : zz ≤ 16 := by omega
            have hl32 := (chkS_ok hchk).1
            go_wp2_with fail
            refine (within_at zz (poAt ps i).mn (poAt ps i).mx true hwz _).mono ?_
            rintro e w3 ⟨rfl, rfl⟩
            obtain ⟨b', o', hbo, c0, c1, c2, c3, c4, c5, c6, c7, c8⟩ := hk3.ps.cells i hi
            simp only [Option.some.injEq, Addr.mk.injEq, and_true] at hbo
            obtain ⟨rfl, rfl⟩ := hbo
            obtain ⟨-, -, hLS⟩ := hk3.ps.leases i hi
            clear u0 u1 hwz hin2
            have b1 : w3.cell? ⟨w.heap.size, 1, none⟩ = some (.slice (some ⟨b, o, none⟩) n c) := (box_cells hT3.hb).1 1
            have hroom := room_any (poAt ps i) zz w3 hLS hchk hz1 hz2
            cases hq : pfitS (poAt ps i) zz with
            | none =>
              rw [hq] at hroom
              have hne : takeE t ps id z ow = 8 ∧ (8 : Int) ≠ 0 := ⟨hE3.out hq, by decide⟩
              unfold fitR at hroom
              go_wp2_with fail
              refine hroom.mono ?_
              rintro e w4 ⟨rfl, hb4⟩
              have hT4 := hT3.later hb4
              clear b1 c0 c1 c2 c3 c4 c5 c6 c7 c8 hroom
              go_upto_region 15 with fail
              have hT5 := hT4.later (bl1 w4 (.cells #[.int .i64 0, .int .i64 0] 26))
              generalize w4.alloc (.cells #[.int .i64 0, .int .i64 0] 26) = w5 at hT5 ⊢
              have s0 : w5.cell? ⟨w.heap.size + 1, 0, none⟩ = some (.int .i64 0) := (box_cells hT5.hs).1 0
              have s1 : w5.cell? ⟨w.heap.size + 1, 1, none⟩ = some (.slice none 0 0) := (box_cells hT5.hs).1 1
              have r0 : w5.cell? ⟨w.heap.size + 2, 0, none⟩ = some (.int .i64 0) := (box_cells hT5.hr).1 0
              have r1 : w5.cell? ⟨w.heap.size + 2, 1, none⟩ = some (.int .i64 0) := (box_cells hT5.hr).1 1
              have zs0 : w5.frozen? ⟨w.heap.size + 1, 0, none⟩ = false := (box_cells hT5.hs).2 0
              have zs1 : w5.frozen? ⟨w.heap.size + 1, 1, none⟩ = false := (box_cells hT5.hs).2 1
              have zr0 : w5.frozen? ⟨w.heap.size + 2, 0, none⟩ = false := (box_cells hT5.hr).2 0
              have zr1 : w5.frozen? ⟨w.heap.size + 2, 1, none⟩ = false := (box_cells hT5.hr).2 1
              go_wp2
              refine bodyPost_ret (v := .tuple #[.agg #[.int .i64 0, .slice none 0 0], .agg #[.int .i64 0, .int .i64 0], .int .i64 8]) (by simp [results, Tryz.results15, go_sem, s0, s1, r0, r1]) rfl ?_
              exact TakePost.err hne (hT5.fin _ _ _ _)
            | some y =>
              rw [hq] at hroom
              have hE0 : takeE t ps id z ow = 0 := hE4.out y hq
              have hO := hO3.out y hq
              have hl31 : (poAt ps i).n ≤ 31 := by
                refine pfit_len (z := zz) ?_
                rw [← hE2.out]
                exact hE0
              unfold fitR at hroom
              go_wp2_with fail
              refine hroom.mono ?_
              rintro e w4 ⟨rfl, hb4⟩
              have hT4 := hT3.later hb4
              clear b1 c0 c1 c2 c3 c4 c5 c6 c7 c8 hroom hb4 hLS hk3 hk2 hT2 hT3
              go_upto_region 15 with fail
              obtain ⟨w5, hw5⟩ : ∃ w5, w5 = w4.alloc (.cells #[.int .i64 y, .int .i64 zz] 26) := ⟨_, rfl⟩
              rw [← hw5]
              have hT5 : TB w w5 t (.slice (some ⟨b, o, none⟩) n c) := by rw [hw5]; exact hT4.later (bl1 _ _)
              have hp5 : w5.heap[w4.heap.size]? = some (.cells #[.int .i64 y, .int .i64 zz] 26) := by rw [hw5]; exact heap_new _ rfl
              have hkp : w.heap.size + 2 < w4.heap.size := (Array.getElem?_eq_some_iff.1 hT4.hr).1
              clear hw5 hT4
              generalize w4.heap.size = kp at hp5 hkp ⊢
              have b0 : w5.cell? ⟨w.heap.size, 0, none⟩ = some (.int .i64 t) := (box_cells hT5.hb).1 0
              have b1 : w5.cell? ⟨w.heap.size, 1, none⟩ = some (.slice (some ⟨b, o, none⟩) n c) := (box_cells hT5.hb).1 1
              go_wp2_with fail
              refine (ownBook_any t (some ⟨b, o, none⟩) n c ps w5 (hk.later hT5.below) (by omega)).mono ?_
              rintro e w6 ⟨v6, qs, rfl, hs, hOB, hb6⟩
              have hql : i < qs.length := by rw [← hs.1, hpl.out]; exact hi
              rcases hOB.row.2 with ⟨-, h0⟩ | ⟨g, cap, cur, rfl, hg1, hg2, -⟩
              · omega
              clear b0 b1
              go_upto_region 18 with fail
              obtain ⟨w7, hw7⟩ : ∃ w7, w7 = w6.alloc (bkV t (.slice (some ⟨g, 0, none⟩) qs.length cap)) := ⟨_, rfl⟩
              rw [← hw7]
              have hB7 : Below w5.heap.size w5 w7 := by rw [hw7]; exact hb6.trans ((bl1 _ _).mono hb6.size)
              have hT7 := hT5.later hB7
              have hp7 := heap_later hB7 hp5
              have hn7 : w7.heap[w6.heap.size]? = some (bkV t (.slice (some ⟨g, 0, none⟩) qs.length cap)) := by rw [hw7]; exact heap_new _ rfl
              have hOB7 : OBk w7 w5.heap.size (.slice (some ⟨g, 0, none⟩) qs.length cap) qs qs.length := by rw [hw7]; exact hOB.later (bl1 _ _)
              have hs7 : w5.heap.size ≤ w7.heap.size := hB7.size
              have hko : w.heap.size + 2 < w6.heap.size := by have := (Array.getElem?_eq_some_iff.1 hT5.hr).1; have := hb6.size; omega
              clear hw7 hOB hb6 hg2
              generalize w6.heap.size = ko at hn7 hko ⊢
              have hsp := hs.2 i (by rw [hpl.out]; exact hi)
              have hqn : (poAt qs i).n ≤ 32 := by rw [← hsp.2.2.2.2.2.2.2.2.1]; omega
              have hql2 : (i : Int) < qs.length := by omega
              obtain ⟨hbg, cur7, hg7⟩ := hOB7.row.block
              have ng1 : ko ≠ g := block_ne hg7 hn7 (by decide)
              have ng2 : kp ≠ g := block_ne hg7 hp7 (by decide)
              have hadd := addLeaseR_any (poAt qs i) ⟨y, zz, 1, ow, 0⟩ w7.drew ((hOB7.own i hql).ls.1.later (Below.refl _ _).drew) hqn
              obtain ⟨d0, d1, d2, d3, d4, d5, d6, d7, d8⟩ := hOB7.row.cells9 i hql
              have m1 : w7.cell? ⟨ko, 1, none⟩ = some (.slice (some ⟨g, 0, none⟩) qs.length cap) := (box_cells hn7).1 1
              have p0 : w7.cell? ⟨kp, 0, none⟩ = some (.int .i64 y) := (box_cells hp7).1 0
              have p1 : w7.cell? ⟨kp, 1, none⟩ = some (.int .i64 zz) := (box_cells hp7).1 1
              have zg := (box_cells hg7).2
              go_cut [16] (fun s wd => s = .pointer (some ⟨ko, 0, none⟩) ∧ ∃ x' c' w8, OwnL w8 w7.heap.size (.slice x' (insE ⟨y, zz, 1, ow, 0⟩ (poAt qs i).ls).length c') (insE ⟨y, zz, 1, ow, 0⟩ (poAt qs i).ls) ∧ Below w7.heap.size w7 w8 ∧ wd = w8.setCell ⟨g, i * 9 + 8, none⟩ (.slice x' (insE ⟨y, zz, 1, ow, 0⟩ (poAt qs i).ls).length c'))
              case first =>
                have g1 := Ws.here m1
                have h0 := Ws.here p0
                have h1 := Ws.here p1
                have e0 := Ws.here d0
                have e1 := Ws.here d1
                have e2 := Ws.here d2
                have e3 := Ws.here d3
                have e4 := Ws.here d4
                have e5 := Ws.here d5
                have e6 := Ws.here d6
                have e7 := Ws.here d7
                have e8 := Ws.here d8
                refine wp_region_wild w7.heap.size 11 (by kernel_rfl) (by kernel_rfl) (by kernel_rfl) (fun d _ _ _ _ h => by cases d <;> exact h) ?_
                simp only [List.take_succ_cons, List.take_zero, List.drop_succ_cons, List.drop_zero]
                repeat (go_big_quiet_step (fail))
                refine wpQuiet_nil ?_
                intro uu
                have hBu := uu.property
                generalize uu.val = wu at hBu ⊢
                clear uu g1 h0 h1 e0 e1 e2 e3 e4 e5 e6 e7 e8
                go_wp2_with fail
                refine (addLeaseR_any (poAt qs i) ⟨y, zz, 1, ow, 0⟩ wu ((hOB7.own i hql).ls.1.later hBu) hqn).mono ?_
                rintro e w8 ⟨x', c', rfl, hO8, hB8'⟩
                have hB8 : Below w7.heap.size w7 w8 := hBu.trans (hB8'.mono hBu.size)
                clear hB8'
                go_wp2_with fail
                refine wildQ_normal ⟨⟨w8, hB8⟩, rfl⟩ ?_
                have f0 := cell_later_add hB8 d0
                have f1 := cell_later_add hB8 d1
                have f2 := cell_later_add hB8 d2
                have f3 := cell_later_add hB8 d3
                have f4 := cell_later_add hB8 d4
                have f5 := cell_later_add hB8 d5
                have f6 := cell_later_add hB8 d6
                have f7 := cell_later_add hB8 d7
                have f8 := cell_later_add hB8 d8
                have zg8 := (box_cells (heap_later hB8 hg7)).2
                clear m1 p0 p1 d0 d1 d2 d3 d4 d5 d6 d7 d8 zg
                have hself : (((((((((w8.setCell ⟨g, i * 9, none⟩ (.int .i64 (poAt qs i).id)).setCell ⟨g, i * 9 + 1, none⟩ (.int .i64 (poAt qs i).up)).setCell ⟨g, i * 9 + 2, none⟩ (.int .i64 (poAt qs i).a)).setCell ⟨g, i * 9 + 3, none⟩ (.int .i64 (poAt qs i).l)).setCell ⟨g, i * 9 + 4, none⟩ (.int .i64 (poAt qs i).mn)).setCell ⟨g, i * 9 + 5, none⟩ (.int .i64 (poAt qs i).mx)).setCell ⟨g, i * 9 + 6, none⟩ (.int .i64 (poAt qs i).us)).setCell ⟨g, i * 9 + 7, none⟩ (.int .i64 (poAt qs i).co)).setCell ⟨g, i * 9 + 8, none⟩ (.slice x' (insE ⟨y, zz, 1, ow, 0⟩ (poAt qs i).ls).length c')) = w8.setCell ⟨g, i * 9 + 8, none⟩ (.slice x' (insE ⟨y, zz, 1, ow, 0⟩ (poAt qs i).ls).length c') := by rw [setCell_self f0, setCell_self f1, setCell_self f2, setCell_self f3, setCell_self f4, setCell_self f5, setCell_self f6, setCell_self f7]
                go_wp2
                go_meet
                case rel => exact ⟨rfl, x', c', w8, hO8.low hBu.size, hB8, hself⟩
              case rest =>
                obtain ⟨rfl, x', c', w8, hO8, hB8, hwd⟩ := hcut
                clear m1 p0 p1 d0 d1 d2 d3 d4 d5 d6 d7 d8 zg
                rw [hwd]
                have hOBf := hOB7.swap (i := i) hql hB8 hO8 hs7
                have hKf : Kept w5.heap.size w7 (w8.setCell ⟨g, i * 9 + 8, none⟩ (.slice x' (insE ⟨y, zz, 1, ow, 0⟩ (poAt qs i).ls).length c')) := (Kept.of_below hB8 hs7).trans (Kept.of_grown (set_grown _ _ _ _) hbg (Nat.le_trans hs7 hB8.size) (heap_later hB8 hg7) (.inl rfl))
                obtain ⟨w9, hw9⟩ : ∃ w9, w9 = w8.setCell ⟨g, i * 9 + 8, none⟩ (.slice x' (insE ⟨y, zz, 1, ow, 0⟩ (poAt qs i).ls).length c') := ⟨_, rfl⟩
                rw [← hw9] at hOBf hKf ⊢
                have hT9 : TB w w9 t (.slice (some ⟨b, o, none⟩) n c) := ⟨hKf.box _ _ _ hT7.hb (by decide) (by decide), hKf.box _ _ _ hT7.hs (by decide) (by decide), hKf.box _ _ _ hT7.hr (by decide) (by decide), hT7.below.trans (hKf.below.mono hT5.below.size)⟩
                have hn9 := hKf.box _ _ _ hn7 (by decide) (by decide)
                have hp9 := hKf.box _ _ _ hp7 (by decide) (by decide)
                have hsz5 : w.heap.size + 2 < w5.heap.size := (Array.getElem?_eq_some_iff.1 hT5.hr).1
                clear hw9 hwd hKf hO8 hB8
                have m0 : w9.cell? ⟨ko, 0, none⟩ = some (.int .i64 t) := (box_cells hn9).1 0
                have m1 : w9.cell? ⟨ko, 1, none⟩ = some (.slice (some ⟨g, 0, none⟩) qs.length cap) := (box_cells hn9).1 1
                have p0 : w9.cell? ⟨kp, 0, none⟩ = some (.int .i64 y) := (box_cells hp9).1 0
                have p1 : w9.cell? ⟨kp, 1, none⟩ = some (.int .i64 zz) := (box_cells hp9).1 1
                have n1 : ¬ kp = w.heap.size + 1 := by omega
                have n2 : ¬ kp = w.heap.size + 1 + 1 := by omega
                have n3 : ¬ kp = w.heap.size + 2 := by omega
                have b0 : w9.cell? ⟨w.heap.size, 0, none⟩ = some (.int .i64 t) := (box_cells hT9.hb).1 0
                have b1 : w9.cell? ⟨w.heap.size, 1, none⟩ = some (.slice (some ⟨b, o, none⟩) n c) := (box_cells hT9.hb).1 1
                have s0 : w9.cell? ⟨w.heap.size + 1, 0, none⟩ = some (.int .i64 0) := (box_cells hT9.hs).1 0
                have s1 : w9.cell? ⟨w.heap.size + 1, 1, none⟩ = some (.slice none 0 0) := (box_cells hT9.hs).1 1
                have r0 : w9.cell? ⟨w.heap.size + 2, 0, none⟩ = some (.int .i64 0) := (box_cells hT9.hr).1 0
                have r1 : w9.cell? ⟨w.heap.size + 2, 1, none⟩ = some (.int .i64 0) := (box_cells hT9.hr).1 1
                have zs0 : w9.frozen? ⟨w.heap.size + 1, 0, none⟩ = false := (box_cells hT9.hs).2 0
                have zs1 : w9.frozen? ⟨w.heap.size + 1, 1, none⟩ = false := (box_cells hT9.hs).2 1
                have zr0 : w9.frozen? ⟨w.heap.size + 2, 0, none⟩ = false := (box_cells hT9.hr).2 0
                have zr1 : w9.frozen? ⟨w.heap.size + 2, 1, none⟩ = false := (box_cells hT9.hr).2 1
                go_wp2_with fail
                go_region_with fail
                all_goals go_wp2
                all_goals refine bodyPost_ret (v := .tuple #[.agg #[.int .i64 t, .slice (some ⟨g, 0, none⟩) qs.length cap], .agg #[.int .i64 y, .int .i64 zz], .int .i64 0]) (by simp [results, Tryz.results15, go_sem, s0, s1, r0, r1]) rfl ?_
                all_goals have hsz1 : w.heap.size + 1 < w5.heap.size := by omega
                all_goals have hfin := (hT9.fin (.int .i64 t) (.slice (some ⟨g, 0, none⟩) qs.length cap) (.int .i64 y) (.int .i64 zz)).drew
                all_goals have hob := ((((((hOBf.put (o := 0) (u := .int .i64 t) hsz1).put (o := 1) (u := .slice (some ⟨g, 0, none⟩) qs.length cap) hsz1).put (o := 0) (u := .int .i64 y) hsz5).put (o := 1) (u := .int .i64 zz) hsz5)).later (Below.refl _ _).drew).low hT5.below.size
                all_goals have hto2 : Hid ((atId ps id).toNat = i) := hto
                all_goals refine ⟨_, _, t, y, zz, by rw [hE0], hfin, hob, fun h => absurd hE0 h, fun _ => ⟨rfl, ?_, qs, x', c', insE ⟨y, zz, 1, ow, 0⟩ (poAt qs i).ls, hs, ?_, ?_⟩⟩
                all_goals rw [hto2.out]
                all_goals first | (rw [← hzz.out]; exact hO.symm) | (rw [hsp.2.2.2.2.2.2.2.2.2]; exact ins_put _ _) | rfl
  · have hne : takeE t ps id z ow = chkB t ps ∧ chkB t ps ≠ 0 := ⟨if_pos hc0, hc0⟩
    go_wp2_with fail
    refine hck.mono ?_
    rintro e w1 ⟨rfl, hb1⟩
    have hT1 := hT0.later hb1
    clear b0 b1 s0 s1 r0 r1 zs0 zs1 zr0 zr1 hck hb1
    have b0 : w1.cell? ⟨w.heap.size, 0, none⟩ = some (.int .i64 t) := (box_cells hT1.hb).1 0
    have b1 : w1.cell? ⟨w.heap.size, 1, none⟩ = some (.slice x n c) := (box_cells hT1.hb).1 1
    have s0 : w1.cell? ⟨w.heap.size + 1, 0, none⟩ = some (.int .i64 0) := (box_cells hT1.hs).1 0
    have s1 : w1.cell? ⟨w.heap.size + 1, 1, none⟩ = some (.slice none 0 0) := (box_cells hT1.hs).1 1
    have r0 : w1.cell? ⟨w.heap.size + 2, 0, none⟩ = some (.int .i64 0) := (box_cells hT1.hr).1 0
    have r1 : w1.cell? ⟨w.heap.size + 2, 1, none⟩ = some (.int .i64 0) := (box_cells hT1.hr).1 1
    have zs0 : w1.frozen? ⟨w.heap.size + 1, 0, none⟩ = false := (box_cells hT1.hs).2 0
    have zs1 : w1.frozen? ⟨w.heap.size + 1, 1, none⟩ = false := (box_cells hT1.hs).2 1
    have zr0 : w1.frozen? ⟨w.heap.size + 2, 0, none⟩ = false := (box_cells hT1.hr).2 0
    have zr1 : w1.frozen? ⟨w.heap.size + 2, 1, none⟩ = false := (box_cells hT1.hr).2 1
    go_wp2
    refine bodyPost_ret (v := .tuple #[.agg #[.int .i64 0, .slice none 0 0], .agg #[.int .i64 0, .int .i64 0], .int .i64 (chkB t ps)]) (by simp [results, Tryz.results15, go_sem, s0, s1, r0, r1]) rfl ?_
    exact TakePost.err hne (hT1.fin _ _ _ _)
end Go.Proofs.YtpdoonkhnabfjaaGreat
