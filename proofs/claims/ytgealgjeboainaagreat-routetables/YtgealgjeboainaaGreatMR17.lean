/- A law of my own: a region that draws its order, walked by hand: plain operations are taken first, the others in all orders, a tail that waits for all in its one order. -/
import Derived.Test.YtgealgjeboainaaGreatMR01
import Derived.OrdersHeld
import Derived.StillTail
import Derived.Test.YtgealgjeboainaaGreatMR16
namespace Go.Proofs.YtgealgjeboainaaGreat
open Go.RowKit

/-- An operation that is no call, and changes nothing. -/
def plV (o : Oper) : Bool := match o.op with
  | .move _ | .assign _ => true
  | .load _ _ => true
  | .fieldAddr _ _ _ => true
  | .indexAddr _ _ _ => true
  | .build _ _ => true
  | .binOp _ _ _ _ _ => true
  | .slice _ _ _ _ _ => true
  | .unOp _ _ _ => true
  | _ => false
theorem plV_andThen {s : Result Value} {n : Next} {w' : World} (h : (s.andThen fun x w => Result.ok (Next.value x) w) = .ok n w') : ∃ u, n = .value u := by
  cases s with
  | ok x w => simp only [Result.andThen, Result.ok.injEq] at h; exact ⟨x, h.1.symm⟩
  | halt x w => simp [Result.andThen] at h
theorem plV_run {P : Program} {o : Oper} {a : Act} {w w' : World} {n : Next} (h : plV o = true) (hr : (execOp a.eval o).run P w = .ok n w') : ∃ u, n = .value u := by
  unfold plV at h
  unfold execOp at hr
  split at h
  · rename_i x hop; rw [hop] at hr; simp only [Sem.run_pure, Result.ok.injEq] at hr; exact ⟨_, hr.1.symm⟩
  · rename_i x hop; rw [hop] at hr; simp only [Sem.run_pure, Result.ok.injEq] at hr; exact ⟨_, hr.1.symm⟩
  · rename_i x y hop; rw [hop] at hr; simp only [Sem.run_bind, Sem.run_pure] at hr; exact plV_andThen hr
  · rename_i x y z hop; rw [hop] at hr; simp only [Sem.run_bind, Sem.run_pure] at hr; exact plV_andThen hr
  · rename_i x y z hop; rw [hop] at hr; simp only [Sem.run_bind, Sem.run_pure] at hr; exact plV_andThen hr
  · rename_i x y hop; rw [hop] at hr; simp only [Sem.run_bind, Sem.run_pure] at hr; exact plV_andThen hr
  · rename_i hop; rw [hop] at hr; rw [Sem.run_bind] at hr; simp only [Sem.run_pure] at hr; exact plV_andThen hr
  · rename_i hop; rw [hop] at hr; simp only [Sem.run_bind, Sem.run_pure] at hr; exact plV_andThen hr
  · rename_i hop; rw [hop] at hr; simp only [Sem.run_bind, Sem.run_pure] at hr; exact plV_andThen hr
  · cases h
theorem plV_yields {P : Program} {ops : Array Oper} {C : World → Prop} {o : Oper} {v : Value} {a : Act} (hp : plV o = true) (h : YieldsIn P ops C o v a) : YieldsIf P ops C o v a := by
  rcases h with ⟨h1, h2⟩ | h
  · refine .inl ⟨h1, fun w hw => ?_⟩
    have h3 := h2 w hw
    unfold Oper.quietAt at h3
    cases hr : (execOp a.eval o).run P w with
    | ok n w' =>
      rw [hr] at h3
      obtain ⟨u, rfl⟩ := plV_run hp hr
      simp only [Oper.quietUpon] at h3
      rw [h3.1, h3.2]
    | halt x w' => rw [hr] at h3; simp [Oper.quietUpon] at h3
  · exact .inr h
/-- What has come up, has what it waits for ahead of it. -/
def ShutV (ops : Array Oper) (listed : Array Bool) : Prop := ∀ j oj, ops[j]? = some oj → listed.getD j false = true → ∀ e ∈ oj.after, Region.binds .any e = true → listed.getD e.on false = true
def shutV (ops : Array Oper) (listed : Array Bool) : Bool := (List.range ops.size).all fun j => !(listed.getD j false) || match ops[j]? with | some oj => oj.after.all fun e => !(Region.binds .any e) || listed.getD e.on false | none => true
theorem shutV_spec {ops : Array Oper} {listed : Array Bool} (h : shutV ops listed = true) : ShutV ops listed := fun j oj hj hl e he hb => by
  have h1 := List.all_eq_true.1 h j (List.mem_range.2 (Array.getElem?_eq_some_iff.1 hj).1)
  rw [hl, hj] at h1
  simp only [Bool.not_true, Bool.false_or] at h1
  obtain ⟨i, hi, rfl⟩ := Array.mem_iff_getElem.1 he
  have h2 := Array.all_eq_true.1 h1 i hi
  rw [hb] at h2
  simpa using h2
theorem ShutV.set {ops : Array Oper} {listed : Array Bool} {i : Nat} (h : ShutV ops listed) (hi : i ∈ Region.ready .any ops listed) : ShutV ops (listed.setIfInBounds i true) := fun j oj hj hl e he hb => by
  obtain ⟨_, oi, hoi, hall⟩ := mem_ready.1 hi
  by_cases hij : i = j
  · subst hij
    have : oj = oi := Option.some.inj (hj.symm.trans hoi)
    subst this
    exact getD_set_true (hall e he hb)
  · rw [getD_set_ne false hij] at hl
    exact getD_set_true (h j oj hj hl e he hb)
/-- Does j wait for i, at once or by others? -/
def reachV (ops : Array Oper) : Nat → Nat → Nat → Bool
  | 0, j, i => Region.waitsFor .any ops j i
  | f + 1, j, i => Region.waitsFor .any ops j i || (List.range ops.size).any fun k => Region.waitsFor .any ops j k && reachV ops f k i
theorem reachV_spec {ops : Array Oper} {listed : Array Bool} (h : ShutV ops listed) : ∀ (f j i : Nat), reachV ops f j i = true → (∀ oj, ops[j]? = some oj → ∀ e ∈ oj.after, Region.binds .any e = true → listed.getD e.on false = true) → listed.getD i false = true
  | 0, j, i, hr, hj => by
    obtain ⟨oj, hoj, e, he, hb, hon⟩ := Region.waitsFor_spec hr
    rw [← hon]
    exact hj oj hoj e he hb
  | f + 1, j, i, hr, hj => by
    unfold reachV at hr
    rw [Bool.or_eq_true] at hr
    rcases hr with hr | hr
    · obtain ⟨oj, hoj, e, he, hb, hon⟩ := Region.waitsFor_spec hr
      rw [← hon]
      exact hj oj hoj e he hb
    · obtain ⟨k, -, hk⟩ := List.any_eq_true.1 hr
      rw [Bool.and_eq_true] at hk
      obtain ⟨oj, hoj, e, he, hb, hon⟩ := Region.waitsFor_spec hk.1
      have hkl : listed.getD k false = true := by rw [← hon]; exact hj oj hoj e he hb
      exact reachV_spec h f k i hk.2 (fun ok hok => h k ok hok hkl)
/-- Whatever order is picked: behind each operation of T, S holds. -/
def wpV (P : Program) (ops : Array Oper) (Q : Exit → Act → World → Prop) (S : World → Prop) (T : Nat → Bool) : Nat → Array Bool → Act → World → Prop
  | 0, listed, a, w => Region.ready .any ops listed = [] ∧ Q .normal a w
  | f + 1, listed, a, w => (Region.ready .any ops listed = [] → Q .normal a w) ∧ ∀ i ∈ Region.ready .any ops listed, wpOp P ops Q i (fun a' w' => (T i = true → S w') ∧ wpV P ops Q S T f (listed.setIfInBounds i true) a' w') a w
theorem wpV_sound {P : Program} {ops : Array Oper} {Q : Exit → Act → World → Prop} {S : World → Prop} {T : Nat → Bool} : ∀ (f : Nat) (listed : Array Bool) (a : Act) (w : World), wpV P ops Q S T f listed a w → wpAny P .any ops Q f listed a w
  | 0, _, _, _, h => h
  | f + 1, _, _, _, h => ⟨h.1, fun i hi => wpOp_mono (fun a' w' h' => wpV_sound f _ a' w' h'.2) (h.2 i hi)⟩
theorem wpV_first {P : Program} {ops : Array Oper} {Q : Exit → Act → World → Prop} {S : World → Prop} {T : Nat → Bool} {i : Nat} {oi : Oper} {v : Value} (hi : ops[i]? = some oi) (hsel : ∀ (j : Nat) (o : Oper) cs b, ops[j]? = some o → o.op ≠ .select cs b)
    (hQ : ∀ d v c a w, Q (.panic c) (Act.put a d v) w → Q (.panic c) a w) (hw : ∀ j, T j = false → j < ops.size → reachV ops ops.size j i = true) :
    ∀ (f : Nat) (listed : Array Bool) (a : Act) (w : World), ShutV ops listed →
      (∀ j oj, ops[j]? = some oj → j ≠ i → listed.getD j true = false → (∀ e ∈ oj.after, Region.binds .any e = true → e.on ≠ i) → oi.apart ops oj = true) →
      i ∈ Region.ready .any ops listed → YieldsIf P ops S oi v a → S w →
      wpV P ops Q S T f (listed.setIfInBounds i true) (a.put oi.dst v) w → wpV P ops Q S T (f + 1) listed a w := by
  intro f
  induction f with
  | zero =>
    intro listed a w _ _ hr hy hS H
    refine ⟨fun h => (by rw [h] at hr; cases hr), fun j hj => ?_⟩
    by_cases hji : j = i
    · subst hji; exact hy.wpOp hi hS ⟨fun _ => hS, H⟩
    · have := ready_mono hj hji
      rw [H.1] at this
      cases this
  | succ f ih =>
    intro listed a w hsh hfree hr hy hS H
    refine ⟨fun h => (by rw [h] at hr; cases hr), fun j hj => ?_⟩
    by_cases hji : j = i
    · subst hji; exact hy.wpOp hi hS ⟨fun _ => hS, H⟩
    · have h1 := H.2 j (ready_mono hj hji)
      obtain ⟨hjun, oj, hoj, hall⟩ := mem_ready.1 hj
      have h0 := (mem_ready.1 hr).1
      have hnot : ∀ e ∈ oj.after, Region.binds .any e = true → e.on ≠ i := fun e he hb heq => by
        have h1 := hall e he hb
        rw [heq, getD_both h0] at h1
        cases h1
      have hjT : T j = true := by
        cases hT : T j with
        | true => rfl
        | false =>
          have h2 := reachV_spec hsh ops.size j i (hw j hT (Array.getElem?_eq_some_iff.1 hoj).1) (fun ok hok e he hb => by
            have : ok = oj := Option.some.inj (hok.symm.trans hoj)
            subst this
            exact hall e he hb)
          rw [getD_both h0] at h2
          cases h2
      have h2 := wpOp_putIf hoj (hfree j oj hoj hji hjun hnot) (fun cs b => hsel i oi cs b hi) (fun cs b => hsel j oj cs b hoj) (fun c a w => hQ _ _ c a w) hy h1
      have hfree' : ∀ k ok, ops[k]? = some ok → k ≠ i → (listed.setIfInBounds j true).getD k true = false →
          (∀ e ∈ ok.after, Region.binds .any e = true → e.on ≠ i) → oi.apart ops ok = true := fun k ok hk hki hun hno => by
        refine hfree k ok hk hki ?_ hno
        by_cases hjk : j = k
        · subst hjk; exact hjun
        · rw [getD_set_ne true hjk] at hun; exact hun
      refine wpOp_mono (fun a' w' h3 => ⟨fun _ => h3.2.1 hjT, ih (listed.setIfInBounds j true) a' w' (hsh.set hj) hfree' (ready_mono hr (Ne.symm hji)) h3.1 (h3.2.1 hjT) ?_⟩) h2
      rw [Array.setIfInBounds_comm _ _ hji]
      exact h3.2.2
def zOp : Oper := { dst := none, op := .move (.const (.bool false)), type := 0, pos := "", after := #[], guard := none }
def setV (is : List Nat) (listed : Array Bool) : Array Bool := is.foldl (fun l i => l.setIfInBounds i true) listed
def lexV (ops : Array Oper) : List Nat → Array Bool → Bool
  | [], _ => true
  | i :: is, listed => (Region.ready .any ops listed).contains i && Region.free .any ops listed i && lexV ops is (listed.setIfInBounds i true)
def seqV (ops : Array Oper) : List Nat → Array Bool → Bool
  | [], listed => (Region.ready .any ops listed).isEmpty
  | i :: is, listed => decide (Region.ready .any ops listed = [i]) && seqV ops is (listed.setIfInBounds i true)
theorem getD_opV {l : List Oper} {i : Nat} (h : i < l.length) : l.toArray[i]? = some (l.getD i zOp) := by
  simp [h]
theorem wpV_lex {P : Program} {l : List Oper} {Q : Exit → Act → World → Prop} {C : World → Prop} {T : Nat → Bool} {g : Nat} {w : World} (hsel : Region.noSelect l.toArray = true)
    (hQ : ∀ d v c a w, Q (.panic c) (Act.put a d v) w → Q (.panic c) a w) (D : Array Bool) (hC : C w) :
    ∀ (hs : List Nat) (listed : Array Bool) (a : Act), (∀ i ∈ hs, i < l.length ∧ plV (l.getD i zOp) = true ∧ ∀ j, T j = false → j < l.toArray.size → reachV l.toArray l.toArray.size j i = true) → ShutV l.toArray listed → lexV l.toArray hs listed = true → setV hs listed = D →
      wpQuiet P l.toArray C (fun a' => wpV P l.toArray Q C T g D a' w) (hs.map fun i => l.getD i zOp) a → wpV P l.toArray Q C T (hs.length + g) listed a w
  | [], listed, a, _, hsh, _, hd, h => by
    rw [List.length_nil, Nat.zero_add]
    subst hd
    exact h
  | i :: is, listed, a, hh, hsh, hB, hd, h => by
    obtain ⟨hil, hpl, hwt⟩ := hh i (by simp)
    have h0 := getD_opV hil
    simp only [lexV, Bool.and_eq_true] at hB
    have hr : i ∈ Region.ready .any l.toArray listed := by simpa using hB.1.1
    have hq : qOp P l.toArray C i (wpQuiet P l.toArray C (fun a' => wpV P l.toArray Q C T g D a' w) (is.map fun i => l.getD i zOp)) a := by unfold qOp; simp only [h0]; exact h
    obtain ⟨v, hy, hKK⟩ := yieldsIn_of_qOp h0 hq
    rw [List.length_cons, show is.length + 1 + g = (is.length + g) + 1 by omega]
    refine wpV_first h0 (Region.noSelect_spec hsel) hQ hwt (is.length + g) listed a w hsh (Region.free_spec h0 hB.1.2) hr (plV_yields hpl hy) hC ?_
    exact wpV_lex hsel hQ D hC is _ _ (fun k hk => hh k (by simp [hk])) (hsh.set hr) hB.2 hd hKK
def takesB (l : List Oper) (T : Nat → Bool) (hs : List Nat) (listed : Array Bool) : Bool :=
  Region.noSelect l.toArray && (hs.all fun i => decide (i < l.length) && plV (l.getD i zOp) && (List.range l.toArray.size).all fun j => T j || reachV l.toArray l.toArray.size j i) && shutV l.toArray listed && lexV l.toArray hs listed
/-- Plain operations, taken first. -/
theorem wpV_takes {P : Program} {l : List Oper} {Q : Exit → Act → World → Prop} {C : World → Prop} {T : Nat → Bool} (g : Nat) {f : Nat} {w : World} {listed : Array Bool} {a : Act} (hs : List Nat) (hf : hs.length + g = f) (D : Array Bool) (hD : setV hs listed = D) (hB : takesB l T hs listed = true)
    (hQ : ∀ d v c a w, Q (.panic c) (Act.put a d v) w → Q (.panic c) a w) (hC : C w) (h : wpQuiet P l.toArray C (fun a' => wpV P l.toArray Q C T g D a' w) (hs.map fun i => l.getD i zOp) a) : wpV P l.toArray Q C T f listed a w := by
  subst hf
  simp only [takesB, Bool.and_eq_true] at hB
  obtain ⟨⟨⟨hsel, hhs⟩, hsh⟩, hlex⟩ := hB
  refine wpV_lex hsel hQ D hC hs listed a (fun i hi => ?_) (shutV_spec hsh) hlex hD h
  have h1 := List.all_eq_true.1 hhs i hi
  simp only [Bool.and_eq_true, decide_eq_true_eq] at h1
  refine ⟨h1.1.1, h1.1.2, fun j hj hjs => ?_⟩
  have h2 := List.all_eq_true.1 h1.2 j (List.mem_range.2 hjs)
  rw [hj, Bool.false_or] at h2
  exact h2
/-- Behind one operation. -/
def wildK (K : Act → World → Prop) (Q : Exit → Act → World → Prop) : Exit → Act → World → Prop
  | .normal, a, w => K a w
  | .exit i, a, w => Q (.exit i) a w
  | .goto i, a, w => Q (.goto i) a w
  | .ret, a, w => Q .ret a w
  | .panic c, a, w => Q (.panic c) a w
  | .outgrown, a, w => Q .outgrown a w
theorem wildK_normal {K : Act → World → Prop} {Q : Exit → Act → World → Prop} {a : Act} {w : World} (h : K a w) : wildK K Q .normal a w := h
theorem upon_wildK {P : Program} {K' : Act → World → Prop} {Q : Exit → Act → World → Prop} {o : Oper} {a : Act} {w : World} {K : Act → World → Prop} (h : o.wp P a w K (wildK K' Q)) : o.wp P a w K Q := by
  unfold Oper.wp at *
  generalize (execOp a.eval o).run P w = r at *
  cases r with
  | ok n w' =>
    cases n <;> simp only [Oper.upon] at h ⊢ <;>
      first
        | exact h
        | exact Calls.mono h (fun e w'' he => by cases e <;> exact he)
  | halt x w' => cases x <;> simp only [Oper.upon] at h ⊢ <;> exact h
theorem wpOp_wildK {P : Program} {l : List Oper} {Q : Exit → Act → World → Prop} {i : Nat} {K : Act → World → Prop} {a : Act} {w : World} (hi : i < l.length) (h : wpList P l.toArray (wildK K Q) [l.getD i zOp] a w) : wpOp P l.toArray Q i K a w := by
  have hop := getD_opV hi
  unfold wpOp
  simp only [hop]
  unfold wpList at h
  by_cases hg : Region.wanted (l.getD i zOp) (yielded l.toArray a.tmps) = true
  · rw [if_pos hg] at h ⊢
    exact h.imp (fun h2 => Oper.wp_mono (fun a'' w'' h3 => h3) (upon_wildK h2)) (fun h => h)
  · rw [if_neg hg] at h ⊢
    exact h
/-- What follows an operation, kept apart. -/
structure After (P : Program) (l : List Oper) (Q : Exit → Act → World → Prop) (S : World → Prop) (T : Nat → Bool) (f i : Nat) (D : Array Bool) (K : Act → World → Prop) : Prop where
  out : ∀ a' w', S w' → wpV P l.toArray Q S T f D a' w' → K a' w'
/-- One operation may come up. -/
theorem wpV_one {P : Program} {l : List Oper} {Q : Exit → Act → World → Prop} {S : World → Prop} {T : Nat → Bool} {f : Nat} {listed : Array Bool} {a : Act} {w : World} (i : Nat) (o : Oper) (D : Array Bool) (hr : Region.ready .any l.toArray listed = [i]) (hi : decide (i < l.length) = true) (ho : l.getD i zOp = o) (hD : listed.setIfInBounds i true = D)
    (h : ∀ K, After P l Q S T f i D K → wpList P l.toArray (wildK K Q) [o] a w) : wpV P l.toArray Q S T (f + 1) listed a w := by
  subst ho
  subst hD
  refine ⟨fun h1 => (by rw [hr] at h1; cases h1), fun j hj => ?_⟩
  rw [hr] at hj
  obtain rfl : j = i := by simpa using hj
  exact wpOp_wildK (of_decide_eq_true hi) (h _ ⟨fun _ _ h1 h2 => ⟨fun _ => h1, h2⟩⟩)
/-- Two operations may come up. -/
theorem wpV_two {P : Program} {l : List Oper} {Q : Exit → Act → World → Prop} {S : World → Prop} {T : Nat → Bool} {f : Nat} {listed : Array Bool} {a : Act} {w : World} (i k : Nat) (o ok : Oper) (D Dk : Array Bool) (hr : Region.ready .any l.toArray listed = [i, k]) (hi : decide (i < l.length ∧ k < l.length) = true) (ho : l.getD i zOp = o) (hok : l.getD k zOp = ok)
    (hD : listed.setIfInBounds i true = D) (hDk : listed.setIfInBounds k true = Dk)
    (h1 : ∀ K, After P l Q S T f i D K → wpList P l.toArray (wildK K Q) [o] a w) (h2 : ∀ K, After P l Q S T f k Dk K → wpList P l.toArray (wildK K Q) [ok] a w) : wpV P l.toArray Q S T (f + 1) listed a w := by
  subst ho
  subst hok
  subst hD
  subst hDk
  refine ⟨fun h1 => (by rw [hr] at h1; cases h1), fun j hj => ?_⟩
  rw [hr] at hj
  have hj' : j = i ∨ j = k := by simpa using hj
  rcases hj' with rfl | rfl
  · exact wpOp_wildK (of_decide_eq_true hi).1 (h1 _ ⟨fun _ _ h1 h2 => ⟨fun _ => h1, h2⟩⟩)
  · exact wpOp_wildK (of_decide_eq_true hi).2 (h2 _ ⟨fun _ _ h1 h2 => ⟨fun _ => h1, h2⟩⟩)
theorem wpV_tail' {P : Program} {l : List Oper} {Q : Exit → Act → World → Prop} {S : World → Prop} {T : Nat → Bool} : ∀ (ts : List Nat) (listed : Array Bool) (a : Act) (w : World), (∀ i ∈ ts, i < l.length ∧ T i = false) →
    seqV l.toArray ts listed = true → wpList P l.toArray Q (ts.map fun i => l.getD i zOp) a w → wpV P l.toArray Q S T ts.length listed a w
  | [], _, _, _, _, hB, h => ⟨by simpa [seqV] using hB, h⟩
  | i :: ts, listed, a, w, hh, hB, h => by
    obtain ⟨hil, hT⟩ := hh i (by simp)
    have h0 := getD_opV hil
    simp only [seqV, Bool.and_eq_true, decide_eq_true_eq] at hB
    refine ⟨fun h1 => (by rw [hB.1] at h1; cases h1), fun k hk => ?_⟩
    rw [hB.1] at hk
    have hik : k = i := by simpa using hk
    subst hik
    have hw : wpOp P l.toArray Q k (wpList P l.toArray Q (ts.map fun i => l.getD i zOp)) a w := by unfold wpOp; simp only [h0]; exact h
    exact wpOp_mono (fun a' w' h' => ⟨fun h => absurd h (by rw [hT]; decide), wpV_tail' ts _ a' w' (fun i hi => hh i (by simp [hi])) hB.2 h'⟩) hw
/-- A tail in its one order. -/
theorem wpV_tail {P : Program} {l : List Oper} {Q : Exit → Act → World → Prop} {S : World → Prop} {T : Nat → Bool} {f : Nat} {listed : Array Bool} {a : Act} {w : World} (ts : List Nat) (hf : ts.length = f) (hB : (seqV l.toArray ts listed && ts.all fun i => decide (i < l.length) && !(T i)) = true) (h : wpList P l.toArray Q (ts.map fun i => l.getD i zOp) a w) : wpV P l.toArray Q S T f listed a w := by
  subst hf
  rw [Bool.and_eq_true] at hB
  refine wpV_tail' ts listed a w (fun i hi => ?_) hB.1 h
  have h1 := List.all_eq_true.1 hB.2 i hi
  simpa using h1
/-- The whole region. -/
theorem wp_region_V {P : Program} {id : Nat} {Q : Exit → Act → World → Prop} {a : Act} {w : World} {l : List Oper} (C : World → Prop) (T : Nat → Bool) (n : Nat) (D : Array Bool) (hm : P.follows .mixedOrders = true) (hn : l.toArray.size = n) (hD : Array.replicate n false = D)
    (h : wpV P l.toArray Q C T n D a w.drew) : (Code.region id l.toArray true).wp P Q a w := by
  subst hn
  subst hD
  exact wp_region_any hm (wpV_sound _ _ _ _ h)
end Go.Proofs.YtgealgjeboainaaGreat
/- TableOf of the reference. -/
namespace Go.Proofs.YtgealgjeboainaaGreat
open Go.RowKit Go.Shelf

theorem SortOf.length {L M : List Rg} (h : SortOf L M) : M.length = L.length := h.1.length_eq
theorem rts_cells (W : World) (e : Rg) : ∀ j u, (flatR [e])[j]? = some u → (W.alloc (.cells #[.int .i64 e.a, .int .i64 e.l, .int .i64 e.p] 36)).cell? (Addr.add ⟨W.heap.size, 0, none⟩ j) = some u := fun j u hj => by
  rw [addr_add, Nat.zero_add]
  exact ((box_cells (heap_new (W := W) (.cells #[.int .i64 e.a, .int .i64 e.l, .int .i64 e.p] 36) rfl)).1 j).trans (by rw [List.getElem?_toArray]; exact hj)
def TbMid (L : List Rg) (v : Vn) (bv : Nat) (w2 : World) (u i : Value) (wr : World) : Prop := ∃ (q : Nat) (M : List Rg), q ≤ v.rn ∧ i = .int .i64 q ∧ Below w2.heap.size w2 wr ∧ wr.heap[bv]? = some (vnO v) ∧ OwnT wr w2.heap.size u M ∧ SortOf (L ++ (vT v).take q) M
def TbPost (ln : Nat) (ls : List (Int × Int)) (id : Int) (vs : List Vn) (w : World) (e : Ending) (w' : World) : Prop :=
  ∃ v M, e = .returned v ∧ OwnT w' w.heap.size v M ∧ SortOf (rawT ln ls id vs) M ∧ Below w.heap.size w w'

set_option maxRecDepth 100000 in
set_option maxHeartbeats 6400000 in
theorem tableOf_any (x : Option Addr) (n c : Nat) (vs : List Vn) (lx : Option Addr) (ln lc : Nat) (ls : List (Int × Int)) (id : Int) (w : World) (hp : VS w x n vs) (hl : PS w lx ln ls) (hz : chkN n vs ln ls = 0) :
    Calls Tryz.prog 8 #[.agg #[.slice x n c, .slice lx ln lc], .int .i64 id] w (TbPost ln ls id vs w) := by
  have hvl : Hid (vs.length = n) := hp.len
  obtain ⟨hn6, hl12, hvb, -, -⟩ := chkN_zero hz
  have hfw := vpcs_few hvb
  have hlen : Hid (∀ k, (rawT ln ls id (vs.take k)).length ≤ 64 * 64) := fun k => by
    have h1 := rawT_len (ln := ln) (ls := ls) (id := id) (vs := vs.take k) (fun v hv => by
      obtain ⟨i, hi, rfl⟩ := List.getElem_of_mem (List.mem_of_mem_take hv)
      rw [← vnAt_get hi]
      rw [((hp.vps i (by rw [← hvl.out]; exact hi)).2.2.2).ranges.len]
      exact (hfw i (by rw [← hvl.out]; exact hi)).2)
    have h2 : (vs.take k).length ≤ n := by rw [List.length_take, hvl.out]; omega
    exact Nat.le_trans h1 (by omega)
  clear hz hvb
  go_enter Tryz.func8, Tryz.ntmps8
  go_upto_region 1 with fail
  obtain ⟨w2, hw2⟩ : ∃ w2, w2 = w.alloc (netO x n c lx ln lc) := ⟨_, rfl⟩
  rw [← hw2]
  have h02 : Below w.heap.size w w2 := by rw [hw2]; exact bl1 w _
  have hbox : w2.heap[w.heap.size]? = some (netO x n c lx ln lc) := by rw [hw2]; exact heap_new _ rfl
  clear hw2
  have q0 : w2.cell? ⟨w.heap.size, 0, none⟩ = some (.slice x n c) := (box_cells hbox).1 0
  have q1 : w2.cell? ⟨w.heap.size, 1, none⟩ = some (.slice lx ln lc) := (box_cells hbox).1 1
  have hp2 := hp.later h02
  have hl2 := hl.later h02
  have hsz : Hid (w.heap.size ≤ w2.heap.size) := h02.size
  clear hbox
  generalize hbk : w.heap.size = bk at *
  go_wp2
  go_loopw [5, 6] (fun u i wr => ∃ (k : Nat) (M : List Rg), k ≤ n ∧ i = .int .i64 k ∧ Below w2.heap.size w2 wr ∧ OwnT wr w2.heap.size u M ∧ SortOf (rawT ln ls id (vs.take k)) M) (fun _ i _ => n - (intOf i).toNat)
  case atStart => exact ⟨0, [], by omega, rfl, Below.refl _ _, World.ownsRow_nil _ _ _ _, SortOf.nil⟩
  case round =>
    obtain ⟨k, M0, hk, rfl, hB, hO, hS⟩ := hrel
    have r0 := cell_later hB q0
    have r1 := cell_later hB q1
    by_cases hlt : k < n
    · have hlt' : Hid (k < n) := hlt
      have hrk := (hp2.vps k hlt).2.2.2.ranges
      have hrn6 := (hfw k hlt).2
      obtain ⟨b, o, hxo, c0, c1, c2⟩ := (hp2.later hB).cells k hlt
      rw [hxo] at r0 ⊢
      go_upto_region 6 with fail
      obtain ⟨w4, hw4⟩ : ∃ w4, w4 = wr.alloc (vnO (vnAt vs k)) := ⟨_, rfl⟩
      rw [← hw4]
      have h34 : Below wr.heap.size wr w4 := by rw [hw4]; exact bl1 wr _
      have hbv : w4.heap[wr.heap.size]? = some (vnO (vnAt vs k)) := by rw [hw4]; exact heap_new _ rfl
      clear hw4 c0 c1 c2
      have s0 := cell_later h34 r0
      have s1 := cell_later h34 r1
      clear r0 r1
      have hO4 := hO.later h34
      have hB4 := hB.trans (h34.mono hB.size)
      generalize wr.heap.size = bv at *
      clear h34 hB hO
      clear wr
      have t0 : w4.cell? ⟨bv, 0, none⟩ = some (.int .i64 (vnAt vs k).id) := (box_cells hbv).1 0
      go_cut [35] (fun t wc => t = .bool (!(nearB ln ls id (vnAt vs k))) ∧ Below w4.heap.size w4 wc)
      case first =>
        cases hid : ((vnAt vs k).id == id)
        · have hne : ((vnAt vs k).id != id) = true := by simp [bne, hid]
          cases hj : jnB ln ls (vnAt vs k).id id
          · have hnear : Hid (nearB ln ls id (vnAt vs k) = false) := by show _ = _; unfold nearB; rw [hid, hj]; rfl
            go_wp2_with (go_at_call 21; refine (linked_is _ _ _ _ _ _ _ _ _ _ hj _ (hl2.later hB4) (by omega)).mono ?_; rintro e w5 ⟨rfl, hb5⟩)
            go_meet
            case rel => exact ⟨by rw [hnear.out]; rfl, hb5⟩
          · have hnear : Hid (nearB ln ls id (vnAt vs k) = true) := by show _ = _; unfold nearB; rw [hj]; simp
            go_wp2_with (go_at_call 21; refine (linked_is _ _ _ _ _ _ _ _ _ _ hj _ (hl2.later hB4) (by omega)).mono ?_; rintro e w5 ⟨rfl, hb5⟩)
            go_meet
            case rel => exact ⟨by rw [hnear.out]; rfl, hb5⟩
        · have hne : ((vnAt vs k).id != id) = false := by simp [bne, hid]
          have hnear : Hid (nearB ln ls id (vnAt vs k) = true) := by show _ = _; unfold nearB; rw [hid]; simp
          go_wp2
          go_meet
          case rel => exact ⟨by rw [hnear.out]; rfl, Below.refl _ _⟩
      case rest =>
        obtain ⟨rfl, hBc⟩ := hcut
        have hB5 := hB4.trans (hBc.mono hB4.size)
        have hbv5 := heap_later hBc hbv
        have hO5 := hO4.later hBc
        clear s0 s1 t0 hB4 hBc hbv hO4
        clear w4
        cases hnear0 : nearB ln ls id (vnAt vs k)
        · have hraw : Hid (rawT ln ls id (vs.take (k + 1)) = rawT ln ls id (vs.take k)) := by show _ = _; rw [rawT_take (by rw [hvl.out]; exact hlt'.out), if_neg (by rw [hnear0]; decide), List.append_nil]
          go_wp2
          go_roundw
          case rel => exact ⟨k + 1, M0, hlt'.out, by go_num, hB5, hO5, by rw [hraw.out]; exact hS⟩
          case measure => simp [intOf]; have := hlt'.out; omega
        · have hraw : Hid (rawT ln ls id (vs.take (k + 1)) = rawT ln ls id (vs.take k) ++ vT (vnAt vs k)) := by show _ = _; rw [rawT_take (by rw [hvl.out]; exact hlt'.out), if_pos hnear0]
          clear hnear0
          simp only [Bool.not_true]
          go_wp2
          go_loopw [5, 8] (fun u i wr => TbMid (rawT ln ls id (vs.take k)) (vnAt vs k) bv w2 u i wr) (fun _ i _ => (vnAt vs k).rn - (intOf i).toNat)
          case atStart => exact ⟨0, M0, by omega, rfl, hB5, hbv5, hO5, by simpa using hS⟩
          case round =>
            clear hB5 hbv5 hO5 hS
            clear M0
            obtain ⟨q, M, hq, rfl, hBq, hbvq, hOq, hS⟩ := hrel
            have t1 : wr.cell? ⟨bv, 1, none⟩ = some (.slice (vnAt vs k).rx (vnAt vs k).rn (vnAt vs k).rc) := (box_cells hbvq).1 1
            by_cases hq2 : q < (vnAt vs k).rn
            · have hq' : Hid (q < (vnAt vs k).rn) := hq2
              obtain ⟨br, or, hxr, d0, d1, d2⟩ := (hrk.later hBq).cells q hq2
              rw [hxr] at t1
              have hMl : Hid (M.length ≤ 64 * 64 + 64) := by
                show _ ≤ _
                have h1 := hlen.out k
                rw [hS.length, List.length_append, List.length_take]
                omega
              have hst : Hid (∀ M', SortOf ((rawT ln ls id (vs.take k) ++ (vT (vnAt vs k)).take q) ++ [⟨(rgAt (vnAt vs k).rs q).a, (rgAt (vnAt vs k).rs q).l, (vnAt vs k).id⟩]) M' → SortOf (rawT ln ls id (vs.take k) ++ (vT (vnAt vs k)).take (q + 1)) M') := fun M' h => by
                rw [vT_take (by rw [hrk.len]; exact hq'.out), ← List.append_assoc]
                exact h
              have t0 : wr.cell? ⟨bv, 0, none⟩ = some (.int .i64 (vnAt vs k).id) := (box_cells hbvq).1 0
              have hszq : Hid (w2.heap.size ≤ wr.heap.size) := hBq.size
              generalize hrg : rgAt (vnAt vs k).rs q = rg at *
              have a0 := Ws.here t0
              have a1 := Ws.here t1
              have a2 := Ws.here d0
              have a3 := Ws.here d1
              go_upto_region 10 with fail
              clear t0 t1 d0 d1 d2
              have hbd : Below wr.heap.size wr wr.drew := (Below.refl _ _).drew
              refine wp_region_V (fun w' => ∃ u : Ws wr.heap.size wr, w' = u.val) (fun j => decide (j < 11)) 13 _ (by kernel_rfl) rfl rfl ?_
              refine wpV_takes 3 [0, 1, 2, 3, 4, 5, 6, 7, 8, 9] rfl _ rfl (by kernel_rfl) (fun d _ _ _ _ h => by cases d <;> exact h) ⟨⟨_, hbd⟩, rfl⟩ ?_
              simp only [List.map_cons, List.map_nil, List.getD_cons_zero, List.getD_cons_succ]
              repeat (go_big_quiet_step (fail))
              refine wpQuiet_nil ?_
              clear a0 a1 a2 a3
              refine wpV_one 10 _ _ (by kernel_rfl) (by kernel_rfl) rfl rfl ?_
              intro K hK
              simp only [List.getD_cons_zero, List.getD_cons_succ]
              go_wp2_with fail
              have hba : Below wr.heap.size wr (wr.alloc (.cells #[.int .i64 rg.a, .int .i64 rg.l, .int .i64 (vnAt vs k).id] 36)).drew := (bl1 wr _).drew
              refine wildK_normal (hK.out _ _ ⟨⟨_, hba⟩, rfl⟩ ?_)
              clear hK K
              refine wpV_tail [11, 12] rfl (by kernel_rfl) ?_
              simp only [List.map_cons, List.map_nil, List.getD_cons_zero, List.getD_cons_succ]
              refine wpList_append_T rfl _ _ rfl w2.heap.size _ M rfl (hOq.later hba) ⟨wr.heap.size, 0, none⟩ 1 1 [⟨rg.a, rg.l, (vnAt vs k).id⟩] rfl rfl (rts_cells wr ⟨rg.a, rg.l, (vnAt vs k).id⟩) (by have := hMl.out; omega) (Nat.le_trans hszq.out hba.size) ?_
              intro v9 w9 hT9 hg9
              obtain ⟨r, hr⟩ : ∃ r : Rg, r = ⟨rg.a, rg.l, (vnAt vs k).id⟩ := ⟨_, rfl⟩
              rw [← hr] at hT9 hst
              have hbva := heap_later hba hbvq
              have hOa := hOq.later hba
              have hbv9 : w9.heap[bv]? = some (vnO (vnAt vs k)) := (hg9.block bv (Array.getElem?_eq_some_iff.1 hbva).1 (fun e => OwnT.ne hOa hbva (by decide) e.symm)).trans hbva
              have hB9 : Below w2.heap.size w2 w9 := below_grownr (hBq.trans (hba.mono hszq.out)) hg9 (fun k e => (hOa.lt k e).1)
              obtain ⟨N, hN⟩ : ∃ N, Hid (N = M.length) := ⟨_, rfl⟩
              obtain ⟨g, cap, hv9⟩ := hT9.held (by simp)
              have hv9' : v9 = .slice (some ⟨g, 0, none⟩) (N + 1) cap := by rw [hv9, List.length_append, hN.out]; rfl
              clear hv9
              subst hv9'
              have hgb := hT9.block
              have hbg : bv ≠ g := by
                obtain ⟨-, cc, hcc⟩ := hgb
                intro e
                rw [e, hcc] at hbv9
                simp at hbv9
              have hgl : Hid (w2.heap.size ≤ g ∧ g < w9.heap.size) := by
                obtain ⟨h1, cc, hcc⟩ := hgb
                exact ⟨h1, (Array.getElem?_eq_some_iff.1 hcc).1⟩
              have hT9' : OwnT w9 w2.heap.size (.slice (some ⟨g, 0, none⟩) (N + 1) cap) (M.take N ++ [r] ++ M.drop N) := by
                rw [hN.out, List.take_length, List.drop_length, List.append_nil]
                rw [hN.out] at hT9
                exact hT9
              clear hg9 hT9 hOa hbva hba hbvq hOq hBq hbd hr hgb hrg
              have hN63 : N ≤ 5000 := by have := hMl.out; have := hN.out; omega
              go_wp2
              go_loopw [9] (fun jv wr => ∃ j : Nat, jv = .int .i64 j ∧ j ≤ N ∧ Below w2.heap.size w2 wr ∧ wr.heap[bv]? = some (vnO (vnAt vs k)) ∧ g < wr.heap.size ∧ OwnT wr w2.heap.size (.slice (some ⟨g, 0, none⟩) (N + 1) cap) (M.take j ++ [r] ++ M.drop j) ∧ Hid (∀ s ∈ M.drop j, r.a < s.a)) (fun jv _ => (intOf jv).toNat)
              case atStart => exact ⟨N, by simp, Nat.le_refl _, hB9, hbv9, hgl.out.2, hT9', fun s hs => by rw [hN.out, List.drop_length] at hs; cases hs⟩
              case round =>
                clear hB9 hbv9 hT9'
                obtain ⟨j, rfl, hjN, hBj, hbvj, hgj, hOj, hgt⟩ := hrel
                have hcl : Hid ((M.take j ++ [r] ++ M.drop j).length = N + 1) := by show _ = _; have := hN.out; simp; omega
                rcases Nat.eq_zero_or_pos j with hj0 | hj0
                · have hz1 : ¬ 0 < j := by omega
                  have hz2 : decide (0 < j) = false := by simp; omega
                  have hfin : Hid (SortOf (rawT ln ls id (vs.take k) ++ (vT (vnAt vs k)).take (q + 1)) (M.take j ++ [r] ++ M.drop j)) := hst.out _ (sort_ins hS (by rw [← hN.out]; exact hjN) hgt.out (.inl hj0))
                  clear hj0
                  go_upto_region 12 with fail
                  go_cut [75] (fun t wc => t = .bool false ∧ Below wr.heap.size wr wc)
                  case first =>
                    refine wp_region_ws wr.heap.size (by kernel_rfl) (by kernel_rfl) ?_
                    repeat (go_big_quiet_step (fail))
                    refine wpQuiet_nil ?_
                    rintro _ ⟨u, rfl⟩
                    have hbu := u.property
                    generalize u.val = wu at hbu ⊢
                    clear u
                    go_wp2
                    go_meet
                    case rel => exact ⟨rfl, hbu⟩
                  case rest =>
                    obtain ⟨rfl, hbu⟩ := hcut
                    clear hz1 hz2
                    go_wp2
                    go_roundw
                    case rel => exact ⟨q + 1, _, hq'.out, by go_num, hBj.trans (hbu.mono hBj.size), heap_later hbu hbvj, hOj.later hbu, hfin.out⟩
                    case measure => simp [intOf]; have := hq'.out; omega
                · obtain ⟨p, rfl⟩ : ∃ p, j = p + 1 := ⟨j - 1, by omega⟩
                  clear hj0
                  have hpl : p < M.length := by rw [← hN.out]; omega
                  obtain ⟨y0, y1, y2⟩ := hOj.cells p (by rw [hcl.out]; omega)
                  obtain ⟨v0, v1, v2⟩ := hOj.cells (p + 1) (by rw [hcl.out]; omega)
                  rw [(insR_at hpl).1] at y0 y1 y2
                  rw [(insR_at hpl).2] at v0 v1 v2
                  have q0 : (0 : Int) ≤ p := by omega
                  have q1 : (p : Int) < (N : Int) + 1 := by omega
                  have q2 : (p : Int) + 1 < (N : Int) + 1 := by omega
                  have q3 : (0 : Int) ≤ (p : Int) + 1 := by omega
                  have q4 : (0 : Int) < (p : Int) + 1 := by omega
                  have qw : IntKind.i64.wrap ((p : Int)) = (p : Int) := by rw [IntKind.wrap_i64]; omega
                  by_cases hsw : r.a < (rgAt M p).a
                  · go_upto_region 12 with fail
                    have a4 := Ws.here y0
                    have a5 := Ws.here v0
                    clear y0 y1 y2 v0 v1 v2
                    refine wp_region_ws wr.heap.size (by kernel_rfl) (by kernel_rfl) ?_
                    repeat (go_big_quiet_step (fail))
                    refine wpQuiet_nil ?_
                    rintro _ ⟨u, rfl⟩
                    have hbu := u.property
                    generalize u.val = wu at hbu ⊢
                    clear u a4 a5
                    have hOu := hOj.later hbu
                    have hBu := hBj.trans (hbu.mono hBj.size)
                    have hbvu := heap_later hbu hbvj
                    have hgu : g < wu.heap.size := Nat.lt_of_lt_of_le hgj hbu.size
                    clear hOj hBj hbvj hbu hgj
                    clear wr
                    obtain ⟨y0, y1, y2⟩ := hOu.cells p (by rw [hcl.out]; omega)
                    obtain ⟨v0, v1, v2⟩ := hOu.cells (p + 1) (by rw [hcl.out]; omega)
                    rw [(insR_at hpl).1] at y0 y1 y2
                    rw [(insR_at hpl).2] at v0 v1 v2
                    go_upto_region 14 with fail
                    go_cut [10, 11] (fun p1 p2 wc => ∃ bp bq, p1 = .pointer (some ⟨bp, 0, none⟩) ∧ p2 = .pointer (some ⟨bq, 0, none⟩) ∧ wc.heap[bp]? = some (rtO (rgAt M p).a (rgAt M p).l (rgAt M p).p) ∧ wc.heap[bq]? = some (rtO r.a r.l r.p) ∧ Below wu.heap.size wu wc ∧ wu.heap.size ≤ bp ∧ wu.heap.size ≤ bq)
                    case first =>
                      go_region_held3 (fun w' => w'.cell? ⟨g, p * 3, none⟩ = some (.int .i64 (rgAt M p).a) ∧ w'.cell? ⟨g, p * 3 + 1, none⟩ = some (.int .i64 (rgAt M p).l) ∧ w'.cell? ⟨g, p * 3 + 2, none⟩ = some (.int .i64 (rgAt M p).p) ∧ w'.cell? ⟨g, (p + 1) * 3, none⟩ = some (.int .i64 r.a) ∧ w'.cell? ⟨g, (p + 1) * 3 + 1, none⟩ = some (.int .i64 r.l) ∧ w'.cell? ⟨g, (p + 1) * 3 + 2, none⟩ = some (.int .i64 r.p)) (first | (go_keep; done)) (fail)
                      · go_wp2
                        go_meet
                        case rel => exact ⟨wu.heap.size, wu.heap.size + 1, rfl, rfl, heap_old _ (heap_new _ rfl), heap_new _ (by simp), (bl2 wu _ _).drew, Nat.le_refl _, Nat.le_succ _⟩
                      · go_wp2
                        go_meet
                        case rel => exact ⟨wu.heap.size + 1, wu.heap.size, rfl, rfl, heap_new _ (by simp), heap_old _ (heap_new _ rfl), (bl2 wu _ _).drew, Nat.le_succ _, Nat.le_refl _⟩
                    case rest =>
                    obtain ⟨bp, bq, rfl, rfl, hbp, hbq, hbc, hbp0, hbq0⟩ := hcut
                    have hOc := hOu.later hbc
                    have hBc := hBu.trans (hbc.mono hBu.size)
                    have hbvc := heap_later hbc hbvu
                    have hgc : g < wc.heap.size := Nat.lt_of_lt_of_le hgu hbc.size
                    have hpg : bp ≠ g := by omega
                    clear y0 y1 y2 v0 v1 v2 hOu hBu hbvu hbc
                    obtain ⟨y0, y1, y2⟩ := hOc.cells p (by rw [hcl.out]; omega)
                    have z0 := hOc.frozen (p * 3)
                    have z1 := hOc.frozen (p * 3 + 1)
                    have z2 := hOc.frozen (p * 3 + 2)
                    have b0 : wc.cell? ⟨bq, 0, none⟩ = some (.int .i64 r.a) := (box_cells hbq).1 0
                    have b1 : wc.cell? ⟨bq, 1, none⟩ = some (.int .i64 r.l) := (box_cells hbq).1 1
                    have b2 : wc.cell? ⟨bq, 2, none⟩ = some (.int .i64 r.p) := (box_cells hbq).1 2
                    go_upto_region 16 with fail
                    have hOe := hOc.setE p (by rw [hcl.out]; omega) r
                    have hBe : Below w2.heap.size w2 (setT wc g p r) := setT_below hBc hgl.out.1
                    have hbve : (setT wc g p r).heap[bv]? = some (vnO (vnAt vs k)) := (setT_box hbg).trans hbvc
                    have hbpe : (setT wc g p r).heap[bp]? = some (rtO (rgAt M p).a (rgAt M p).l (rgAt M p).p) := (setT_box hpg).trans hbp
                    have hge : g < (setT wc g p r).heap.size := by rw [setT_size]; exact hgc
                    obtain ⟨we, hwe⟩ : ∃ we, we = setT wc g p r := ⟨_, rfl⟩
                    rw [← hwe] at hOe hBe hbve hbpe hge
                    unfold setT at hwe
                    rw [← hwe]
                    clear hwe y0 y1 y2 z0 z1 z2 b0 b1 b2 hOc hBc hbvc hbp hbq hgc
                    have hcl2 : Hid (((M.take (p + 1) ++ [r] ++ M.drop (p + 1)).set p r).length = N + 1) := by show _ = _; rw [List.length_set]; exact hcl.out
                    obtain ⟨y0, y1, y2⟩ := hOe.cells (p + 1) (by rw [hcl2.out]; omega)
                    have z0 := hOe.frozen ((p + 1) * 3)
                    have z1 := hOe.frozen ((p + 1) * 3 + 1)
                    have z2 := hOe.frozen ((p + 1) * 3 + 2)
                    have b0 : we.cell? ⟨bp, 0, none⟩ = some (.int .i64 (rgAt M p).a) := (box_cells hbpe).1 0
                    have b1 : we.cell? ⟨bp, 1, none⟩ = some (.int .i64 (rgAt M p).l) := (box_cells hbpe).1 1
                    have b2 : we.cell? ⟨bp, 2, none⟩ = some (.int .i64 (rgAt M p).p) := (box_cells hbpe).1 2
                    have hOh := hOe.setE (p + 1) (by rw [hcl2.out]; omega) (rgAt M p)
                    rw [swap_insR hpl] at hOh
                    have hBh : Below w2.heap.size w2 (setT we g (p + 1) (rgAt M p)) := setT_below hBe hgl.out.1
                    have hbvh : (setT we g (p + 1) (rgAt M p)).heap[bv]? = some (vnO (vnAt vs k)) := (setT_box hbg).trans hbve
                    have hgh : g < (setT we g (p + 1) (rgAt M p)).heap.size := by rw [setT_size]; exact hge
                    unfold setT at hOh hBh hbvh hgh
                    go_wp2
                    go_roundw
                    case rel => exact ⟨p, by go_num, by omega, hBh, hbvh, hgh, hOh, fun s hs => by
                      rw [List.drop_eq_getElem_cons hpl] at hs
                      rcases List.mem_cons.1 hs with rfl | hs
                      · rw [← rgAt_get hpl]; exact hsw
                      · exact hgt.out s hs⟩
                    case measure => simp [intOf]
                  · have hfin : Hid (SortOf (rawT ln ls id (vs.take k) ++ (vT (vnAt vs k)).take (q + 1)) (M.take (p + 1) ++ [r] ++ M.drop (p + 1))) := hst.out _ (sort_ins hS (by omega) hgt.out (.inr (by rw [Nat.add_sub_cancel]; omega)))
                    go_upto_region 12 with fail
                    have a4 := Ws.here y0
                    have a5 := Ws.here v0
                    clear y0 y1 y2 v0 v1 v2
                    refine wp_region_ws wr.heap.size (by kernel_rfl) (by kernel_rfl) ?_
                    repeat (go_big_quiet_step (fail))
                    refine wpQuiet_nil ?_
                    rintro _ ⟨u, rfl⟩
                    have hbu := u.property
                    generalize u.val = wu at hbu ⊢
                    clear u a4 a5
                    go_wp2
                    go_roundw
                    case rel => exact ⟨q + 1, _, hq'.out, by go_num, hBj.trans (hbu.mono hBj.size), heap_later hbu hbvj, hOj.later hbu, hfin.out⟩
                    case measure => simp [intOf]; have := hq'.out; omega
            · obtain rfl : q = (vnAt vs k).rn := by omega
              have hfin : Hid (SortOf (rawT ln ls id (vs.take (k + 1))) M) := by
                show SortOf _ _
                rw [hraw.out]
                have e : (vT (vnAt vs k)).take (vnAt vs k).rn = vT (vnAt vs k) := List.take_of_length_le (by rw [vT_len, hrk.len]; exact Nat.le_refl _)
                rw [e] at hS
                exact hS
              go_wp2
              go_roundw
              case rel => exact ⟨k + 1, M, hlt'.out, by go_num, hBq, hOq, hfin.out⟩
              case measure => simp [intOf]; have := hlt'.out; omega
    · obtain rfl : n = k := by omega
      have e : vs.take n = vs := by rw [← hvl.out, List.take_length]
      rw [e] at hS
      go_wp2
      go_ret
      exact ⟨_, M0, rfl, by rw [hbk]; exact hO.low hsz.out, hS, by rw [hbk]; exact h02.trans (hB.mono hsz.out)⟩
end Go.Proofs.YtgealgjeboainaaGreat
