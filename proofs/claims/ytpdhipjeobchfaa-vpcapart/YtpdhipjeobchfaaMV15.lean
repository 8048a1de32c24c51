/- A law of my own: a region that draws its order, walked by hand: plain operations are taken first, the others in all orders, a tail that waits for all in its one order. -/
import Derived.Test.YtpdhipjeobchfaaMV01
import Derived.OrdersHeld
import Derived.StillTail
import Derived.Test.YtpdhipjeobchfaaMV14
import Derived.Test.YtpdhipjeobchfaaMV11
import Derived.Laws.AppendOwnNone
import Derived.Deep.DeepAppendRoom
namespace Go.Proofs.Ytpdhipjeobchfaa
open Go.RowKit

/-- An operation that is no call, and changes nothing. -/
def plV (o : Oper) : Bool := match o.op with
  | .move _ | .assign _ => true
  | .load _ _ => true
  | .fieldAddr _ _ _ => true
  | .indexAddr _ _ _ => true
  | .build _ _ => true
  | .binOp _ _ _ _ _ => true
  | .slice _ _ _ _ _ => true
  | .unOp _ _ _ => true
  | _ => false
theorem plV_andThen {s : Result Value} {n : Next} {w' : World} (h : (s.andThen fun x w => Result.ok (Next.value x) w) = .ok n w') : ∃ u, n = .value u := by
  cases s with
  | ok x w => simp only [Result.andThen, Result.ok.injEq] at h; exact ⟨x, h.1.symm⟩
  | halt x w => simp [Result.andThen] at h
theorem plV_run {P : Program} {o : Oper} {a : Act} {w w' : World} {n : Next} (h : plV o = true) (hr : (execOp a.eval o).run P w = .ok n w') : ∃ u, n = .value u := by
  unfold plV at h
  unfold execOp at hr
  split at h
  · rename_i x hop; rw [hop] at hr; simp only [Sem.run_pure, Result.ok.injEq] at hr; exact ⟨_, hr.1.symm⟩
  · rename_i x hop; rw [hop] at hr; simp only [Sem.run_pure, Result.ok.injEq] at hr; exact ⟨_, hr.1.symm⟩
  · rename_i x y hop; rw [hop] at hr; simp only [Sem.run_bind, Sem.run_pure] at hr; exact plV_andThen hr
  · rename_i x y z hop; rw [hop] at hr; simp only [Sem.run_bind, Sem.run_pure] at hr; exact plV_andThen hr
  · rename_i x y z hop; rw [hop] at hr; simp only [Sem.run_bind, Sem.run_pure] at hr; exact plV_andThen hr
  · rename_i x y hop; rw [hop] at hr; simp only [Sem.run_bind, Sem.run_pure] at hr; exact plV_andThen hr
  · rename_i hop; rw [hop] at hr; rw [Sem.run_bind] at hr; simp only [Sem.run_pure] at hr; exact plV_andThen hr
  · rename_i hop; rw [hop] at hr; simp only [Sem.run_bind, Sem.run_pure] at hr; exact plV_andThen hr
  · rename_i hop; rw [hop] at hr; simp only [Sem.run_bind, Sem.run_pure] at hr; exact plV_andThen hr
  · cases h
theorem plV_yields {P : Program} {ops : Array Oper} {C : World → Prop} {o : Oper} {v : Value} {a : Act} (hp : plV o = true) (h : YieldsIn P ops C o v a) : YieldsIf P ops C o v a := by
  rcases h with ⟨h1, h2⟩ | h
  · refine .inl ⟨h1, fun w hw => ?_⟩
    have h3 := h2 w hw
    unfold Oper.quietAt at h3
    cases hr : (execOp a.eval o).run P w with
    | ok n w' =>
      rw [hr] at h3
      obtain ⟨u, rfl⟩ := plV_run hp hr
      simp only [Oper.quietUpon] at h3
      rw [h3.1, h3.2]
    | halt x w' => rw [hr] at h3; simp [Oper.quietUpon] at h3
  · exact .inr h
/-- What has come up, has what it waits for ahead of it. -/
def ShutV (ops : Array Oper) (listed : Array Bool) : Prop := ∀ j oj, ops[j]? = some oj → listed.getD j false = true → ∀ e ∈ oj.after, Region.binds .any e = true → listed.getD e.on false = true
def shutV (ops : Array Oper) (listed : Array Bool) : Bool := (List.range ops.size).all fun j => !(listed.getD j false) || match ops[j]? with | some oj => oj.after.all fun e => !(Region.binds .any e) || listed.getD e.on false | none => true
theorem shutV_spec {ops : Array Oper} {listed : Array Bool} (h : shutV ops listed = true) : ShutV ops listed := fun j oj hj hl e he hb => by
  have h1 := List.all_eq_true.1 h j (List.mem_range.2 (Array.getElem?_eq_some_iff.1 hj).1)
  rw [hl, hj] at h1
  simp only [Bool.not_true, Bool.false_or] at h1
  obtain ⟨i, hi, rfl⟩ := Array.mem_iff_getElem.1 he
  have h2 := Array.all_eq_true.1 h1 i hi
  rw [hb] at h2
  simpa using h2
theorem ShutV.set {ops : Array Oper} {listed : Array Bool} {i : Nat} (h : ShutV ops listed) (hi : i ∈ Region.ready .any ops listed) : ShutV ops (listed.setIfInBounds i true) := fun j oj hj hl e he hb => by
  obtain ⟨_, oi, hoi, hall⟩ := mem_ready.1 hi
  by_cases hij : i = j
  · subst hij
    have : oj = oi := Option.some.inj (hj.symm.trans hoi)
    subst this
    exact getD_set_true (hall e he hb)
  · rw [getD_set_ne false hij] at hl
    exact getD_set_true (h j oj hj hl e he hb)
/-- Does j wait for i, at once or by others? -/
def reachV (ops : Array Oper) : Nat → Nat → Nat → Bool
  | 0, j, i => Region.waitsFor .any ops j i
  | f + 1, j, i => Region.waitsFor .any ops j i || (List.range ops.size).any fun k => Region.waitsFor .any ops j k && reachV ops f k i
theorem reachV_spec {ops : Array Oper} {listed : Array Bool} (h : ShutV ops listed) : ∀ (f j i : Nat), reachV ops f j i = true → (∀ oj, ops[j]? = some oj → ∀ e ∈ oj.after, Region.binds .any e = true → listed.getD e.on false = true) → listed.getD i false = true
  | 0, j, i, hr, hj => by
    obtain ⟨oj, hoj, e, he, hb, hon⟩ := Region.waitsFor_spec hr
    rw [← hon]
    exact hj oj hoj e he hb
  | f + 1, j, i, hr, hj => by
    unfold reachV at hr
    rw [Bool.or_eq_true] at hr
    rcases hr with hr | hr
    · obtain ⟨oj, hoj, e, he, hb, hon⟩ := Region.waitsFor_spec hr
      rw [← hon]
      exact hj oj hoj e he hb
    · obtain ⟨k, -, hk⟩ := List.any_eq_true.1 hr
      rw [Bool.and_eq_true] at hk
      obtain ⟨oj, hoj, e, he, hb, hon⟩ := Region.waitsFor_spec hk.1
      have hkl : listed.getD k false = true := by rw [← hon]; exact hj oj hoj e he hb
      exact reachV_spec h f k i hk.2 (fun ok hok => h k ok hok hkl)
/-- Whatever order is picked: behind each operation of T, S holds. -/
def wpV (P : Program) (ops : Array Oper) (Q : Exit → Act → World → Prop) (S : World → Prop) (T : Nat → Bool) : Nat → Array Bool → Act → World → Prop
  | 0, listed, a, w => Region.ready .any ops listed = [] ∧ Q .normal a w
  | f + 1, listed, a, w => (Region.ready .any ops listed = [] → Q .normal a w) ∧ ∀ i ∈ Region.ready .any ops listed, wpOp P ops Q i (fun a' w' => (T i = true → S w') ∧ wpV P ops Q S T f (listed.setIfInBounds i true) a' w') a w
theorem wpV_sound {P : Program} {ops : Array Oper} {Q : Exit → Act → World → Prop} {S : World → Prop} {T : Nat → Bool} : ∀ (f : Nat) (listed : Array Bool) (a : Act) (w : World), wpV P ops Q S T f listed a w → wpAny P .any ops Q f listed a w
  | 0, _, _, _, h => h
  | f + 1, _, _, _, h => ⟨h.1, fun i hi => wpOp_mono (fun a' w' h' => wpV_sound f _ a' w' h'.2) (h.2 i hi)⟩
theorem wpV_first {P : Program} {ops : Array Oper} {Q : Exit → Act → World → Prop} {S : World → Prop} {T : Nat → Bool} {i : Nat} {oi : Oper} {v : Value} (hi : ops[i]? = some oi) (hsel : ∀ (j : Nat) (o : Oper) cs b, ops[j]? = some o → o.op ≠ .select cs b)
    (hQ : ∀ d v c a w, Q (.panic c) (Act.put a d v) w → Q (.panic c) a w) (hw : ∀ j, T j = false → j < ops.size → reachV ops ops.size j i = true) :
    ∀ (f : Nat) (listed : Array Bool) (a : Act) (w : World), ShutV ops listed →
      (∀ j oj, ops[j]? = some oj → j ≠ i → listed.getD j true = false → (∀ e ∈ oj.after, Region.binds .any e = true → e.on ≠ i) → oi.apart ops oj = true) →
      i ∈ Region.ready .any ops listed → YieldsIf P ops S oi v a → S w →
      wpV P ops Q S T f (listed.setIfInBounds i true) (a.put oi.dst v) w → wpV P ops Q S T (f + 1) listed a w := by
  intro f
  induction f with
  | zero =>
    intro listed a w _ _ hr hy hS H
    refine ⟨fun h => (by rw [h] at hr; cases hr), fun j hj => ?_⟩
    by_cases hji : j = i
    · subst hji; exact hy.wpOp hi hS ⟨fun _ => hS, H⟩
    · have := ready_mono hj hji
      rw [H.1] at this
      cases this
  | succ f ih =>
    intro listed a w hsh hfree hr hy hS H
    refine ⟨fun h => (by rw [h] at hr; cases hr), fun j hj => ?_⟩
    by_cases hji : j = i
    · subst hji; exact hy.wpOp hi hS ⟨fun _ => hS, H⟩
    · have h1 := H.2 j (ready_mono hj hji)
      obtain ⟨hjun, oj, hoj, hall⟩ := mem_ready.1 hj
      have h0 := (mem_ready.1 hr).1
      have hnot : ∀ e ∈ oj.after, Region.binds .any e = true → e.on ≠ i := fun e he hb heq => by
        have h1 := hall e he hb
        rw [heq, getD_both h0] at h1
        cases h1
      have hjT : T j = true := by
        cases hT : T j with
        | true => rfl
        | false =>
          have h2 := reachV_spec hsh ops.size j i (hw j hT (Array.getElem?_eq_some_iff.1 hoj).1) (fun ok hok e he hb => by
            have : ok = oj := Option.some.inj (hok.symm.trans hoj)
            subst this
            exact hall e he hb)
          rw [getD_both h0] at h2
          cases h2
      have h2 := wpOp_putIf hoj (hfree j oj hoj hji hjun hnot) (fun cs b => hsel i oi cs b hi) (fun cs b => hsel j oj cs b hoj) (fun c a w => hQ _ _ c a w) hy h1
      have hfree' : ∀ k ok, ops[k]? = some ok → k ≠ i → (listed.setIfInBounds j true).getD k true = false →
          (∀ e ∈ ok.after, Region.binds .any e = true → e.on ≠ i) → oi.apart ops ok = true := fun k ok hk hki hun hno => by
        refine hfree k ok hk hki ?_ hno
        by_cases hjk : j = k
        · subst hjk; exact hjun
        · rw [getD_set_ne true hjk] at hun; exact hun
      refine wpOp_mono (fun a' w' h3 => ⟨fun _ => h3.2.1 hjT, ih (listed.setIfInBounds j true) a' w' (hsh.set hj) hfree' (ready_mono hr (Ne.symm hji)) h3.1 (h3.2.1 hjT) ?_⟩) h2
      rw [Array.setIfInBounds_comm _ _ hji]
      exact h3.2.2
def zOp : Oper := { dst := none, op := .move (.const (.bool false)), type := 0, pos := "", after := #[], guard := none }
def setV (is : List Nat) (listed : Array Bool) : Array Bool := is.foldl (fun l i => l.setIfInBounds i true) listed
def lexV (ops : Array Oper) : List Nat → Array Bool → Bool
  | [], _ => true
  | i :: is, listed => (Region.ready .any ops listed).contains i && Region.free .any ops listed i && lexV ops is (listed.setIfInBounds i true)
def seqV (ops : Array Oper) : List Nat → Array Bool → Bool
  | [], listed => (Region.ready .any ops listed).isEmpty
  | i :: is, listed => decide (Region.ready .any ops listed = [i]) && seqV ops is (listed.setIfInBounds i true)
theorem getD_opV {l : List Oper} {i : Nat} (h : i < l.length) : l.toArray[i]? = some (l.getD i zOp) := by
  simp [h]
theorem wpV_lex {P : Program} {l : List Oper} {Q : Exit → Act → World → Prop} {C : World → Prop} {T : Nat → Bool} {g : Nat} {w : World} (hsel : Region.noSelect l.toArray = true)
    (hQ : ∀ d v c a w, Q (.panic c) (Act.put a d v) w → Q (.panic c) a w) (D : Array Bool) (hC : C w) :
    ∀ (hs : List Nat) (listed : Array Bool) (a : Act), (∀ i ∈ hs, i < l.length ∧ plV (l.getD i zOp) = true ∧ ∀ j, T j = false → j < l.toArray.size → reachV l.toArray l.toArray.size j i = true) → ShutV l.toArray listed → lexV l.toArray hs listed = true → setV hs listed = D →
      wpQuiet P l.toArray C (fun a' => wpV P l.toArray Q C T g D a' w) (hs.map fun i => l.getD i zOp) a → wpV P l.toArray Q C T (hs.length + g) listed a w
  | [], listed, a, _, hsh, _, hd, h => by
    rw [List.length_nil, Nat.zero_add]
    subst hd
    exact h
  | i :: is, listed, a, hh, hsh, hB, hd, h => by
    obtain ⟨hil, hpl, hwt⟩ := hh i (by simp)
    have h0 := getD_opV hil
    simp only [lexV, Bool.and_eq_true] at hB
    have hr : i ∈ Region.ready .any l.toArray listed := by simpa using hB.1.1
    have hq : qOp P l.toArray C i (wpQuiet P l.toArray C (fun a' => wpV P l.toArray Q C T g D a' w) (is.map fun i => l.getD i zOp)) a := by unfold qOp; simp only [h0]; exact h
    obtain ⟨v, hy, hKK⟩ := yieldsIn_of_qOp h0 hq
    rw [List.length_cons, show is.length + 1 + g = (is.length + g) + 1 by omega]
    refine wpV_first h0 (Region.noSelect_spec hsel) hQ hwt (is.length + g) listed a w hsh (Region.free_spec h0 hB.1.2) hr (plV_yields hpl hy) hC ?_
    exact wpV_lex hsel hQ D hC is _ _ (fun k hk => hh k (by simp [hk])) (hsh.set hr) hB.2 hd hKK
def takesB (l : List Oper) (T : Nat → Bool) (hs : List Nat) (listed : Array Bool) : Bool :=
  Region.noSelect l.toArray && (hs.all fun i => decide (i < l.length) && plV (l.getD i zOp) && (List.range l.toArray.size).all fun j => T j || reachV l.toArray l.toArray.size j i) && shutV l.toArray listed && lexV l.toArray hs listed
/-- Plain operations, taken first. -/
theorem wpV_takes {P : Program} {l : List Oper} {Q : Exit → Act → World → Prop} {C : World → Prop} {T : Nat → Bool} (g : Nat) {f : Nat} {w : World} {listed : Array Bool} {a : Act} (hs : List Nat) (hf : hs.length + g = f) (D : Array Bool) (hD : setV hs listed = D) (hB : takesB l T hs listed = true)
    (hQ : ∀ d v c a w, Q (.panic c) (Act.put a d v) w → Q (.panic c) a w) (hC : C w) (h : wpQuiet P l.toArray C (fun a' => wpV P l.toArray Q C T g D a' w) (hs.map fun i => l.getD i zOp) a) : wpV P l.toArray Q C T f listed a w := by
  subst hf
  simp only [takesB, Bool.and_eq_true] at hB
  obtain ⟨⟨⟨hsel, hhs⟩, hsh⟩, hlex⟩ := hB
  refine wpV_lex hsel hQ D hC hs listed a (fun i hi => ?_) (shutV_spec hsh) hlex hD h
  have h1 := List.all_eq_true.1 hhs i hi
  simp only [Bool.and_eq_true, decide_eq_true_eq] at h1
  refine ⟨h1.1.1, h1.1.2, fun j hj hjs => ?_⟩
  have h2 := List.all_eq_true.1 h1.2 j (List.mem_range.2 hjs)
  rw [hj, Bool.false_or] at h2
  exact h2
/-- Behind one operation. -/
def wildK (K : Act → World → Prop) (Q : Exit → Act → World → Prop) : Exit → Act → World → Prop
  | .normal, a, w => K a w
  | .exit i, a, w => Q (.exit i) a w
  | .goto i, a, w => Q (.goto i) a w
  | .ret, a, w => Q .ret a w
  | .panic c, a, w => Q (.panic c) a w
  | .outgrown, a, w => Q .outgrown a w
theorem wildK_normal {K : Act → World → Prop} {Q : Exit → Act → World → Prop} {a : Act} {w : World} (h : K a w) : wildK K Q .normal a w := h
theorem upon_wildK {P : Program} {K' : Act → World → Prop} {Q : Exit → Act → World → Prop} {o : Oper} {a : Act} {w : World} {K : Act → World → Prop} (h : o.wp P a w K (wildK K' Q)) : o.wp P a w K Q := by
  unfold Oper.wp at *
  generalize (execOp a.eval o).run P w = r at *
  cases r with
  | ok n w' =>
    cases n <;> simp only [Oper.upon] at h ⊢ <;>
      first
        | exact h
        | exact Calls.mono h (fun e w'' he => by cases e <;> exact he)
  | halt x w' => cases x <;> simp only [Oper.upon] at h ⊢ <;> exact h
theorem wpOp_wildK {P : Program} {l : List Oper} {Q : Exit → Act → World → Prop} {i : Nat} {K : Act → World → Prop} {a : Act} {w : World} (hi : i < l.length) (h : wpList P l.toArray (wildK K Q) [l.getD i zOp] a w) : wpOp P l.toArray Q i K a w := by
  have hop := getD_opV hi
  unfold wpOp
  simp only [hop]
  unfold wpList at h
  by_cases hg : Region.wanted (l.getD i zOp) (yielded l.toArray a.tmps) = true
  · rw [if_pos hg] at h ⊢
    exact h.imp (fun h2 => Oper.wp_mono (fun a'' w'' h3 => h3) (upon_wildK h2)) (fun h => h)
  · rw [if_neg hg] at h ⊢
    exact h
/-- What follows an operation, kept apart. -/
structure After (P : Program) (l : List Oper) (Q : Exit → Act → World → Prop) (S : World → Prop) (T : Nat → Bool) (f i : Nat) (D : Array Bool) (K : Act → World → Prop) : Prop where
  out : ∀ a' w', S w' → wpV P l.toArray Q S T f D a' w' → K a' w'
/-- One operation may come up. -/
theorem wpV_one {P : Program} {l : List Oper} {Q : Exit → Act → World → Prop} {S : World → Prop} {T : Nat → Bool} {f : Nat} {listed : Array Bool} {a : Act} {w : World} (i : Nat) (o : Oper) (D : Array Bool) (hr : Region.ready .any l.toArray listed = [i]) (hi : decide (i < l.length) = true) (ho : l.getD i zOp = o) (hD : listed.setIfInBounds i true = D)
    (h : ∀ K, After P l Q S T f i D K → wpList P l.toArray (wildK K Q) [o] a w) : wpV P l.toArray Q S T (f + 1) listed a w := by
  subst ho
  subst hD
  refine ⟨fun h1 => (by rw [hr] at h1; cases h1), fun j hj => ?_⟩
  rw [hr] at hj
  obtain rfl : j = i := by simpa using hj
  exact wpOp_wildK (of_decide_eq_true hi) (h _ ⟨fun _ _ h1 h2 => ⟨fun _ => h1, h2⟩⟩)
/-- Two operations may come up. -/
theorem wpV_two {P : Program} {l : List Oper} {Q : Exit → Act → World → Prop} {S : World → Prop} {T : Nat → Bool} {f : Nat} {listed : Array Bool} {a : Act} {w : World} (i k : Nat) (o ok : Oper) (D Dk : Array Bool) (hr : Region.ready .any l.toArray listed = [i, k]) (hi : decide (i < l.length ∧ k < l.length) = true) (ho : l.getD i zOp = o) (hok : l.getD k zOp = ok)
    (hD : listed.setIfInBounds i true = D) (hDk : listed.setIfInBounds k true = Dk)
    (h1 : ∀ K, After P l Q S T f i D K → wpList P l.toArray (wildK K Q) [o] a w) (h2 : ∀ K, After P l Q S T f k Dk K → wpList P l.toArray (wildK K Q) [ok] a w) : wpV P l.toArray Q S T (f + 1) listed a w := by
  subst ho
  subst hok
  subst hD
  subst hDk
  refine ⟨fun h1 => (by rw [hr] at h1; cases h1), fun j hj => ?_⟩
  rw [hr] at hj
  have hj' : j = i ∨ j = k := by simpa using hj
  rcases hj' with rfl | rfl
  · exact wpOp_wildK (of_decide_eq_true hi).1 (h1 _ ⟨fun _ _ h1 h2 => ⟨fun _ => h1, h2⟩⟩)
  · exact wpOp_wildK (of_decide_eq_true hi).2 (h2 _ ⟨fun _ _ h1 h2 => ⟨fun _ => h1, h2⟩⟩)
theorem wpV_tail' {P : Program} {l : List Oper} {Q : Exit → Act → World → Prop} {S : World → Prop} {T : Nat → Bool} : ∀ (ts : List Nat) (listed : Array Bool) (a : Act) (w : World), (∀ i ∈ ts, i < l.length ∧ T i = false) →
    seqV l.toArray ts listed = true → wpList P l.toArray Q (ts.map fun i => l.getD i zOp) a w → wpV P l.toArray Q S T ts.length listed a w
  | [], _, _, _, _, hB, h => ⟨by simpa [seqV] using hB, h⟩
  | i :: ts, listed, a, w, hh, hB, h => by
    obtain ⟨hil, hT⟩ := hh i (by simp)
    have h0 := getD_opV hil
    simp only [seqV, Bool.and_eq_true, decide_eq_true_eq] at hB
    refine ⟨fun h1 => (by rw [hB.1] at h1; cases h1), fun k hk => ?_⟩
    rw [hB.1] at hk
    have hik : k = i := by simpa using hk
    subst hik
    have hw : wpOp P l.toArray Q k (wpList P l.toArray Q (ts.map fun i => l.getD i zOp)) a w := by unfold wpOp; simp only [h0]; exact h
    exact wpOp_mono (fun a' w' h' => ⟨fun h => absurd h (by rw [hT]; decide), wpV_tail' ts _ a' w' (fun i hi => hh i (by simp [hi])) hB.2 h'⟩) hw
/-- A tail in its one order. -/
theorem wpV_tail {P : Program} {l : List Oper} {Q : Exit → Act → World → Prop} {S : World → Prop} {T : Nat → Bool} {f : Nat} {listed : Array Bool} {a : Act} {w : World} (ts : List Nat) (hf : ts.length = f) (hB : (seqV l.toArray ts listed && ts.all fun i => decide (i < l.length) && !(T i)) = true) (h : wpList P l.toArray Q (ts.map fun i => l.getD i zOp) a w) : wpV P l.toArray Q S T f listed a w := by
  subst hf
  rw [Bool.and_eq_true] at hB
  refine wpV_tail' ts listed a w (fun i hi => ?_) hB.1 h
  have h1 := List.all_eq_true.1 hB.2 i hi
  simpa using h1
/-- The whole region. -/
theorem wp_region_V {P : Program} {id : Nat} {Q : Exit → Act → World → Prop} {a : Act} {w : World} {l : List Oper} (C : World → Prop) (T : Nat → Bool) (n : Nat) (D : Array Bool) (hm : P.follows .mixedOrders = true) (hn : l.toArray.size = n) (hD : Array.replicate n false = D)
    (h : wpV P l.toArray Q C T n D a w.drew) : (Code.region id l.toArray true).wp P Q a w := by
  subst hn
  subst hD
  exact wp_region_any hm (wpV_sound _ _ _ _ h)
end Go.Proofs.Ytpdhipjeobchfaa
/- Face of package vpc. -/
namespace Go.Proofs.Ytpdhipjeobchfaa
open Go.RowKit Go.Shelf

/-- There the subnet stands. -/
structure SubAt (sn : Nat) (ss : List Sb) (sub : Int) (i : Nat) : Prop where
  isn : i < sn
  sid : (sbAt ss i).id = sub
  sno : ∀ k, k < i → (sbAt ss k).id ≠ sub
theorem SubAt.one {sn : Nat} {ss : List Sb} {sub : Int} {i j : Nat} (h : SubAt sn ss sub i) (g : SubAt sn ss sub j) : i = j := by
  rcases Nat.lt_trichotomy i j with hij | hij | hij
  · exact absurd h.sid (g.sno i hij)
  · exact hij
  · exact absurd g.sid (h.sno j hij)
/-- An address is given, or there is none. -/
def GiveOr (s : Sb) (E y : Int) : Prop := (E = 0 ∧ Least s y) ∨ (E = 8 ∧ y = 0 ∧ ∀ z, usB s.a s.l z = true → z ∈ allNs s.fs)
theorem Least.one {s : Sb} {y z : Int} (h : Least s y) (g : Least s z) : y = z := by
  rcases Int.lt_trichotomy y z with hyz | hyz | hyz
  · have hu := h.use
    unfold usB at hu
    simp only [Bool.and_eq_true, decide_eq_true_eq] at hu
    exact absurd (g.first y hu.1 hyz) h.free
  · exact hyz
  · have hu := g.use
    unfold usB at hu
    simp only [Bool.and_eq_true, decide_eq_true_eq] at hu
    exact absurd (h.first z hu.1 hyz) g.free
theorem GiveOr.one {s : Sb} {E y E' y' : Int} (h : GiveOr s E y) (g : GiveOr s E' y') : E = E' ∧ y = y' := by
  rcases h with ⟨rfl, h⟩ | ⟨rfl, rfl, h⟩
  · rcases g with ⟨rfl, g⟩ | ⟨rfl, rfl, g⟩
    · exact ⟨rfl, h.one g⟩
    · exact absurd (g y h.use) h.free
  · rcases g with ⟨rfl, g⟩ | ⟨rfl, rfl, g⟩
    · exact absurd (h y' g.use) g.free
    · exact ⟨rfl, rfl⟩
def faceE0 (s : Sb) (id : Int) : Int := if wth id 1 65536 = false then 3 else if 0 ≤ fstAt s.n (fun i => (fcAt s.fs i).id == id) then 6 else if s.n = 8 then 2 else 0
def FaRel (s : Sb) (id E y : Int) : Prop := (faceE0 s id ≠ 0 → E = faceE0 s id ∧ y = 0) ∧ (faceE0 s id = 0 → GiveOr s E y)
theorem FaPost.rel {s : Sb} {id : Int} {w w' : World} {e : Ending} (h : FaPost s id w e w') : Below w.heap.size w w' ∧ ∃ y E, e = .returned (.tuple #[.int .i64 y, .int .i64 E]) ∧ FaRel s id E y := by
  refine ⟨h.1, ?_⟩
  have h2 := h.2
  unfold FaRel faceE0
  by_cases c1 : wth id 1 65536 = false
  · rw [if_pos c1] at h2 ⊢
    exact ⟨0, 3, h2, fun _ => ⟨rfl, rfl⟩, fun h => absurd h (by decide)⟩
  · rw [if_neg c1] at h2 ⊢
    by_cases c2 : 0 ≤ fstAt s.n (fun i => (fcAt s.fs i).id == id)
    · rw [if_pos c2] at h2 ⊢
      exact ⟨0, 6, h2, fun _ => ⟨rfl, rfl⟩, fun h => absurd h (by decide)⟩
    · rw [if_neg c2] at h2 ⊢
      by_cases c3 : s.n = 8
      · rw [if_pos c3] at h2 ⊢
        exact ⟨0, 2, h2, fun _ => ⟨rfl, rfl⟩, fun h => absurd h (by decide)⟩
      · rw [if_neg c3] at h2 ⊢
        rcases h2 with ⟨y, h2, h3⟩ | ⟨h2, h3⟩
        · exact ⟨y, 0, h2, fun h => absurd rfl h, fun _ => .inl ⟨rfl, h3⟩⟩
        · exact ⟨0, 8, h2, fun h => absurd rfl h, fun _ => .inr ⟨rfl, rfl, h3⟩⟩
theorem FaRel.zero {s : Sb} {id E y : Int} (h : FaRel s id E y) (hE : E ≠ 0) : y = 0 := by
  by_cases c : faceE0 s id = 0
  · rcases h.2 c with ⟨h1, -⟩ | ⟨-, h1, -⟩
    · exact absurd h1 hE
    · exact h1
  · exact (h.1 c).2
theorem FaRel.ok {s : Sb} {id y : Int} (h : FaRel s id 0 y) : faceE0 s id = 0 ∧ Least s y := by
  by_cases c : faceE0 s id = 0
  · rcases h.2 c with ⟨-, h1⟩ | ⟨h1, -⟩
    · exact ⟨c, h1⟩
    · exact absurd h1 (by decide)
  · exact absurd (h.1 c).1.symm c
/-- What an operation that gives an address answers: a network, the address and an error. -/
def VAPost (A : Int → Int → Prop) (R : World → Value → Int → Prop) (w : World) (e : Ending) (w' : World) : Prop :=
  ∃ V y E, e = .returned (.tuple #[V, .int .i64 y, .int .i64 E]) ∧ Below w.heap.size w w' ∧ A E y ∧ (E ≠ 0 → V = .agg #[.int .i64 0, .slice none 0 0, .slice none 0 0] ∧ y = 0) ∧ (E = 0 → R w' V y)
theorem VAPost.err {A : Int → Int → Prop} {R : World → Value → Int → Prop} {w w' : World} {E : Int} (hA : A E 0) (hE : E ≠ 0) (hb : Below w.heap.size w w') : VAPost A R w (.returned (.tuple #[.agg #[.int .i64 0, .slice none 0 0, .slice none 0 0], .int .i64 0, .int .i64 E])) w' :=
  ⟨_, 0, E, rfl, hb, hA, fun _ => ⟨rfl, rfl⟩, fun h => absurd h hE⟩
theorem VAPost.ok {A : Int → Int → Prop} {R : World → Value → Int → Prop} {w w' : World} {V : Value} {y : Int} (hA : A 0 y) (hb : Below w.heap.size w w') (h : R w' V y) : VAPost A R w (.returned (.tuple #[V, .int .i64 y, .int .i64 0])) w' :=
  ⟨_, y, 0, rfl, hb, hA, fun h => absurd rfl h, fun _ => h⟩
def FaceA (vid : Int) (rn : Nat) (rs : List Rg) (sn : Nat) (ss : List Sb) (sub id E y : Int) : Prop :=
  if chkV vid rn rs sn ss ≠ 0 then E = chkV vid rn rs sn ss ∧ y = 0 else ((∀ i, i < sn → (sbAt ss i).id ≠ sub) ∧ E = 5 ∧ y = 0) ∨ ∃ i, SubAt sn ss sub i ∧ FaRel (sbAt ss i) id E y
/-- The face stands ahead of the first one whose number is greater. -/
def PutFc (e : Fc) (qs rs : List Fc) : Prop := ∃ i, i ≤ qs.length ∧ (∀ j, j < i → ¬ e.id < (fcAt qs j).id) ∧ (i < qs.length → e.id < (fcAt qs i).id) ∧ rs = qs.take i ++ [e] ++ qs.drop i
def FaceR (vid : Int) (rn : Nat) (rs : List Rg) (sn : Nat) (ss : List Sb) (sub id : Int) (w : World) (V : Value) (y : Int) : Prop :=
  chkV vid rn rs sn ss = 0 ∧ ∃ ts i x n c fx gs, SubAt sn ss sub i ∧ FaRel (sbAt ss i) id 0 y ∧ sameSs ss ts ∧ PutFc ⟨id, fx, 1, 1, [y]⟩ (sbAt ts i).fs gs ∧ n = gs.length ∧ NV w vid V rs (ts.set i (withF (sbAt ts i) x n c gs))
/-- One subnet has other faces of the call's own now. -/
theorem OSs.give {w : World} {base i n c : Nat} {x : Option Addr} {v : Value} {ts : List Sb} {gs : List Fc} (h : OSs w base v ts ts.length) (hO : OFs w base (.slice x n c) gs gs.length) : OFa w base (ts.set i (withF (sbAt ts i) x n c gs)) := fun s hs => by
  obtain ⟨k, hk, rfl⟩ := List.getElem_of_mem hs
  have hk' : k < ts.length := by simpa using hk
  rw [List.getElem_set]
  by_cases e : i = k
  · rw [if_pos e]; exact hO
  · rw [if_neg e]
    have e2 : sbAt ts k = ts[k] := by unfold sbAt; rw [List.getD_eq_getElem?_getD, List.getElem?_eq_getElem hk']; rfl
    rw [← e2]
    exact h.own k hk'
theorem ownI_one {W : World} {hx base : Nat} {y : Int} (h : W.heap[hx]? = some (.cells #[.int .i64 y] 3)) (hb : base ≤ hx) : OwnI W base (.slice (some ⟨hx, 0, none⟩) 1 1) [y] :=
  ⟨rfl, .inr ⟨hx, 1, #[.int .i64 y], rfl, hb, h, by simp, by unfold maxLen; omega, by simp, rfl⟩⟩
theorem own_x {w : World} {base : Nat} {x : Option Addr} {n c : Nat} {fs : List Fc} (h : OwnF w base (.slice x n c) fs) : (x = none ∧ c = 0) ∨ ∃ b o, x = some ⟨b, o, none⟩ := by
  rcases h.2 with ⟨h, -⟩ | ⟨g, cap, cur, h, -⟩
  · simp only [Value.slice.injEq] at h
    exact .inl ⟨h.1, h.2.2⟩
  · simp only [Value.slice.injEq] at h
    exact .inr ⟨g, 0, h.1⟩
set_option maxRecDepth 100000 in
set_option maxHeartbeats 6400000 in
theorem vface_any (vid : Int) (rx : Option Addr) (rn rc : Nat) (rs : List Rg) (sx : Option Addr) (sn sc : Nat) (ss : List Sb) (sub id : Int) (w : World) (hv : Vp w rx rn rc rs sx sn sc ss) (hrn : rn ≤ 9223372036854775807) (hsn : sn ≤ 9223372036854775807) (hrc : rc ≤ 9223372036854775807) :
    Calls Try.prog 4 #[.agg #[.int .i64 vid, .slice rx rn rc, .slice sx sn sc], .int .i64 sub, .int .i64 id] w (VAPost (FaceA vid rn rs sn ss sub id) (FaceR vid rn rs sn ss sub id) w) := by
  have hsl : Hid (ss.length = sn) := hv.subs.len
  go_enter Try.func4, Try.ntmps4
  go_upto_region 1 with fail
  obtain ⟨w0, hw0⟩ : ∃ w0, w0 = (w.alloc (vpB vid (.slice rx rn rc) (.slice sx sn sc))).alloc (vpB 0 (.slice none 0 0) (.slice none 0 0)) := ⟨_, rfl⟩
  rw [← hw0]
  have hT0 : TN w w0 vid rx rn rc sx sn sc := by
    rw [hw0]
    exact ⟨heap_old _ (heap_new _ rfl), heap_new _ (by simp), bl2 w _ _⟩
  clear hw0
  have b0 : w0.cell? ⟨w.heap.size, 0, none⟩ = some (.int .i64 vid) := (box_cells hT0.hb).1 0
  have b1 : w0.cell? ⟨w.heap.size, 1, none⟩ = some (.slice rx rn rc) := (box_cells hT0.hb).1 1
  have b2 : w0.cell? ⟨w.heap.size, 2, none⟩ = some (.slice sx sn sc) := (box_cells hT0.hb).1 2
  have s0 : w0.cell? ⟨w.heap.size + 1, 0, none⟩ = some (.int .i64 0) := (box_cells hT0.hs).1 0
  have zs0 : w0.frozen? ⟨w.heap.size + 1, 0, none⟩ = false := (box_cells hT0.hs).2 0
  have s1 : w0.cell? ⟨w.heap.size + 1, 1, none⟩ = some (.slice none 0 0) := (box_cells hT0.hs).1 1
  have zs1 : w0.frozen? ⟨w.heap.size + 1, 1, none⟩ = false := (box_cells hT0.hs).2 1
  have s2 : w0.cell? ⟨w.heap.size + 1, 2, none⟩ = some (.slice none 0 0) := (box_cells hT0.hs).1 2
  have zs2 : w0.frozen? ⟨w.heap.size + 1, 2, none⟩ = false := (box_cells hT0.hs).2 2
  have hck := checkV_any vid rx rn rc rs sx sn sc ss w0 (hv.later hT0.below) hrn hsn hrc
  by_cases hc0 : chkV vid rn rs sn ss = 0
  · rw [hc0] at hck
    obtain ⟨f1, f2, f3, f4⟩ := chkV_few hc0
    have hcs := chkV_sub hc0
    have hA0 : Hid (∀ i y, SubAt sn ss sub i → ∀ {E}, FaRel (sbAt ss i) id E y → FaceA vid rn rs sn ss sub id E y) := fun i y h1 E h2 => by
      unfold FaceA
      rw [if_neg (by simp [hc0])]
      exact .inr ⟨i, h1, h2⟩
    have hA5 : Hid ((∀ i, i < sn → (sbAt ss i).id ≠ sub) → FaceA vid rn rs sn ss sub id 5 0) := fun h => by
      unfold FaceA
      rw [if_neg (by simp [hc0])]
      exact .inl ⟨h, rfl, rfl⟩
    have hcz : Hid (chkV vid rn rs sn ss = 0) := hc0
    clear hc0
    go_wp2_with fail
    refine (hck).mono ?_
    rintro e w1 ⟨rfl, hbw1⟩
    have hT1 := hT0.later hbw1
    clear b0 b1 b2 s0 zs0 s1 zs1 s2 zs2
    have b0 : w1.cell? ⟨w.heap.size, 0, none⟩ = some (.int .i64 vid) := (box_cells hT1.hb).1 0
    have b1 : w1.cell? ⟨w.heap.size, 1, none⟩ = some (.slice rx rn rc) := (box_cells hT1.hb).1 1
    have b2 : w1.cell? ⟨w.heap.size, 2, none⟩ = some (.slice sx sn sc) := (box_cells hT1.hb).1 2
    have s0 : w1.cell? ⟨w.heap.size + 1, 0, none⟩ = some (.int .i64 0) := (box_cells hT1.hs).1 0
    have zs0 : w1.frozen? ⟨w.heap.size + 1, 0, none⟩ = false := (box_cells hT1.hs).2 0
    have s1 : w1.cell? ⟨w.heap.size + 1, 1, none⟩ = some (.slice none 0 0) := (box_cells hT1.hs).1 1
    have zs1 : w1.frozen? ⟨w.heap.size + 1, 1, none⟩ = false := (box_cells hT1.hs).2 1
    have s2 : w1.cell? ⟨w.heap.size + 1, 2, none⟩ = some (.slice none 0 0) := (box_cells hT1.hs).1 2
    have zs2 : w1.frozen? ⟨w.heap.size + 1, 2, none⟩ = false := (box_cells hT1.hs).2 2
    have hsp := fun t h => subPlace_is vid sub rx rn rc sx sn sc ss t h w1 (hv.later hT1.below).subs (by omega)
    rcases fstAt_cases sn (fun i => (sbAt ss i).id == sub) with ⟨i, hi, hf, hno, hfp⟩ | ⟨hno, hfp⟩
    · have hsp' := hsp _ hfp
      clear hsp hfp
      have hSA : Hid (SubAt sn ss sub i) := ⟨hi, by simpa using hf, fun j hj => by simpa using hno j hj⟩
      clear hf hno
      have hi' : Hid (i < sn) := hi
      have hn8 := f3 i hi
      obtain ⟨b, o, rfl, c0, c1, c2, c3⟩ := hv.subs.cells i hi
      go_wp2_with fail
      refine (hsp').mono ?_
      rintro e w2 ⟨rfl, hbw2⟩
      have hT2 := hT1.later hbw2
      clear b0 b1 b2 s0 zs0 s1 zs1 s2 zs2
      have b0 : w2.cell? ⟨w.heap.size, 0, none⟩ = some (.int .i64 vid) := (box_cells hT2.hb).1 0
      have b1 : w2.cell? ⟨w.heap.size, 1, none⟩ = some (.slice rx rn rc) := (box_cells hT2.hb).1 1
      have b2 : w2.cell? ⟨w.heap.size, 2, none⟩ = some (.slice (some ⟨b, o, none⟩) sn sc) := (box_cells hT2.hb).1 2
      have s0 : w2.cell? ⟨w.heap.size + 1, 0, none⟩ = some (.int .i64 0) := (box_cells hT2.hs).1 0
      have zs0 : w2.frozen? ⟨w.heap.size + 1, 0, none⟩ = false := (box_cells hT2.hs).2 0
      have s1 : w2.cell? ⟨w.heap.size + 1, 1, none⟩ = some (.slice none 0 0) := (box_cells hT2.hs).1 1
      have zs1 : w2.frozen? ⟨w.heap.size + 1, 1, none⟩ = false := (box_cells hT2.hs).2 1
      have s2 : w2.cell? ⟨w.heap.size + 1, 2, none⟩ = some (.slice none 0 0) := (box_cells hT2.hs).1 2
      have zs2 : w2.frozen? ⟨w.heap.size + 1, 2, none⟩ = false := (box_cells hT2.hs).2 2
      have d0 := cell_later hT2.below c0
      have d1 := cell_later hT2.below c1
      have d2 := cell_later hT2.below c2
      have d3 := cell_later hT2.below c3
      clear c0 c1 c2 c3
      have i0 : (0 : Int) ≤ i := by omega
      have i1 : (i : Int) < sn := by omega
      have hfl := faceAddr_any (sbAt ss i) id w2 (hcs i hi).1 ((hv.later hT2.below).subs.faces i hi).2.2 (by omega) (fun j hj => by have := f4 i hi j hj; omega) (hcs i hi).2
      go_wp2_with fail
      refine hfl.mono ?_
      rintro e w3 hfa
      obtain ⟨hbw3, y, E, rfl, hrel'⟩ := hfa.rel
      have hrel : Hid (FaRel (sbAt ss i) id E y) := hrel'
      clear hrel' hfa hfl
      have hT3 := hT2.later hbw3
      clear b0 b1 b2 s0 zs0 s1 zs1 s2 zs2
      have b0 : w3.cell? ⟨w.heap.size, 0, none⟩ = some (.int .i64 vid) := (box_cells hT3.hb).1 0
      have b1 : w3.cell? ⟨w.heap.size, 1, none⟩ = some (.slice rx rn rc) := (box_cells hT3.hb).1 1
      have b2 : w3.cell? ⟨w.heap.size, 2, none⟩ = some (.slice (some ⟨b, o, none⟩) sn sc) := (box_cells hT3.hb).1 2
      have s0 : w3.cell? ⟨w.heap.size + 1, 0, none⟩ = some (.int .i64 0) := (box_cells hT3.hs).1 0
      have zs0 : w3.frozen? ⟨w.heap.size + 1, 0, none⟩ = false := (box_cells hT3.hs).2 0
      have s1 : w3.cell? ⟨w.heap.size + 1, 1, none⟩ = some (.slice none 0 0) := (box_cells hT3.hs).1 1
      have zs1 : w3.frozen? ⟨w.heap.size + 1, 1, none⟩ = false := (box_cells hT3.hs).2 1
      have s2 : w3.cell? ⟨w.heap.size + 1, 2, none⟩ = some (.slice none 0 0) := (box_cells hT3.hs).1 2
      have zs2 : w3.frozen? ⟨w.heap.size + 1, 2, none⟩ = false := (box_cells hT3.hs).2 2
      clear d0 d1 d2 d3
      by_cases hE : E = 0
      · subst hE
        have hv3 := fun W (hW : Below w.heap.size w W) => freshVpc_any vid rx rn rc rs (some ⟨b, o, none⟩) sn sc ss W (hv.later hW) (by omega) (by omega) (fun i hi => by have := f3 i hi; omega) (fun i hi j hj => by have := f4 i hi j hj; omega)
        go_wp2_with fail
        refine (hv3 _ hT3.below).mono ?_
        rintro e w5 ⟨vR, vS, ts, rfl, hOR, hss, hOS, hb5⟩
        clear hv3
        have hT5 := hT3.later hb5
        have htl : Hid (ts.length = sn) := by unfold Hid; rw [← hss.1]; exact hsl.out
        have hit : i < ts.length := by rw [htl.out]; exact hi
        have hsi := hss.2 i (by rw [hss.1]; exact hit)
        obtain ⟨xr, cr, rfl, -⟩ := hOR.rs
        obtain ⟨g, cap, hg5, cur, hgh, hvS⟩ : ∃ g cap, w3.heap.size ≤ g ∧ ∃ cur, w5.heap[g]? = some (.cells cur 42) ∧ vS = .slice (some ⟨g, 0, none⟩) ts.length cap := by
          obtain ⟨x2, c2, hv2, -⟩ := hOS.row.mem
          rcases hOS.row.2 with ⟨hv', -⟩ | ⟨g, cap, cur, hv', hg1, hg2, -⟩
          · rw [hv'] at hv2; simp only [Value.slice.injEq] at hv2; omega
          · exact ⟨g, cap, hg1, cur, hg2, hv'⟩
        subst hvS
        have hgl : g < w5.heap.size := (Array.getElem?_eq_some_iff.1 hgh).1
        clear b0 b1 b2 s0 zs0 s1 zs1 s2 zs2
        go_upto_region 11 with fail
        obtain ⟨w6, hw6⟩ : ∃ w6, w6 = w5.alloc (vpB vid (.slice xr rs.length cr) (.slice (some ⟨g, 0, none⟩) ts.length cap)) := ⟨_, rfl⟩
        rw [← hw6]
        have hb56 : Below w5.heap.size w5 w6 := by rw [hw6]; exact bl1 _ _
        have hn6 : w6.heap[w5.heap.size]? = some (vpB vid (.slice xr rs.length cr) (.slice (some ⟨g, 0, none⟩) ts.length cap)) := by rw [hw6]; exact heap_new _ rfl
        have hs6 : w6.heap.size = w5.heap.size + 1 := by rw [hw6]; simp
        clear hw6
        have h13 : w1.heap.size ≤ w3.heap.size := Nat.le_trans hbw2.size hbw3.size
        have hT6 := hT5.later hb56
        have hg6 := heap_later hb56 hgh
        have hOR6 := OwnR.later (hOR.low (base' := w1.heap.size) h13) hb56
        have hOS6 := OSs.later (hOS.low (base' := w1.heap.size) h13) hb56
        obtain ⟨hfS, hfl, hfc, hfm⟩ := (hOS6.own i hit).fcs
        have hfx := own_x (hOS6.own i hit).row
        have hn8' : (sbAt ts i).n ≤ 8 := by rw [← hsi.2.2.2.1]; exact hn8
        have hfl' : Hid ((sbAt ts i).fs.length = (sbAt ts i).n) := hfl
        have n2 : w6.cell? ⟨w5.heap.size, 2, none⟩ = some (.slice (some ⟨g, 0, none⟩) ts.length cap) := (box_cells hn6).1 2
        have d3 : w6.cell? ⟨g, i * 4 + 3, none⟩ = some (.slice (sbAt ts i).x (sbAt ts i).n (sbAt ts i).c) := by
          obtain ⟨x2, c2, he2, -, -, -, hm'⟩ := hOS6.row.mem
          simp only [Value.slice.injEq] at he2
          obtain ⟨b2, o2, he3, -, -, -, c8⟩ := hm' i hit
          rw [← he2.1] at he3
          simp only [Option.some.injEq, Addr.mk.injEq] at he3
          obtain ⟨rfl, rfl, -⟩ := he3
          simpa using c8
        have i1' : (i : Int) < ts.length := by omega
        have hput := fun W (hW : Below w6.heap.size w6 W) hx bf hby => putF_any ⟨id, some ⟨hx, 0, none⟩, 1, 1, [y]⟩ (sbAt ts i).x (sbAt ts i).n (sbAt ts i).c (sbAt ts i).fs bf 1 W (hfS.later hW) (by omega) hfc hfm hfx hby
        have hb16 : w1.heap.size ≤ w6.heap.size := by have := hb5.size; omega
        have hsz1 : w.heap.size + 1 < w1.heap.size := (Array.getElem?_eq_some_iff.1 hT1.hs).1
        have hq1 : w5.heap.size ≠ g := by omega
        have hq2 : w.heap.size + 1 ≠ g := by omega
        have hq4 : w.heap.size ≤ g := by omega
        have e2 : ∀ u : Ws w6.heap.size w6, u.val.cell? ⟨w5.heap.size, 2, none⟩ = some (.slice (some ⟨g, 0, none⟩) ts.length cap) := Ws.cell (by omega) n2
        have e3 : ∀ u : Ws w6.heap.size w6, u.val.cell? ⟨g, i * 4 + 3, none⟩ = some (.slice (sbAt ts i).x (sbAt ts i).n (sbAt ts i).c) := Ws.cell (by omega) d3
        have hbd : Below w6.heap.size w6 w6.drew := (Below.refl _ _).drew
        clear hfl hfc hfm hsi hcs f1 f2 f3 f4 hn8 hn8' hfx hfS  hs6
        refine wp_region_V (fun w' => ∃ u : Ws w6.heap.size w6, w' = u.val) (fun j => decide (j < 15)) 18 _ (by kernel_rfl) rfl rfl ?_
        refine wpV_takes 7 [0, 1, 2, 3, 4, 5, 6, 7, 8, 9, 10] rfl _ rfl (by kernel_rfl) (fun d _ _ _ _ h => by cases d <;> exact h) ⟨⟨_, hbd⟩, rfl⟩ ?_
        simp only [List.map_cons, List.map_nil, List.getD_cons_zero, List.getD_cons_succ]
        repeat (go_big_quiet_step (fail))
        refine wpQuiet_nil ?_
        refine wpV_two 11 13 _ _ _ _ (by kernel_rfl) (by kernel_rfl) rfl rfl rfl rfl ?_ ?_
        · intro K hK
          simp only [List.getD_cons_zero, List.getD_cons_succ]
          go_wp2_with fail
          have hba : Below w6.heap.size w6 (w6.alloc (.cells #[.int .i64 y] 3)).drew := (bl1 w6 _).drew
          refine wildK_normal (hK.out _ _ ⟨⟨_, hba⟩, rfl⟩ ?_)
          clear hK K
          refine wpV_takes 5 [12] rfl _ rfl (by kernel_rfl) (fun d _ _ _ _ h => by cases d <;> exact h) ⟨⟨_, hba⟩, rfl⟩ ?_
          simp only [List.map_cons, List.map_nil, List.getD_cons_zero, List.getD_cons_succ]
          repeat (go_big_quiet_step (fail))
          refine wpQuiet_nil ?_
          refine wpV_one 13 _ _ (by kernel_rfl) (by kernel_rfl) rfl rfl ?_
          intro K hK
          simp only [List.getD_cons_zero, List.getD_cons_succ]
          go_wp2_with fail
          have hbb : Below w6.heap.size w6 (((w6.alloc (.cells #[.int .i64 y] 3)).alloc (.cells #[.func (.func 15) #[] #[]] 48)).drew) := (bl2 w6 _ _).drew
          refine wildK_normal (hK.out _ _ ⟨⟨_, hbb⟩, rfl⟩ ?_)
          clear hK K
          refine wpV_one 14 _ _ (by kernel_rfl) (by kernel_rfl) rfl rfl ?_
          intro K hK
          simp only [List.getD_cons_zero, List.getD_cons_succ]
          go_wp2_with fail
          refine (hput (((w6.alloc (.cells #[.int .i64 y] 3)).alloc (.cells #[.func (.func 15) #[] #[]] 48)).drew) hbb w6.heap.size (w6.heap.size + 1) (by simp)).mono ?_
          rintro e w7 ⟨v7, rfl, hb7, p, hp, hlow, hup, hO7⟩
          have hb67 : Below w6.heap.size w6 w7 := (hbb).trans (hb7.mono (hbb).size)
          have hgx7 := heap_later hb7 (heap_old _ (heap_new _ rfl))
          obtain ⟨gs, hgs⟩ : ∃ gs, Hid (gs = (sbAt ts i).fs.take p ++ [(⟨id, some ⟨w6.heap.size, 0, none⟩, 1, 1, [y]⟩ : Fc)] ++ (sbAt ts i).fs.drop p) := ⟨_, rfl⟩
          rw [← hgs.out] at hO7
          obtain ⟨x7, c7, rfl, -⟩ := hO7.mem
          have hT7 := hT6.later hb67
          have hn7 := heap_later hb67 hn6
          have hg7 := heap_later hb67 hg6
          have hOS7 := OSs.later hOS6 hb67
          have hOR7 := OwnR.later hOR6 hb67
          have hbs : w1.heap.size ≤ ((((w6.alloc (.cells #[.int .i64 y] 3)).alloc (.cells #[.func (.func 15) #[] #[]] 48)).drew)).heap.size := Nat.le_trans hb16 (hbb).size
          have hIx := ownI_one (base := w1.heap.size) hgx7 (Nat.le_trans hb16 (by simp))
          have hOF7 : OFs w7 w1.heap.size (.slice x7 gs.length c7) gs gs.length := OFs.mk' (hO7.low hbs) (fun f hf => by
            rw [hgs.out] at hf
            simp only [List.mem_append, List.mem_singleton] at hf
            rcases hf with (hf | rfl) | hf
            · exact (hOS7.own i hit).each f (List.mem_of_mem_take hf)
            · exact hIx
            · exact (hOS7.own i hit).each f (List.mem_of_mem_drop hf))
          have hfa7 := OSs.give (i := i) hOS7 hOF7
          have hput7 : PutFc ⟨id, some ⟨w6.heap.size, 0, none⟩, 1, 1, [y]⟩ (sbAt ts i).fs gs := ⟨p, by rw [hfl'.out]; exact hp, hlow, by rw [hfl'.out]; exact hup, hgs.out⟩
          have n2' : w7.cell? ⟨w5.heap.size, 2, none⟩ = some (.slice (some ⟨g, 0, none⟩) ts.length cap) := (box_cells hn7).1 2
          have df : w7.frozen? ⟨g, i * 4 + 3, none⟩ = false := hOS7.row.frozen _
          have d3' := cell_later hb67 d3
          clear hput e2 e3 n2 d3 hgs hlow hup hp
          go_wp2_with fail
          refine wildK_normal (hK.out _ _ ⟨⟨_, hb67⟩, rfl⟩ ?_)
          clear hK K
          refine wpV_tail [15, 16, 17] rfl (by kernel_rfl) ?_
          simp only [List.map_cons, List.map_nil, List.getD_cons_zero, List.getD_cons_succ]
          go_upto_region 12 with fail
          obtain ⟨w8, hw8⟩ : ∃ w8, w8 = w7.setCell ⟨g, i * 4 + 3, none⟩ (.slice x7 gs.length c7) := ⟨_, rfl⟩
          rw [← hw8]
          have hn8 : w8.heap[w5.heap.size]? = some (vpB vid (.slice xr rs.length cr) (.slice (some ⟨g, 0, none⟩) ts.length cap)) := by rw [hw8]; exact (heap_setCell_other _ _ _ _ hq1).trans hn7
          have hs8 : w8.heap[w.heap.size + 1]? = some (vpB 0 (.slice none 0 0) (.slice none 0 0)) := by rw [hw8]; exact (heap_setCell_other _ _ _ _ hq2).trans hT7.hs
          have hB8 : Below w.heap.size w w8 := by rw [hw8]; exact hT7.below.setCell (p := ⟨g, i * 4 + 3, none⟩) hq4 _
          have hOR8 : OwnR w8 w1.heap.size (.slice xr rs.length cr) rs := by rw [hw8]; exact hOR7.putBox hg7 (by decide)
          have hrow8 : OwnS w8 w1.heap.size (.slice (some ⟨g, 0, none⟩) ts.length cap) (ts.set i (withF (sbAt ts i) x7 gs.length c7 gs)) := by rw [hw8]; exact hOS7.row.set i hit _ _ _ _
          have hfa8 : OFa w8 w1.heap.size (ts.set i (withF (sbAt ts i) x7 gs.length c7 gs)) := by rw [hw8]; exact hfa7.keptOf (set_grown _ _ _ _) hg7 (by decide) (by decide)
          clear hw8 n2' df d3'
          have m0 : w8.cell? ⟨w5.heap.size, 0, none⟩ = some (.int .i64 vid) := (box_cells hn8).1 0
          have m1 : w8.cell? ⟨w5.heap.size, 1, none⟩ = some (.slice xr rs.length cr) := (box_cells hn8).1 1
          have m2 : w8.cell? ⟨w5.heap.size, 2, none⟩ = some (.slice (some ⟨g, 0, none⟩) ts.length cap) := (box_cells hn8).1 2
          have s0 : w8.cell? ⟨w.heap.size + 1, 0, none⟩ = some (.int .i64 0) := (box_cells hs8).1 0
          have s1 : w8.cell? ⟨w.heap.size + 1, 1, none⟩ = some (.slice none 0 0) := (box_cells hs8).1 1
          have s2 : w8.cell? ⟨w.heap.size + 1, 2, none⟩ = some (.slice none 0 0) := (box_cells hs8).1 2
          have zs0 : w8.frozen? ⟨w.heap.size + 1, 0, none⟩ = false := (box_cells hs8).2 0
          have zs1 : w8.frozen? ⟨w.heap.size + 1, 1, none⟩ = false := (box_cells hs8).2 1
          have zs2 : w8.frozen? ⟨w.heap.size + 1, 2, none⟩ = false := (box_cells hs8).2 2
          go_wp2
          refine bodyPost_ret (v := .tuple #[.agg #[.int .i64 vid, .slice xr rs.length cr, .slice (some ⟨g, 0, none⟩) ts.length cap], .int .i64 y, .int .i64 0]) (by simp [results, Try.results4, go_sem, s0, s1, s2]) rfl ?_
          exact VAPost.ok (hA0.out _ _ hSA.out hrel.out) (((hB8.setCell (p := ⟨w.heap.size + 1, 0, none⟩) (Nat.le_add_right _ _) _).setCell (p := ⟨w.heap.size + 1, 1, none⟩) (Nat.le_add_right _ _) _).setCell (p := ⟨w.heap.size + 1, 2, none⟩) (Nat.le_add_right _ _) _) ⟨hcz.out, ts, i, x7, gs.length, c7, _, gs, hSA.out, hrel.out, hss, hput7, rfl, NV.mk (((hOR8.put hsz1).put hsz1).put hsz1) (((hrow8.put hsz1).put hsz1).put hsz1) (((hfa8.put hsz1).put hsz1).put hsz1).fcb⟩
        · intro K hK
          simp only [List.getD_cons_zero, List.getD_cons_succ]
          go_wp2_with fail
          have hba : Below w6.heap.size w6 (w6.alloc (.cells #[.func (.func 15) #[] #[]] 48)).drew := (bl1 w6 _).drew
          refine wildK_normal (hK.out _ _ ⟨⟨_, hba⟩, rfl⟩ ?_)
          clear hK K
          refine wpV_one 11 _ _ (by kernel_rfl) (by kernel_rfl) rfl rfl ?_
          intro K hK
          simp only [List.getD_cons_zero, List.getD_cons_succ]
          go_wp2_with fail
          have hbb : Below w6.heap.size w6 (((w6.alloc (.cells #[.func (.func 15) #[] #[]] 48)).alloc (.cells #[.int .i64 y] 3)).drew) := (bl2 w6 _ _).drew
          refine wildK_normal (hK.out _ _ ⟨⟨_, hbb⟩, rfl⟩ ?_)
          clear hK K
          refine wpV_one 12 _ _ (by kernel_rfl) (by kernel_rfl) rfl rfl ?_
          intro K hK
          simp only [List.getD_cons_zero, List.getD_cons_succ]
          go_wp2_with fail
          refine wildK_normal (hK.out _ _ ⟨⟨_, hbb⟩, rfl⟩ ?_)
          clear hK K
          refine wpV_one 14 _ _ (by kernel_rfl) (by kernel_rfl) rfl rfl ?_
          intro K hK
          simp only [List.getD_cons_zero, List.getD_cons_succ]
          go_wp2_with fail
          refine (hput (((w6.alloc (.cells #[.func (.func 15) #[] #[]] 48)).alloc (.cells #[.int .i64 y] 3)).drew) hbb (w6.heap.size + 1) w6.heap.size (by simp)).mono ?_
          rintro e w7 ⟨v7, rfl, hb7, p, hp, hlow, hup, hO7⟩
          have hb67 : Below w6.heap.size w6 w7 := (hbb).trans (hb7.mono (hbb).size)
          have hgx7 := heap_later hb7 (heap_new (W := w6.alloc (.cells #[.func (.func 15) #[] #[]] 48)) (k := w6.heap.size + 1) _ (by simp))
          obtain ⟨gs, hgs⟩ : ∃ gs, Hid (gs = (sbAt ts i).fs.take p ++ [(⟨id, some ⟨(w6.heap.size + 1), 0, none⟩, 1, 1, [y]⟩ : Fc)] ++ (sbAt ts i).fs.drop p) := ⟨_, rfl⟩
          rw [← hgs.out] at hO7
          obtain ⟨x7, c7, rfl, -⟩ := hO7.mem
          have hT7 := hT6.later hb67
          have hn7 := heap_later hb67 hn6
          have hg7 := heap_later hb67 hg6
          have hOS7 := OSs.later hOS6 hb67
          have hOR7 := OwnR.later hOR6 hb67
          have hbs : w1.heap.size ≤ ((((w6.alloc (.cells #[.func (.func 15) #[] #[]] 48)).alloc (.cells #[.int .i64 y] 3)).drew)).heap.size := Nat.le_trans hb16 (hbb).size
          have hIx := ownI_one (base := w1.heap.size) hgx7 (Nat.le_trans hb16 (by simp))
          have hOF7 : OFs w7 w1.heap.size (.slice x7 gs.length c7) gs gs.length := OFs.mk' (hO7.low hbs) (fun f hf => by
            rw [hgs.out] at hf
            simp only [List.mem_append, List.mem_singleton] at hf
            rcases hf with (hf | rfl) | hf
            · exact (hOS7.own i hit).each f (List.mem_of_mem_take hf)
            · exact hIx
            · exact (hOS7.own i hit).each f (List.mem_of_mem_drop hf))
          have hfa7 := OSs.give (i := i) hOS7 hOF7
          have hput7 : PutFc ⟨id, some ⟨(w6.heap.size + 1), 0, none⟩, 1, 1, [y]⟩ (sbAt ts i).fs gs := ⟨p, by rw [hfl'.out]; exact hp, hlow, by rw [hfl'.out]; exact hup, hgs.out⟩
          have n2' : w7.cell? ⟨w5.heap.size, 2, none⟩ = some (.slice (some ⟨g, 0, none⟩) ts.length cap) := (box_cells hn7).1 2
          have df : w7.frozen? ⟨g, i * 4 + 3, none⟩ = false := hOS7.row.frozen _
          have d3' := cell_later hb67 d3
          clear hput e2 e3 n2 d3 hgs hlow hup hp
          go_wp2_with fail
          refine wildK_normal (hK.out _ _ ⟨⟨_, hb67⟩, rfl⟩ ?_)
          clear hK K
          refine wpV_tail [15, 16, 17] rfl (by kernel_rfl) ?_
          simp only [List.map_cons, List.map_nil, List.getD_cons_zero, List.getD_cons_succ]
          go_upto_region 12 with fail
          obtain ⟨w8, hw8⟩ : ∃ w8, w8 = w7.setCell ⟨g, i * 4 + 3, none⟩ (.slice x7 gs.length c7) := ⟨_, rfl⟩
          rw [← hw8]
          have hn8 : w8.heap[w5.heap.size]? = some (vpB vid (.slice xr rs.length cr) (.slice (some ⟨g, 0, none⟩) ts.length cap)) := by rw [hw8]; exact (heap_setCell_other _ _ _ _ hq1).trans hn7
          have hs8 : w8.heap[w.heap.size + 1]? = some (vpB 0 (.slice none 0 0) (.slice none 0 0)) := by rw [hw8]; exact (heap_setCell_other _ _ _ _ hq2).trans hT7.hs
          have hB8 : Below w.heap.size w w8 := by rw [hw8]; exact hT7.below.setCell (p := ⟨g, i * 4 + 3, none⟩) hq4 _
          have hOR8 : OwnR w8 w1.heap.size (.slice xr rs.length cr) rs := by rw [hw8]; exact hOR7.putBox hg7 (by decide)
          have hrow8 : OwnS w8 w1.heap.size (.slice (some ⟨g, 0, none⟩) ts.length cap) (ts.set i (withF (sbAt ts i) x7 gs.length c7 gs)) := by rw [hw8]; exact hOS7.row.set i hit _ _ _ _
          have hfa8 : OFa w8 w1.heap.size (ts.set i (withF (sbAt ts i) x7 gs.length c7 gs)) := by rw [hw8]; exact hfa7.keptOf (set_grown _ _ _ _) hg7 (by decide) (by decide)
          clear hw8 n2' df d3'
          have m0 : w8.cell? ⟨w5.heap.size, 0, none⟩ = some (.int .i64 vid) := (box_cells hn8).1 0
          have m1 : w8.cell? ⟨w5.heap.size, 1, none⟩ = some (.slice xr rs.length cr) := (box_cells hn8).1 1
          have m2 : w8.cell? ⟨w5.heap.size, 2, none⟩ = some (.slice (some ⟨g, 0, none⟩) ts.length cap) := (box_cells hn8).1 2
          have s0 : w8.cell? ⟨w.heap.size + 1, 0, none⟩ = some (.int .i64 0) := (box_cells hs8).1 0
          have s1 : w8.cell? ⟨w.heap.size + 1, 1, none⟩ = some (.slice none 0 0) := (box_cells hs8).1 1
          have s2 : w8.cell? ⟨w.heap.size + 1, 2, none⟩ = some (.slice none 0 0) := (box_cells hs8).1 2
          have zs0 : w8.frozen? ⟨w.heap.size + 1, 0, none⟩ = false := (box_cells hs8).2 0
          have zs1 : w8.frozen? ⟨w.heap.size + 1, 1, none⟩ = false := (box_cells hs8).2 1
          have zs2 : w8.frozen? ⟨w.heap.size + 1, 2, none⟩ = false := (box_cells hs8).2 2
          go_wp2
          refine bodyPost_ret (v := .tuple #[.agg #[.int .i64 vid, .slice xr rs.length cr, .slice (some ⟨g, 0, none⟩) ts.length cap], .int .i64 y, .int .i64 0]) (by simp [results, Try.results4, go_sem, s0, s1, s2]) rfl ?_
          exact VAPost.ok (hA0.out _ _ hSA.out hrel.out) (((hB8.setCell (p := ⟨w.heap.size + 1, 0, none⟩) (Nat.le_add_right _ _) _).setCell (p := ⟨w.heap.size + 1, 1, none⟩) (Nat.le_add_right _ _) _).setCell (p := ⟨w.heap.size + 1, 2, none⟩) (Nat.le_add_right _ _) _) ⟨hcz.out, ts, i, x7, gs.length, c7, _, gs, hSA.out, hrel.out, hss, hput7, rfl, NV.mk (((hOR8.put hsz1).put hsz1).put hsz1) (((hrow8.put hsz1).put hsz1).put hsz1) (((hfa8.put hsz1).put hsz1).put hsz1).fcb⟩
      · have hy : Hid (y = 0) := hrel.out.zero hE
        go_wp2
        refine bodyPost_ret (v := .tuple #[.agg #[.int .i64 0, .slice none 0 0, .slice none 0 0], .int .i64 0, .int .i64 E]) (by simp [results, Try.results4, go_sem, s0, s1, s2]) rfl ?_
        exact VAPost.err (hA0.out i 0 hSA.out (hy.out ▸ hrel.out)) hE (((hT3.below.setCell (p := ⟨w.heap.size + 1, 0, none⟩) (Nat.le_add_right _ _) _).setCell (p := ⟨w.heap.size + 1, 1, none⟩) (Nat.le_add_right _ _) _).setCell (p := ⟨w.heap.size + 1, 2, none⟩) (Nat.le_add_right _ _) _)
    · have hsp' := hsp _ hfp
      have hno' : Hid (∀ i, i < sn → (sbAt ss i).id ≠ sub) := fun i hi => by simpa using hno i hi
      clear hfp hsp hno
      go_wp2_with fail
      refine (hsp').mono ?_
      rintro e w2 ⟨rfl, hbw2⟩
      have hT2 := hT1.later hbw2
      clear b0 b1 b2 s0 zs0 s1 zs1 s2 zs2
      have b0 : w2.cell? ⟨w.heap.size, 0, none⟩ = some (.int .i64 vid) := (box_cells hT2.hb).1 0
      have b1 : w2.cell? ⟨w.heap.size, 1, none⟩ = some (.slice rx rn rc) := (box_cells hT2.hb).1 1
      have b2 : w2.cell? ⟨w.heap.size, 2, none⟩ = some (.slice sx sn sc) := (box_cells hT2.hb).1 2
      have s0 : w2.cell? ⟨w.heap.size + 1, 0, none⟩ = some (.int .i64 0) := (box_cells hT2.hs).1 0
      have zs0 : w2.frozen? ⟨w.heap.size + 1, 0, none⟩ = false := (box_cells hT2.hs).2 0
      have s1 : w2.cell? ⟨w.heap.size + 1, 1, none⟩ = some (.slice none 0 0) := (box_cells hT2.hs).1 1
      have zs1 : w2.frozen? ⟨w.heap.size + 1, 1, none⟩ = false := (box_cells hT2.hs).2 1
      have s2 : w2.cell? ⟨w.heap.size + 1, 2, none⟩ = some (.slice none 0 0) := (box_cells hT2.hs).1 2
      have zs2 : w2.frozen? ⟨w.heap.size + 1, 2, none⟩ = false := (box_cells hT2.hs).2 2
      go_wp2
      refine bodyPost_ret (v := .tuple #[.agg #[.int .i64 0, .slice none 0 0, .slice none 0 0], .int .i64 0, .int .i64 5]) (by simp [results, Try.results4, go_sem, s0, s1, s2]) rfl ?_
      exact VAPost.err (hA5.out hno'.out) (by decide) (((hT2.below.setCell (p := ⟨w.heap.size + 1, 0, none⟩) (Nat.le_add_right _ _) _).setCell (p := ⟨w.heap.size + 1, 1, none⟩) (Nat.le_add_right _ _) _).setCell (p := ⟨w.heap.size + 1, 2, none⟩) (Nat.le_add_right _ _) _)
  · have hA1 : Hid (FaceA vid rn rs sn ss sub id (chkV vid rn rs sn ss) 0) := by
      unfold Hid FaceA
      rw [if_pos hc0]
      exact ⟨rfl, rfl⟩
    go_wp2_with fail
    refine (hck).mono ?_
    rintro e w1 ⟨rfl, hbw1⟩
    have hT1 := hT0.later hbw1
    clear b0 b1 b2 s0 zs0 s1 zs1 s2 zs2
    have b0 : w1.cell? ⟨w.heap.size, 0, none⟩ = some (.int .i64 vid) := (box_cells hT1.hb).1 0
    have b1 : w1.cell? ⟨w.heap.size, 1, none⟩ = some (.slice rx rn rc) := (box_cells hT1.hb).1 1
    have b2 : w1.cell? ⟨w.heap.size, 2, none⟩ = some (.slice sx sn sc) := (box_cells hT1.hb).1 2
    have s0 : w1.cell? ⟨w.heap.size + 1, 0, none⟩ = some (.int .i64 0) := (box_cells hT1.hs).1 0
    have zs0 : w1.frozen? ⟨w.heap.size + 1, 0, none⟩ = false := (box_cells hT1.hs).2 0
    have s1 : w1.cell? ⟨w.heap.size + 1, 1, none⟩ = some (.slice none 0 0) := (box_cells hT1.hs).1 1
    have zs1 : w1.frozen? ⟨w.heap.size + 1, 1, none⟩ = false := (box_cells hT1.hs).2 1
    have s2 : w1.cell? ⟨w.heap.size + 1, 2, none⟩ = some (.slice none 0 0) := (box_cells hT1.hs).1 2
    have zs2 : w1.frozen? ⟨w.heap.size + 1, 2, none⟩ = false := (box_cells hT1.hs).2 2
    go_wp2
    refine bodyPost_ret (v := .tuple #[.agg #[.int .i64 0, .slice none 0 0, .slice none 0 0], .int .i64 0, .int .i64 (chkV vid rn rs sn ss)]) (by simp [results, Try.results4, go_sem, s0, s1, s2]) rfl ?_
    exact VAPost.err hA1.out hc0 (((hT1.below.setCell (p := ⟨w.heap.size + 1, 0, none⟩) (Nat.le_add_right _ _) _).setCell (p := ⟨w.heap.size + 1, 1, none⟩) (Nat.le_add_right _ _) _).setCell (p := ⟨w.heap.size + 1, 2, none⟩) (Nat.le_add_right _ _) _)
end Go.Proofs.Ytpdhipjeobchfaa
/- More of package vpc. -/
namespace Go.Proofs.Ytpdhipjeobchfaa
open Go.RowKit Go.Shelf

theorem FaceAt.one {sn : Nat} {ss : List Sb} {sub id : Int} {i j i' j' : Nat} (h : FaceAt sn ss sub id i j) (g : FaceAt sn ss sub id i' j') : i = i' ∧ j = j' := by
  have hi : i = i' := SubAt.one ⟨h.isn, h.sid, h.sno⟩ ⟨g.isn, g.sid, g.sno⟩
  subst hi
  refine ⟨rfl, ?_⟩
  rcases Nat.lt_trichotomy j j' with hij | hij | hij
  · exact absurd h.fid (g.fno j hij)
  · exact hij
  · exact absurd g.fid (h.fno j' hij)
def MoRel (s : Sb) (f : Fc) (E y : Int) : Prop := if f.n = 4 then E = 2 ∧ y = 0 else GiveOr s E y
def MoreA (vid : Int) (rn : Nat) (rs : List Rg) (sn : Nat) (ss : List Sb) (sub id E y : Int) : Prop :=
  (plE vid rn rs sn ss sub id ≠ 0 → E = plE vid rn rs sn ss sub id ∧ y = 0) ∧ (plE vid rn rs sn ss sub id = 0 → ∃ i j, FaceAt sn ss sub id i j ∧ MoRel (sbAt ss i) (fcAt (sbAt ss i).fs j) E y)
/-- The number stands ahead of the first greater one. -/
def PutIn (e : Int) (qs rs : List Int) : Prop := ∃ i, i ≤ qs.length ∧ (∀ j, j < i → ¬ e < inAt qs j) ∧ (i < qs.length → e < inAt qs i) ∧ rs = qs.take i ++ [e] ++ qs.drop i
/-- A network of the call's own, by its numbers. -/
def NVo (w : World) (base : Nat) (vid : Int) (v : Value) (rs : List Rg) (ss : List Sb) : Prop := ∃ vR vS, v = .agg #[.int .i64 vid, vR, vS] ∧ OwnR w base vR rs ∧ OwnS w base vS ss ∧ OFa w base ss
theorem NVo.nv {w : World} {base : Nat} {vid : Int} {v : Value} {rs : List Rg} {ss : List Sb} (h : NVo w base vid v rs ss) : NV w vid v rs ss := by
  obtain ⟨vR, vS, rfl, h1, h2, h3⟩ := h
  exact NV.mk h1 h2 h3.fcb
theorem NVo.put {w : World} {base b o : Nat} {u : Value} {vid : Int} {v : Value} {rs : List Rg} {ss : List Sb} (h : NVo w base vid v rs ss) (hb : b < base) : NVo (w.setCell ⟨b, o, none⟩ u) base vid v rs ss := by
  obtain ⟨vR, vS, e, h1, h2, h3⟩ := h
  exact ⟨vR, vS, e, h1.put hb, h2.put hb, h3.put hb⟩
theorem OFa.low {w : World} {base base' : Nat} {ss : List Sb} (h : OFa w base ss) (hb : base' ≤ base) : OFa w base' ss := fun s hs => (h s hs).low hb
def MoreR (vid : Int) (rn : Nat) (rs : List Rg) (sn : Nat) (ss : List Sb) (sub id : Int) (w0 w : World) (V : Value) (y : Int) : Prop :=
  chkV vid rn rs sn ss = 0 ∧ ∃ ts i j x c ns, FaceAt sn ss sub id i j ∧ MoRel (sbAt ss i) (fcAt (sbAt ss i).fs j) 0 y ∧ sameSs ss ts ∧ PutIn y (fcAt (sbAt ts i).fs j).ns ns ∧
    NVo w w0.heap.size vid V rs (ts.set i (withF (sbAt ts i) (sbAt ts i).x (sbAt ts i).n (sbAt ts i).c ((sbAt ts i).fs.set j (withA (fcAt (sbAt ts i).fs j) x ns.length c ns))))
/-- One subnet's row of faces changes in its own block. -/
theorem OSs.turn {w w' : World} {base i gf kf cf : Nat} {v : Value} {ts : List Sb} {gs : List Fc} {cur : Array Value} (h : OSs w base v ts ts.length) (hi : i < ts.length) (hg : w.grownBy w' (some gf)) (hb : w.heap[gf]? = some (.cells cur 47))
    (hx : (Value.slice (sbAt ts i).x (sbAt ts i).n (sbAt ts i).c).ownBlock = some gf) (hO : OwnF w' base (.slice (some ⟨gf, 0, none⟩) kf cf) gs) (hsub : ∀ f ∈ gs, f ∈ (sbAt ts i).fs ∨ OwnI w' base (.slice f.x f.n f.c) f.ns) :
    OFa w' base (ts.set i (withF (sbAt ts i) (some ⟨gf, 0, none⟩) kf cf gs)) := fun s hs => by
  have hI : ∀ k, k < ts.length → ∀ f ∈ (sbAt ts k).fs, OwnI w' base (.slice f.x f.n f.c) f.ns := fun k hk f hf => by
    have h1 := (h.own k hk).each f hf
    exact h1.kept hg (fun q hq e => by subst e; exact h1.ne hb (by decide) hq)
  obtain ⟨k, hk, rfl⟩ := List.getElem_of_mem hs
  have hk' : k < ts.length := by simpa using hk
  rw [List.getElem_set]
  by_cases e : i = k
  · rw [if_pos e]
    exact OFs.mk' hO (fun f hf => (hsub f hf).elim (fun h => hI i hi f h) (fun h => h))
  · rw [if_neg e]
    have e2 : sbAt ts k = ts[k] := by unfold sbAt; rw [List.getD_eq_getElem?_getD, List.getElem?_eq_getElem hk']; rfl
    rw [← e2]
    exact OFs.mk' ((h.own k hk').row.kept hg (fun q hq e3 => by subst e3; exact h.apart i k hi hk' e _ hx hq)) (hI k hk')
/-- A row of subnets says nothing of what their faces hold. -/
theorem OwnS.faces {w : World} {base : Nat} {v : Value} {ss : List Sb} (h : OwnS w base v ss) (i : Nat) (hi : i < ss.length) (gs : List Fc) : OwnS w base v (ss.set i (withF (sbAt ss i) (sbAt ss i).x (sbAt ss i).n (sbAt ss i).c gs)) := by
  have e : flatS (ss.set i (withF (sbAt ss i) (sbAt ss i).x (sbAt ss i).n (sbAt ss i).c gs)) = flatS ss := by
    rw [← flatS_set ss i _ _ _ gs hi]
    apply List.ext_getElem?
    intro k
    rw [List.getElem?_set]
    by_cases hk : i * 4 + 3 = k
    · subst hk
      have h1 := flatS_at ss i 3 hi (by omega)
      rw [if_pos rfl, h1]
      have : i * 4 + 3 < (flatS ss).length := by rw [flatS_len]; omega
      rw [if_pos this]
      rfl
    · rw [if_neg hk]
  unfold OwnS
  rw [e, List.length_set]
  exact h
theorem more_after {j m c : Nat} {x : Option Addr} {fs : List Fc} {ns : List Int} : ∀ f ∈ fs.set j (withA (fcAt fs j) x m c ns), f ∈ fs ∨ (f.x = x ∧ f.n = m ∧ f.c = c ∧ f.ns = ns) := fun f hf => by
  obtain ⟨k, hk, rfl⟩ := List.getElem_of_mem hf
  rw [List.getElem_set]
  by_cases e : j = k
  · rw [if_pos e]; exact .inr ⟨rfl, rfl, rfl, rfl⟩
  · rw [if_neg e]; exact .inl (List.getElem_mem _)

set_option maxRecDepth 100000 in
set_option maxHeartbeats 6400000 in
theorem vmore_any (vid : Int) (rx : Option Addr) (rn rc : Nat) (rs : List Rg) (sx : Option Addr) (sn sc : Nat) (ss : List Sb) (sub id : Int) (w : World) (hv : Vp w rx rn rc rs sx sn sc ss) (hrn : rn ≤ 9223372036854775807) (hsn : sn ≤ 9223372036854775807) (hrc : rc ≤ 9223372036854775807) :
    Calls Try.prog 7 #[.agg #[.int .i64 vid, .slice rx rn rc, .slice sx sn sc], .int .i64 sub, .int .i64 id] w (VAPost (MoreA vid rn rs sn ss sub id) (MoreR vid rn rs sn ss sub id w) w) := by
  have hsl : Hid (ss.length = sn) := hv.subs.len
  have hpl0 := fun W h => placeOf_any vid rx rn rc rs sx sn sc ss sub id W h hrn hsn hrc
  unfold PlPost at hpl0
  have hAe : Hid (plE vid rn rs sn ss sub id ≠ 0 → MoreA vid rn rs sn ss sub id (plE vid rn rs sn ss sub id) 0) := fun h => ⟨fun _ => ⟨rfl, rfl⟩, fun h' => absurd h' h⟩
  have hA0 : Hid (∀ i j E y, plE vid rn rs sn ss sub id = 0 → FaceAt sn ss sub id i j → MoRel (sbAt ss i) (fcAt (sbAt ss i).fs j) E y → MoreA vid rn rs sn ss sub id E y) := fun i j E y h h1 h2 => ⟨fun h' => absurd h h', fun _ => ⟨i, j, h1, h2⟩⟩
  have hcz0 : Hid (plE vid rn rs sn ss sub id = plE vid rn rs sn ss sub id) := rfl
  generalize plE vid rn rs sn ss sub id = E at hpl0 hAe hA0 hcz0
  go_enter Try.func7, Try.ntmps7
  go_upto_region 1 with fail
  obtain ⟨w0, hw0⟩ : ∃ w0, w0 = (w.alloc (vpB vid (.slice rx rn rc) (.slice sx sn sc))).alloc (vpB 0 (.slice none 0 0) (.slice none 0 0)) := ⟨_, rfl⟩
  rw [← hw0]
  have hT0 : TN w w0 vid rx rn rc sx sn sc := by
    rw [hw0]
    exact ⟨heap_old _ (heap_new _ rfl), heap_new _ (by simp), bl2 w _ _⟩
  clear hw0
  have b0 : w0.cell? ⟨w.heap.size, 0, none⟩ = some (.int .i64 vid) := (box_cells hT0.hb).1 0
  have b1 : w0.cell? ⟨w.heap.size, 1, none⟩ = some (.slice rx rn rc) := (box_cells hT0.hb).1 1
  have b2 : w0.cell? ⟨w.heap.size, 2, none⟩ = some (.slice sx sn sc) := (box_cells hT0.hb).1 2
  have s0 : w0.cell? ⟨w.heap.size + 1, 0, none⟩ = some (.int .i64 0) := (box_cells hT0.hs).1 0
  have zs0 : w0.frozen? ⟨w.heap.size + 1, 0, none⟩ = false := (box_cells hT0.hs).2 0
  have s1 : w0.cell? ⟨w.heap.size + 1, 1, none⟩ = some (.slice none 0 0) := (box_cells hT0.hs).1 1
  have zs1 : w0.frozen? ⟨w.heap.size + 1, 1, none⟩ = false := (box_cells hT0.hs).2 1
  have s2 : w0.cell? ⟨w.heap.size + 1, 2, none⟩ = some (.slice none 0 0) := (box_cells hT0.hs).1 2
  have zs2 : w0.frozen? ⟨w.heap.size + 1, 2, none⟩ = false := (box_cells hT0.hs).2 2
  have hpl := hpl0 w0 (hv.later hT0.below)
  clear hpl0
  by_cases hE : E = 0
  · subst hE
    go_wp2_with fail
    refine hpl.mono ?_
    rintro e w1 ⟨i, j, rfl, hb1, -, hok⟩
    obtain ⟨hcz', hFA⟩ := hok (by trivial)
    have hcz : Hid (chkV vid rn rs sn ss = 0) := hcz'
    obtain ⟨f1, f2, f3, f4⟩ := chkV_few hcz'
    have hcs := chkV_sub hcz'
    clear hcz' hok hpl
    have hT1 := hT0.later hb1
    have hi := hFA.isn
    have hj := hFA.jn
    obtain ⟨b, o, rfl, c0, c1, c2, c3⟩ := hv.subs.cells i hi
    have hF := (hv.subs.faces i hi).2.2
    obtain ⟨bf, of, hbf, q0, q1⟩ := hF.cells j hj
    have hbf' : Hid ((sbAt ss i).x = some ⟨bf, of, none⟩) := hbf
    obtain ⟨fn, hfn⟩ : ∃ fn, Hid ((fcAt (sbAt ss i).fs j).n = fn) := ⟨_, rfl⟩
    have d0 := cell_later hT1.below c0
    have d1 := cell_later hT1.below c1
    have d2 := cell_later hT1.below c2
    have d3 := cell_later hT1.below c3
    have d3x : w1.cell? ⟨b, o + i * 4 + 3, none⟩ = some (.slice (some ⟨bf, of, none⟩) (sbAt ss i).n (sbAt ss i).c) := by rw [← hbf]; exact d3
    have p1 : w1.cell? ⟨bf, of + j * 2 + 1, none⟩ = some (.slice (fcAt (sbAt ss i).fs j).x fn (fcAt (sbAt ss i).fs j).c) := by rw [← hfn.out]; exact cell_later hT1.below q1
    have d3h : Hid (w1.cell? ⟨b, o + i * 4 + 3, none⟩ = some (.slice (sbAt ss i).x (sbAt ss i).n (sbAt ss i).c)) := d3
    clear hbf q0 q1 c0 c1 c2 c3 d3
    have i0 : (0 : Int) ≤ i := by omega
    have i1 : (i : Int) < sn := by omega
    have j0 : (0 : Int) ≤ j := by omega
    have j1 : (j : Int) < (sbAt ss i).n := by omega
    clear b0 b1 b2 s0 zs0 s1 zs1 s2 zs2
    have b0 : w1.cell? ⟨w.heap.size, 0, none⟩ = some (.int .i64 vid) := (box_cells hT1.hb).1 0
    have b1 : w1.cell? ⟨w.heap.size, 1, none⟩ = some (.slice rx rn rc) := (box_cells hT1.hb).1 1
    have b2 : w1.cell? ⟨w.heap.size, 2, none⟩ = some (.slice (some ⟨b, o, none⟩) sn sc) := (box_cells hT1.hb).1 2
    have s0 : w1.cell? ⟨w.heap.size + 1, 0, none⟩ = some (.int .i64 0) := (box_cells hT1.hs).1 0
    have zs0 : w1.frozen? ⟨w.heap.size + 1, 0, none⟩ = false := (box_cells hT1.hs).2 0
    have s1 : w1.cell? ⟨w.heap.size + 1, 1, none⟩ = some (.slice none 0 0) := (box_cells hT1.hs).1 1
    have zs1 : w1.frozen? ⟨w.heap.size + 1, 1, none⟩ = false := (box_cells hT1.hs).2 1
    have s2 : w1.cell? ⟨w.heap.size + 1, 2, none⟩ = some (.slice none 0 0) := (box_cells hT1.hs).1 2
    have zs2 : w1.frozen? ⟨w.heap.size + 1, 2, none⟩ = false := (box_cells hT1.hs).2 2
    by_cases h4 : fn = 4
    · subst h4
      have hMA : Hid (MoreA vid rn rs sn ss sub id 2 0) := hA0.out i j 2 0 (by trivial) hFA (by unfold MoRel; rw [if_pos hfn.out]; exact ⟨rfl, rfl⟩)
      go_wp2
      refine bodyPost_ret (v := .tuple #[.agg #[.int .i64 0, .slice none 0 0, .slice none 0 0], .int .i64 0, .int .i64 2]) (by simp [results, Try.results7, go_sem, s0, s1, s2]) rfl ?_
      exact VAPost.err hMA.out (by decide) (((hT1.below.setCell (p := ⟨w.heap.size + 1, 0, none⟩) (Nat.le_add_right _ _) _).setCell (p := ⟨w.heap.size + 1, 1, none⟩) (Nat.le_add_right _ _) _).setCell (p := ⟨w.heap.size + 1, 2, none⟩) (Nat.le_add_right _ _) _)
    · have h4' : ¬ (fn : Int) = 4 := by omega
      have hMR : Hid (∀ E y, GiveOr (sbAt ss i) E y → MoRel (sbAt ss i) (fcAt (sbAt ss i).fs j) E y) := fun E y h => by unfold MoRel; rw [if_neg (by rw [hfn.out]; exact h4)]; exact h
      go_upto_region 4 with fail
      have d3 := d3h.out
      clear d3x
      have hgv := given_any (sbAt ss i) w1 (hcs i hi).1 ((hv.later hT1.below).subs.faces i hi).2.2 (by have := f3 i hi; omega) (fun j hj => by have := f4 i hi j hj; omega) (hcs i hi).2
      go_wp2_with fail
      refine hgv.mono ?_
      rintro e w3 ⟨hb3, hgg⟩
      have hT3 := hT1.later hb3
      clear hgv d0 d1 d2 d3 p1
      clear b0 b1 b2 s0 zs0 s1 zs1 s2 zs2
      have b0 : w3.cell? ⟨w.heap.size, 0, none⟩ = some (.int .i64 vid) := (box_cells hT3.hb).1 0
      have b1 : w3.cell? ⟨w.heap.size, 1, none⟩ = some (.slice rx rn rc) := (box_cells hT3.hb).1 1
      have b2 : w3.cell? ⟨w.heap.size, 2, none⟩ = some (.slice (some ⟨b, o, none⟩) sn sc) := (box_cells hT3.hb).1 2
      have s0 : w3.cell? ⟨w.heap.size + 1, 0, none⟩ = some (.int .i64 0) := (box_cells hT3.hs).1 0
      have zs0 : w3.frozen? ⟨w.heap.size + 1, 0, none⟩ = false := (box_cells hT3.hs).2 0
      have s1 : w3.cell? ⟨w.heap.size + 1, 1, none⟩ = some (.slice none 0 0) := (box_cells hT3.hs).1 1
      have zs1 : w3.frozen? ⟨w.heap.size + 1, 1, none⟩ = false := (box_cells hT3.hs).2 1
      have s2 : w3.cell? ⟨w.heap.size + 1, 2, none⟩ = some (.slice none 0 0) := (box_cells hT3.hs).1 2
      have zs2 : w3.frozen? ⟨w.heap.size + 1, 2, none⟩ = false := (box_cells hT3.hs).2 2
      rcases hgg with ⟨y, rfl, hL⟩ | ⟨rfl, hfull⟩
      · have hMR0 : Hid (MoRel (sbAt ss i) (fcAt (sbAt ss i).fs j) 0 y) := hMR.out 0 y (.inl ⟨rfl, hL⟩)
        have hMA : Hid (MoreA vid rn rs sn ss sub id 0 y) := hA0.out i j 0 y (by trivial) hFA hMR0.out
        clear hA0 hL hMR hAe
        have hv3 := fun W (hW : Below w.heap.size w W) => freshVpc_any vid rx rn rc rs (some ⟨b, o, none⟩) sn sc ss W (hv.later hW) (by omega) (by omega) (fun i hi => by have := f3 i hi; omega) (fun i hi j hj => by have := f4 i hi j hj; omega)
        go_wp2_with fail
        refine (hv3 _ hT3.below).mono ?_
        rintro e w5 ⟨vR, vS, ts, rfl, hOR, hss, hOS, hb5⟩
        clear hv3
        have hT5 := hT3.later hb5
        have htl : Hid (ts.length = sn) := by unfold Hid; rw [← hss.1]; exact hsl.out
        have hit : i < ts.length := by rw [htl.out]; exact hi
        have hsi := hss.2 i (by rw [hss.1]; exact hit)
        obtain ⟨hfS, hfl, hfc, hfm⟩ := (hOS.own i hit).fcs
        have hjn : j < (sbAt ts i).n := by rw [← hsi.2.2.2.1]; exact hj
        have hjf : j < (sbAt ts i).fs.length := by rw [hfl]; exact hjn
        have hsf := hsi.2.2.2.2.2 j (by rw [hsi.2.2.2.2.1]; exact hjf)
        obtain ⟨xr, cr, rfl, -⟩ := hOR.rs
        obtain ⟨g, cap, hg5, cur, hgh, hvS⟩ : ∃ g cap, w3.heap.size ≤ g ∧ ∃ cur, w5.heap[g]? = some (.cells cur 42) ∧ vS = .slice (some ⟨g, 0, none⟩) ts.length cap := by
          obtain ⟨x2, c2, hv2, -⟩ := hOS.row.mem
          rcases hOS.row.2 with ⟨hv', -⟩ | ⟨g, cap, cur, hv', hg1, hg2, -⟩
          · rw [hv'] at hv2; simp only [Value.slice.injEq] at hv2; omega
          · exact ⟨g, cap, hg1, cur, hg2, hv'⟩
        subst hvS
        obtain ⟨gf, cf, hgf5, curf, hgfh, hvF⟩ : ∃ gf cf, w3.heap.size ≤ gf ∧ ∃ curf, w5.heap[gf]? = some (.cells curf 47) ∧ Hid (Value.slice (sbAt ts i).x (sbAt ts i).n (sbAt ts i).c = .slice (some ⟨gf, 0, none⟩) (sbAt ts i).n cf) := by
          rcases (hOS.own i hit).row.2 with ⟨hv', -⟩ | ⟨gf, cf, curf, hv', hg1, hg2, -⟩
          · simp only [Value.slice.injEq] at hv'; omega
          · exact ⟨gf, cf, hg1, curf, hg2, by unfold Hid; rw [hv', hfl]⟩
        have hgl : g < w5.heap.size := (Array.getElem?_eq_some_iff.1 hgh).1
        have hgfl : gf < w5.heap.size := (Array.getElem?_eq_some_iff.1 hgfh).1
        clear b0 b1 b2 s0 zs0 s1 zs1 s2 zs2
        go_upto_region 10 with fail
        obtain ⟨w6, hw6⟩ : ∃ w6, w6 = w5.alloc (vpB vid (.slice xr rs.length cr) (.slice (some ⟨g, 0, none⟩) ts.length cap)) := ⟨_, rfl⟩
        rw [← hw6]
        have hb56 : Below w5.heap.size w5 w6 := by rw [hw6]; exact bl1 _ _
        have hn6 : w6.heap[w5.heap.size]? = some (vpB vid (.slice xr rs.length cr) (.slice (some ⟨g, 0, none⟩) ts.length cap)) := by rw [hw6]; exact heap_new _ rfl
        have hs6 : w6.heap.size = w5.heap.size + 1 := by rw [hw6]; simp
        clear hw6
        have h13 : w1.heap.size ≤ w3.heap.size := hb3.size
        have hT6 := hT5.later hb56
        have hg6 := heap_later hb56 hgh
        have hgf6 := heap_later hb56 hgfh
        have hOR6 := OwnR.later (hOR.low (base' := w1.heap.size) h13) hb56
        have hOS6 := OSs.later (hOS.low (base' := w1.heap.size) h13) hb56
        have hOF6 := (hOS6.own i hit).row
        rw [hvF.out] at hOF6
        have hx6 : Hid ((Value.slice (sbAt ts i).x (sbAt ts i).n (sbAt ts i).c).ownBlock = some gf) := by unfold Hid; rw [hvF.out]; rfl
        have n2 : w6.cell? ⟨w5.heap.size, 2, none⟩ = some (.slice (some ⟨g, 0, none⟩) ts.length cap) := (box_cells hn6).1 2
        have d3 : w6.cell? ⟨g, i * 4 + 3, none⟩ = some (.slice (some ⟨gf, 0, none⟩) (sbAt ts i).n cf) := by
          obtain ⟨x2, c2, he2, -, -, -, hm'⟩ := hOS6.row.mem
          simp only [Value.slice.injEq] at he2
          obtain ⟨b2, o2, he3, -, -, -, c8⟩ := hm' i hit
          rw [← he2.1] at he3
          simp only [Option.some.injEq, Addr.mk.injEq] at he3
          obtain ⟨rfl, rfl, -⟩ := he3
          rw [hvF.out] at c8
          simpa using c8
        have i1' : (i : Int) < ts.length := by omega
        have j1' : (j : Int) < (sbAt ts i).n := by omega
        have hIj := (hOS6.own i hit).each _ (fcAt_mem hjf)
        obtain ⟨hIS, hIl, hIc, hIm⟩ := hIj.is
        have hIx : ((fcAt (sbAt ts i).fs j).x = none ∧ (fcAt (sbAt ts i).fs j).c = 0) ∨ ∃ b o, (fcAt (sbAt ts i).fs j).x = some ⟨b, o, none⟩ := by
          rcases hIj.2 with ⟨h, -⟩ | ⟨g, cap, cur, h, -⟩
          · simp only [Value.slice.injEq] at h
            exact .inl ⟨h.1, h.2.2⟩
          · simp only [Value.slice.injEq] at h
            exact .inr ⟨g, 0, h.1⟩
        have hfn4 : (fcAt (sbAt ts i).fs j).n ≤ 4 := by rw [← hsf.2.1]; exact f4 i hi j hj
        have p1 : w6.cell? ⟨gf, j * 2 + 1, none⟩ = some (.slice (fcAt (sbAt ts i).fs j).x (fcAt (sbAt ts i).fs j).n (fcAt (sbAt ts i).fs j).c) := by
          obtain ⟨x2, c2, he2, -, -, -, hm'⟩ := hOF6.mem
          simp only [Value.slice.injEq] at he2
          obtain ⟨b2, o2, he3, -, c8⟩ := hm' j hjf
          rw [← he2.1] at he3
          simp only [Option.some.injEq, Addr.mk.injEq] at he3
          obtain ⟨rfl, rfl, -⟩ := he3
          simpa using c8
        have p1' : ∀ o, (w6.alloc o).cell? ⟨gf, j * 2 + 1, none⟩ = some (.slice (fcAt (sbAt ts i).fs j).x (fcAt (sbAt ts i).fs j).n (fcAt (sbAt ts i).fs j).c) := fun o => cell_later (bl1 w6 o) p1
        have hput := fun W (hW : Below w6.heap.size w6 W) bf hby => putI_any y (fcAt (sbAt ts i).fs j).x (fcAt (sbAt ts i).fs j).n (fcAt (sbAt ts i).fs j).c (fcAt (sbAt ts i).fs j).ns bf 1 W (hIS.later hW) (by omega) hIc hIm hIx hby
        have hb16 : w1.heap.size ≤ w6.heap.size := by have := hb5.size; omega
        have hsz1 : w.heap.size + 1 < w1.heap.size := (Array.getElem?_eq_some_iff.1 hT1.hs).1
        have hw1 : w.heap.size ≤ w1.heap.size := by omega
        have hq1 : w5.heap.size ≠ gf := by omega
        have hq2 : w.heap.size + 1 ≠ gf := by omega
        have hq4 : w.heap.size ≤ gf := by omega
        have hgg : g ≠ gf := fun e => by rw [e] at hg6; rw [hg6] at hgf6; simp at hgf6
        have hIl' : Hid ((fcAt (sbAt ts i).fs j).ns.length = (fcAt (sbAt ts i).fs j).n) := hIl
        have hjf' : Hid (j < (sbAt ts i).fs.length) := hjf
        clear hfl hfc hfm hsi hsf hcs f1 f2 f3 f4 hIl hIc hIm hIx hIj hfS hjf hs6
        go_wp2_with fail
        refine (hput _ (bl1 w6 _) w6.heap.size (by simp)).mono ?_
        rintro e w7 ⟨v7, rfl, hb7, p, hp, hlow, hup, hO7⟩
        obtain ⟨ns, hns⟩ : ∃ ns, Hid (ns = (fcAt (sbAt ts i).fs j).ns.take p ++ [y] ++ (fcAt (sbAt ts i).fs j).ns.drop p) := ⟨_, rfl⟩
        rw [← hns.out] at hO7
        obtain ⟨x7, c7, rfl, -⟩ := hO7.mem
        have hb67 : Below w6.heap.size w6 w7 := (bl1 w6 _).trans (hb7.mono (by simp))
        have hT7 := hT6.later hb67
        have hn7 := heap_later hb67 hn6
        have hg7 := heap_later hb67 hg6
        have hgf7 := heap_later hb67 hgf6
        have hOS7 := OSs.later hOS6 hb67
        have hOR7 := OwnR.later hOR6 hb67
        have hOF7 := hOF6.later hb67
        have hO7' := hO7.low (base' := w1.heap.size) (by simp; omega)
        have hput7 : PutIn y (fcAt (sbAt ts i).fs j).ns ns := ⟨p, by rw [hIl'.out]; exact hp, hlow, by rw [hIl'.out]; exact hup, hns.out⟩
        have p17 : w7.cell? ⟨gf, j * 2 + 1, none⟩ = some (.slice (fcAt (sbAt ts i).fs j).x (fcAt (sbAt ts i).fs j).n (fcAt (sbAt ts i).fs j).c) := cell_later hb67 p1
        have df : w7.frozen? ⟨gf, j * 2 + 1, none⟩ = false := hOF7.frozen _
        clear hput p1 p1' n2 d3 hns hlow hup hp
        go_upto_region 12 with fail
        obtain ⟨w8, hw8⟩ : ∃ w8, w8 = w7.setCell ⟨gf, j * 2 + 1, none⟩ (.slice x7 ns.length c7) := ⟨_, rfl⟩
        rw [← hw8]
        have hn8 : w8.heap[w5.heap.size]? = some (vpB vid (.slice xr rs.length cr) (.slice (some ⟨g, 0, none⟩) ts.length cap)) := by rw [hw8]; exact (heap_setCell_other _ _ _ _ hq1).trans hn7
        have hs8 : w8.heap[w.heap.size + 1]? = some (vpB 0 (.slice none 0 0) (.slice none 0 0)) := by rw [hw8]; exact (heap_setCell_other _ _ _ _ hq2).trans hT7.hs
        have hB8 : Below w.heap.size w w8 := by rw [hw8]; exact hT7.below.setCell (p := ⟨gf, j * 2 + 1, none⟩) hq4 _
        have hOR8 : OwnR w8 w1.heap.size (.slice xr rs.length cr) rs := by rw [hw8]; exact hOR7.putBox hgf7 (by decide)
        have hgw : w7.grownBy w8 (some gf) := by rw [hw8]; exact set_grown _ _ _ _
        have hrow8 : OwnS w8 w1.heap.size (.slice (some ⟨g, 0, none⟩) ts.length cap) (ts.set i (withF (sbAt ts i) (sbAt ts i).x (sbAt ts i).n (sbAt ts i).c ((sbAt ts i).fs.set j (withA (fcAt (sbAt ts i).fs j) x7 ns.length c7 ns)))) := (hOS7.row.kept hgw (fun q hq e => by subst e; exact hOS7.row.ne hgf7 (by decide) hq)).faces i hit _
        have hO8 : OwnI w8 w1.heap.size (.slice x7 ns.length c7) ns := hO7'.kept hgw (fun q hq e => by subst e; exact hO7'.ne hgf7 (by decide) hq)
        have hOF8 : OwnF w8 w1.heap.size (.slice (some ⟨gf, 0, none⟩) (sbAt ts i).n cf) ((sbAt ts i).fs.set j (withA (fcAt (sbAt ts i).fs j) x7 ns.length c7 ns)) := by rw [hw8]; exact hOF7.set j hjf'.out _ _ _ _
        have hfa8 : OFa w8 w1.heap.size (ts.set i (withF (sbAt ts i) (sbAt ts i).x (sbAt ts i).n (sbAt ts i).c ((sbAt ts i).fs.set j (withA (fcAt (sbAt ts i).fs j) x7 ns.length c7 ns)))) := by
          have h := hOS7.turn hit hgw hgf7 hx6.out hOF8 (fun f hf => by
            rcases more_after f hf with h | ⟨h1, h2, h3, h4⟩
            · exact .inl h
            · rw [h1, h2, h3, h4]; exact .inr hO8)
          have hv := hvF.out
          simp only [Value.slice.injEq] at hv
          rw [hv.1, hv.2.2]
          exact h
        clear hw8 p17 df
        have m0 : w8.cell? ⟨w5.heap.size, 0, none⟩ = some (.int .i64 vid) := (box_cells hn8).1 0
        have m1 : w8.cell? ⟨w5.heap.size, 1, none⟩ = some (.slice xr rs.length cr) := (box_cells hn8).1 1
        have m2 : w8.cell? ⟨w5.heap.size, 2, none⟩ = some (.slice (some ⟨g, 0, none⟩) ts.length cap) := (box_cells hn8).1 2
        have s0 : w8.cell? ⟨w.heap.size + 1, 0, none⟩ = some (.int .i64 0) := (box_cells hs8).1 0
        have s1 : w8.cell? ⟨w.heap.size + 1, 1, none⟩ = some (.slice none 0 0) := (box_cells hs8).1 1
        have s2 : w8.cell? ⟨w.heap.size + 1, 2, none⟩ = some (.slice none 0 0) := (box_cells hs8).1 2
        have zs0 : w8.frozen? ⟨w.heap.size + 1, 0, none⟩ = false := (box_cells hs8).2 0
        have zs1 : w8.frozen? ⟨w.heap.size + 1, 1, none⟩ = false := (box_cells hs8).2 1
        have zs2 : w8.frozen? ⟨w.heap.size + 1, 2, none⟩ = false := (box_cells hs8).2 2
        go_wp2
        refine bodyPost_ret (v := .tuple #[.agg #[.int .i64 vid, .slice xr rs.length cr, .slice (some ⟨g, 0, none⟩) ts.length cap], .int .i64 y, .int .i64 0]) (by simp [results, Try.results7, go_sem, s0, s1, s2]) rfl ?_
        exact VAPost.ok hMA.out (((hB8.setCell (p := ⟨w.heap.size + 1, 0, none⟩) (Nat.le_add_right _ _) _).setCell (p := ⟨w.heap.size + 1, 1, none⟩) (Nat.le_add_right _ _) _).setCell (p := ⟨w.heap.size + 1, 2, none⟩) (Nat.le_add_right _ _) _) ⟨hcz.out, ts, i, j, x7, c7, ns, hFA, hMR0.out, hss, hput7, ⟨_, _, rfl, (((hOR8.put hsz1).put hsz1).put hsz1).low hw1, (((hrow8.put hsz1).put hsz1).put hsz1).low hw1, (((hfa8.put hsz1).put hsz1).put hsz1).low hw1⟩⟩
      · have hMA : Hid (MoreA vid rn rs sn ss sub id 8 0) := hA0.out i j 8 0 (by trivial) hFA (hMR.out 8 0 (.inr ⟨rfl, rfl, hfull⟩))
        clear hfull hMR hA0 hAe
        go_wp2
        refine bodyPost_ret (v := .tuple #[.agg #[.int .i64 0, .slice none 0 0, .slice none 0 0], .int .i64 0, .int .i64 8]) (by simp [results, Try.results7, go_sem, s0, s1, s2]) rfl ?_
        exact VAPost.err hMA.out (by decide) (((hT3.below.setCell (p := ⟨w.heap.size + 1, 0, none⟩) (Nat.le_add_right _ _) _).setCell (p := ⟨w.heap.size + 1, 1, none⟩) (Nat.le_add_right _ _) _).setCell (p := ⟨w.heap.size + 1, 2, none⟩) (Nat.le_add_right _ _) _)
  · go_wp2_with fail
    refine hpl.mono ?_
    rintro e w1 ⟨i, j, rfl, hb1, hzz, -⟩
    obtain ⟨rfl, rfl⟩ := hzz hE
    have hT1 := hT0.later hb1
    clear b0 b1 b2 s0 zs0 s1 zs1 s2 zs2
    have b0 : w1.cell? ⟨w.heap.size, 0, none⟩ = some (.int .i64 vid) := (box_cells hT1.hb).1 0
    have b1 : w1.cell? ⟨w.heap.size, 1, none⟩ = some (.slice rx rn rc) := (box_cells hT1.hb).1 1
    have b2 : w1.cell? ⟨w.heap.size, 2, none⟩ = some (.slice sx sn sc) := (box_cells hT1.hb).1 2
    have s0 : w1.cell? ⟨w.heap.size + 1, 0, none⟩ = some (.int .i64 0) := (box_cells hT1.hs).1 0
    have zs0 : w1.frozen? ⟨w.heap.size + 1, 0, none⟩ = false := (box_cells hT1.hs).2 0
    have s1 : w1.cell? ⟨w.heap.size + 1, 1, none⟩ = some (.slice none 0 0) := (box_cells hT1.hs).1 1
    have zs1 : w1.frozen? ⟨w.heap.size + 1, 1, none⟩ = false := (box_cells hT1.hs).2 1
    have s2 : w1.cell? ⟨w.heap.size + 1, 2, none⟩ = some (.slice none 0 0) := (box_cells hT1.hs).1 2
    have zs2 : w1.frozen? ⟨w.heap.size + 1, 2, none⟩ = false := (box_cells hT1.hs).2 2
    go_wp2
    refine bodyPost_ret (v := .tuple #[.agg #[.int .i64 0, .slice none 0 0, .slice none 0 0], .int .i64 0, .int .i64 E]) (by simp [results, Try.results7, go_sem, s0, s1, s2]) rfl ?_
    exact VAPost.err (hAe.out hE) hE (((hT1.below.setCell (p := ⟨w.heap.size + 1, 0, none⟩) (Nat.le_add_right _ _) _).setCell (p := ⟨w.heap.size + 1, 1, none⟩) (Nat.le_add_right _ _) _).setCell (p := ⟨w.heap.size + 1, 2, none⟩) (Nat.le_add_right _ _) _)
end Go.Proofs.Ytpdhipjeobchfaa
/- What SameInts and SameVpcs of the reference say of what is the same. -/
namespace Go.Proofs.Ytpdhipjeobchfaa
open Go.RowKit Go.Shelf

set_option maxRecDepth 100000 in
set_option maxHeartbeats 1600000 in
theorem sameInts_yes (x y : Option Addr) (n c d : Nat) (ns : List Int) (w : World) (hp : IS w x n ns) (hq : IS w y n ns) (hn : n ≤ 9223372036854775807) :
    Calls Try.prog 25 #[.slice x n c, .slice y n d] w fun e w' => e = .returned (.bool true) ∧ Below w.heap.size w w' := by
  go_enter Try.func25, Try.ntmps25
  go_wp2
  go_loopw [5] (fun i wr => ∃ k : Nat, i = .int .i64 k ∧ k ≤ n ∧ Below w.heap.size w wr) (fun i _ => n - (intOf i).toNat)
  case atStart => exact ⟨0, rfl, by omega, Below.refl _ _⟩
  case round =>
    obtain ⟨k, rfl, hkn, hB⟩ := hrel
    by_cases hlt : k < n
    · obtain ⟨b, o, rfl, c0⟩ := (hp.later hB).cells k hlt
      obtain ⟨b2, o2, rfl, d0⟩ := (hq.later hB).cells k hlt
      have hk0 : (0 : Int) ≤ k := by omega
      have hkn2 : (k : Int) < n := by omega
      have hlth : Hid (k < n) := hlt
      clear hlt
      go_upto_region 6 with fail
      have g0 := Ws.here c0
      have g1 := Ws.here d0
      clear c0 d0
      refine wp_region_ws wr.heap.size (by kernel_rfl) (by kernel_rfl) ?_
      repeat (go_big_quiet_step (fail))
      refine wpQuiet_nil ?_
      rintro _ ⟨u, rfl⟩
      have hub := hB.trans (u.property.mono hB.size)
      generalize u.val = wu at hub ⊢
      clear u g0 g1
      go_wp2
      go_roundw
      case rel => exact ⟨k + 1, by go_num, hlth.out, hub⟩
      case measure => have := hlth.out; simp [intOf]; omega
    · have hnk : ¬ (k : Int) < n := by omega
      go_wp2
      go_ret
      exact ⟨rfl, hB⟩
/-- The boxes of the two networks. -/
structure TV2 (w W : World) (vid : Int) (vr vs ur us : Value) : Prop where
  ha : W.heap[w.heap.size]? = some (vpB vid vr vs)
  hb : W.heap[w.heap.size + 1]? = some (vpB vid ur us)
  below : Below w.heap.size w W
theorem TV2.later {w W W' : World} {vid : Int} {vr vs ur us : Value} (h : TV2 w W vid vr vs ur us) (hb : Below W.heap.size W W') : TV2 w W' vid vr vs ur us :=
  ⟨heap_later hb h.ha, heap_later hb h.hb, h.below.trans (hb.mono h.below.size)⟩

set_option maxRecDepth 100000 in
set_option maxHeartbeats 6400000 in
theorem sameVpcs_yes (vid : Int) (rx ry : Option Addr) (rn rc rd : Nat) (rs : List Rg) (sx sy : Option Addr) (sn sc sd : Nat) (ss ts : List Sb) (w : World) (hp : Vp w rx rn rc rs sx sn sc ss) (hq : Vp w ry rn rd rs sy sn sd ts) (hs : sameSs ss ts) (hrn : rn ≤ 9223372036854775807) (hsn : sn ≤ 9223372036854775807) :
    Calls Try.prog 9 #[.agg #[.int .i64 vid, .slice rx rn rc, .slice sx sn sc], .agg #[.int .i64 vid, .slice ry rn rd, .slice sy sn sd]] w fun e w' => e = .returned (.bool true) ∧ Below w.heap.size w w' := by
  have hs' : Hid (sameSs ss ts) := hs
  have hpl : Hid (ss.length = sn) := hp.subs.len
  clear hs
  go_enter Try.func9, Try.ntmps9
  go_upto_region 1 with fail
  obtain ⟨w0, hw0⟩ : ∃ w0, w0 = (w.alloc (vpB vid (.slice rx rn rc) (.slice sx sn sc))).alloc (vpB vid (.slice ry rn rd) (.slice sy sn sd)) := ⟨_, rfl⟩
  rw [← hw0]
  have hT0 : TV2 w w0 vid (.slice rx rn rc) (.slice sx sn sc) (.slice ry rn rd) (.slice sy sn sd) := by rw [hw0]; exact ⟨heap_old _ (heap_new _ rfl), heap_new _ (by simp), bl2 w _ _⟩
  clear hw0
  have a0 : w0.cell? ⟨w.heap.size, 0, none⟩ = some (.int .i64 vid) := (box_cells hT0.ha).1 0
  have a1 : w0.cell? ⟨w.heap.size, 1, none⟩ = some (.slice rx rn rc) := (box_cells hT0.ha).1 1
  have a2 : w0.cell? ⟨w.heap.size, 2, none⟩ = some (.slice sx sn sc) := (box_cells hT0.ha).1 2
  have d0 : w0.cell? ⟨w.heap.size + 1, 0, none⟩ = some (.int .i64 vid) := (box_cells hT0.hb).1 0
  have d1 : w0.cell? ⟨w.heap.size + 1, 1, none⟩ = some (.slice ry rn rd) := (box_cells hT0.hb).1 1
  have d2 : w0.cell? ⟨w.heap.size + 1, 2, none⟩ = some (.slice sy sn sd) := (box_cells hT0.hb).1 2
  go_wp2
  clear a0 a1 a2 d0 d1 d2
  go_loopw [5] (fun i wr => ∃ k : Nat, i = .int .i64 k ∧ k ≤ rn ∧ TV2 w wr vid (.slice rx rn rc) (.slice sx sn sc) (.slice ry rn rd) (.slice sy sn sd)) (fun i _ => rn - (intOf i).toNat)
  case atStart => exact ⟨0, rfl, by omega, hT0⟩
  case round =>
    clear hT0
    obtain ⟨k, rfl, hkn, hT⟩ := hrel
    have a1 : wr.cell? ⟨w.heap.size, 1, none⟩ = some (.slice rx rn rc) := (box_cells hT.ha).1 1
    have d1 : wr.cell? ⟨w.heap.size + 1, 1, none⟩ = some (.slice ry rn rd) := (box_cells hT.hb).1 1
    by_cases hlt : k < rn
    · obtain ⟨b, o, rfl, c0, c1, c2⟩ := (hp.later hT.below).ranges.cells k hlt
      obtain ⟨b2, o2, rfl, e0, e1, e2⟩ := (hq.later hT.below).ranges.cells k hlt
      have hk0 : (0 : Int) ≤ k := by omega
      have hkn2 : (k : Int) < rn := by omega
      have hlth : Hid (k < rn) := hlt
      clear hlt
      go_upto_region 6 with fail
      have g0 := Ws.here a1
      have g1 := Ws.here d1
      have f0 := Ws.here c0
      have f1 := Ws.here c1
      have f2 := Ws.here c2
      have h0 := Ws.here e0
      have h1 := Ws.here e1
      have h2 := Ws.here e2
      clear a1 d1 c0 c1 c2 e0 e1 e2
      refine wp_region_ws wr.heap.size (by kernel_rfl) (by kernel_rfl) ?_
      repeat (go_big_quiet_step (fail))
      refine wpQuiet_nil ?_
      rintro _ ⟨u, rfl⟩
      have hTu := hT.later u.property
      generalize u.val = wu at hTu ⊢
      clear u g0 g1 f0 f1 f2 h0 h1 h2
      go_wp2
      go_roundw
      case rel => exact ⟨k + 1, by go_num, hlth.out, hTu⟩
      case measure => have := hlth.out; simp [intOf]; omega
    · have hnk : ¬ (k : Int) < rn := by omega
      go_wp2
      obtain ⟨wh, rfl⟩ : ∃ wh, wh = wr := ⟨_, rfl⟩
      clear a1 d1
      go_loopw [6] (fun i wr => ∃ k : Nat, i = .int .i64 k ∧ k ≤ sn ∧ TV2 w wr vid (.slice rx rn rc) (.slice sx sn sc) (.slice ry rn rd) (.slice sy sn sd)) (fun i _ => sn - (intOf i).toNat)
      case atStart => exact ⟨0, rfl, by omega, hT⟩
      case round =>
        clear hT
        obtain ⟨k, rfl, hkn, hT⟩ := hrel
        have a2 : wr.cell? ⟨w.heap.size, 2, none⟩ = some (.slice sx sn sc) := (box_cells hT.ha).1 2
        have d2 : wr.cell? ⟨w.heap.size + 1, 2, none⟩ = some (.slice sy sn sd) := (box_cells hT.hb).1 2
        by_cases hlt : k < sn
        · obtain ⟨b, o, rfl, c0, c1, c2, c3⟩ := (hp.later hT.below).subs.cells k hlt
          obtain ⟨b2, o2, rfl, e0, e1, e2, e3⟩ := (hq.later hT.below).subs.cells k hlt
          obtain ⟨hlc, hlm, hLS⟩ := (hp.later hT.below).subs.faces k hlt
          obtain ⟨hmc, hmm, hMS⟩ := (hq.later hT.below).subs.faces k hlt
          obtain ⟨s0, s1, s2, s3, s4⟩ := hs'.out.2 k (by rw [hpl.out]; exact hlt)
          rw [← s0] at e0
          rw [← s1] at e1
          rw [← s2] at e2
          rw [← s3] at e3
          rw [← s3] at hMS
          have hk0 : (0 : Int) ≤ k := by omega
          have hkn2 : (k : Int) < sn := by omega
          have hlth : Hid (k < sn) := hlt
          have hff : Hid (sameFs (sbAt ss k).fs (sbAt ts k).fs) := s4
          clear hlt s0 s1 s2 s3 s4
          go_upto_region 11 with fail
          go_cut [7, 8] (fun p q wc => ∃ bp bq, p = .pointer (some ⟨bp, 0, none⟩) ∧ q = .pointer (some ⟨bq, 0, none⟩) ∧ wc.heap[bp]? = some (.cells #[.int .i64 (sbAt ss k).id, .int .i64 (sbAt ss k).a, .int .i64 (sbAt ss k).l, .slice (sbAt ss k).x (sbAt ss k).n (sbAt ss k).c] 42) ∧ wc.heap[bq]? = some (.cells #[.int .i64 (sbAt ss k).id, .int .i64 (sbAt ss k).a, .int .i64 (sbAt ss k).l, .slice (sbAt ts k).x (sbAt ss k).n (sbAt ts k).c] 42) ∧ Below wr.heap.size wr wc)
          case first =>
            go_region_held3 (fun w' => w'.cell? ⟨w.heap.size, 2, none⟩ = some (.slice (some ⟨b, o, none⟩) sn sc) ∧ w'.cell? ⟨w.heap.size + 1, 2, none⟩ = some (.slice (some ⟨b2, o2, none⟩) sn sd) ∧ w'.cell? ⟨b, o + k * 4, none⟩ = some (.int .i64 (sbAt ss k).id) ∧ w'.cell? ⟨b, o + k * 4 + 1, none⟩ = some (.int .i64 (sbAt ss k).a) ∧ w'.cell? ⟨b, o + k * 4 + 2, none⟩ = some (.int .i64 (sbAt ss k).l) ∧ w'.cell? ⟨b, o + k * 4 + 3, none⟩ = some (.slice (sbAt ss k).x (sbAt ss k).n (sbAt ss k).c) ∧ w'.cell? ⟨b2, o2 + k * 4, none⟩ = some (.int .i64 (sbAt ss k).id) ∧ w'.cell? ⟨b2, o2 + k * 4 + 1, none⟩ = some (.int .i64 (sbAt ss k).a) ∧ w'.cell? ⟨b2, o2 + k * 4 + 2, none⟩ = some (.int .i64 (sbAt ss k).l) ∧ w'.cell? ⟨b2, o2 + k * 4 + 3, none⟩ = some (.slice (sbAt ts k).x (sbAt ss k).n (sbAt ts k).c)) (first | (go_keep; done)) (fail)
            · go_wp2
              go_meet
              case rel => exact ⟨wr.heap.size, wr.heap.size + 1, rfl, rfl, heap_old _ (heap_new _ rfl), heap_new _ (by simp), (bl2 wr _ _).drew⟩
            · go_wp2
              go_meet
              case rel => exact ⟨wr.heap.size + 1, wr.heap.size, rfl, rfl, heap_new _ (by simp), heap_old _ (heap_new _ rfl), (bl2 wr _ _).drew⟩
          case rest =>
            obtain ⟨bp, bq, rfl, rfl, hv, hu, hBc⟩ := hcut
            clear a2 d2 c0 c1 c2 c3 e0 e1 e2 e3
            have hTc := hT.later hBc
            have hLc := hLS.later hBc
            have hMc := hMS.later hBc
            clear hT hLS hMS hBc
            have p0 : wc.cell? ⟨bp, 0, none⟩ = some (.int .i64 (sbAt ss k).id) := (box_cells hv).1 0
            have r0 : wc.cell? ⟨bq, 0, none⟩ = some (.int .i64 (sbAt ss k).id) := (box_cells hu).1 0
            have p1 : wc.cell? ⟨bp, 1, none⟩ = some (.int .i64 (sbAt ss k).a) := (box_cells hv).1 1
            have r1 : wc.cell? ⟨bq, 1, none⟩ = some (.int .i64 (sbAt ss k).a) := (box_cells hu).1 1
            have p2 : wc.cell? ⟨bp, 2, none⟩ = some (.int .i64 (sbAt ss k).l) := (box_cells hv).1 2
            have r2 : wc.cell? ⟨bq, 2, none⟩ = some (.int .i64 (sbAt ss k).l) := (box_cells hu).1 2
            have p3 : wc.cell? ⟨bp, 3, none⟩ = some (.slice (sbAt ss k).x (sbAt ss k).n (sbAt ss k).c) := (box_cells hv).1 3
            have r3 : wc.cell? ⟨bq, 3, none⟩ = some (.slice (sbAt ts k).x (sbAt ss k).n (sbAt ts k).c) := (box_cells hu).1 3
            go_wp2
            clear p0 p1 p2 p3 r0 r1 r2 r3
            go_loopw [9] (fun i ws => ∃ j : Nat, i = .int .i64 j ∧ j ≤ (sbAt ss k).n ∧ Below wc.heap.size wc ws) (fun i _ => (sbAt ss k).n - (intOf i).toNat)
            case atStart => exact ⟨0, rfl, by omega, Below.refl _ _⟩
            case round =>
              obtain ⟨j, rfl, hjn, hBj⟩ := hrel
              have hv' := heap_later hBj hv
              have hu' := heap_later hBj hu
              have p3 : wr.cell? ⟨bp, 3, none⟩ = some (.slice (sbAt ss k).x (sbAt ss k).n (sbAt ss k).c) := (box_cells hv').1 3
              have r3 : wr.cell? ⟨bq, 3, none⟩ = some (.slice (sbAt ts k).x (sbAt ss k).n (sbAt ts k).c) := (box_cells hu').1 3
              by_cases hltj : j < (sbAt ss k).n
              · obtain ⟨b3, o3, hx3, l0, l1⟩ := (hLc.later hBj).cells j hltj
                obtain ⟨b4, o4, hx4, m0, m1⟩ := (hMc.later hBj).cells j hltj
                obtain ⟨hac, ham, hAS⟩ := (hLc.later hBj).addrs j hltj
                obtain ⟨hbc, hbm, hBS⟩ := (hMc.later hBj).addrs j hltj
                obtain ⟨t0, t1, t2⟩ := hff.out.2 j (by rw [hLc.len]; exact hltj)
                rw [hx3] at p3
                rw [hx4] at r3
                rw [← t0] at m0
                rw [← t1] at m1
                rw [← t1, ← t2] at hBS
                have hj0 : (0 : Int) ≤ j := by omega
                have hjn2 : (j : Int) < (sbAt ss k).n := by omega
                have hltjh : Hid (j < (sbAt ss k).n) := hltj
                have hsi := fun W (hW : Below wr.heap.size wr W) => sameInts_yes (fcAt (sbAt ss k).fs j).x (fcAt (sbAt ts k).fs j).x (fcAt (sbAt ss k).fs j).n (fcAt (sbAt ss k).fs j).c (fcAt (sbAt ts k).fs j).c (fcAt (sbAt ss k).fs j).ns W (hAS.later hW) (hBS.later hW) ham
                clear hltj t0 t1 t2
                go_upto_region 17 with fail
                have g0 := Ws.here p3
                have g1 := Ws.here r3
                have f0 := Ws.here l0
                have f1 := Ws.here l1
                have h0 := Ws.here m0
                have h1 := Ws.here m1
                have hsw := fun u : Ws wr.heap.size wr => Calls.in_ws (Nat.le_refl _) (hsi u.val u.property)
                clear p3 r3 l0 l1 m0 m1 hsi
                refine wp_region_ws wr.heap.size (by kernel_rfl) (by kernel_rfl) ?_
                repeat (go_big_quiet_step (first | (go_at_call 25; exact hsw _)))
                refine wpQuiet_nil ?_
                rintro _ ⟨u, rfl⟩
                have hub := hBj.trans (u.property.mono hBj.size)
                generalize u.val = wu at hub ⊢
                clear u g0 g1 f0 f1 h0 h1 hsw
                go_wp2
                go_roundw
                case rel => exact ⟨j + 1, by go_num, hltjh.out, hub⟩
                case measure => have := hltjh.out; simp [intOf]; omega
              · have hnj : ¬ (j : Int) < (sbAt ss k).n := by omega
                have hTj := hTc.later hBj
                go_wp2
                go_roundw
                case rel => exact ⟨k + 1, by go_num, hlth.out, hTj⟩
                case measure => have := hlth.out; simp [intOf]; omega
        · have hnk : ¬ (k : Int) < sn := by omega
          go_wp2
          go_ret
          exact ⟨rfl, hT.below⟩
end Go.Proofs.Ytpdhipjeobchfaa
/- house. -/
namespace Go.Proofs.Ytpdhipjeobchfaa
open Go.RowKit Go.Shelf

/-- The network of house, its memory from block n on. -/
def houseV (n : Nat) : Vn := ⟨3, some ⟨n + 1, 0, none⟩, 1, 1, [⟨256, 10, 7⟩], some ⟨n + 1 + 1 + 1 + 1, 0, none⟩, 1, 1, [⟨1, 256, 13, some ⟨n + 1 + 1 + 1, 0, none⟩, 1, 1, [⟨2, some ⟨n + 1 + 1, 0, none⟩, 1, 1, [257]⟩]⟩]⟩
theorem heap_five (w : World) (A B C D E : Obj) : let W := ((((w.alloc A).alloc B).alloc C).alloc D).alloc E
    W.heap[w.heap.size + 1]? = some B ∧ W.heap[w.heap.size + 1 + 1]? = some C ∧ W.heap[w.heap.size + 1 + 1 + 1]? = some D ∧ W.heap[w.heap.size + 1 + 1 + 1 + 1]? = some E :=
  ⟨heap_old _ (heap_old _ (heap_old _ (heap_new (W := w.alloc A) B (by simp)))), heap_old _ (heap_old _ (heap_new (W := (w.alloc A).alloc B) C (by simp))), heap_old _ (heap_new (W := ((w.alloc A).alloc B).alloc C) D (by simp)), heap_new (W := (((w.alloc A).alloc B).alloc C).alloc D) E (by simp)⟩
set_option maxRecDepth 20000 in
set_option maxHeartbeats 800000 in
theorem house_any (w : World) :
    Calls Try.prog 26 #[] w fun e w' => e = .returned (.agg #[.int .i64 3, .slice (some ⟨w.heap.size + 1, 0, none⟩) 1 1, .slice (some ⟨w.heap.size + 1 + 1 + 1 + 1, 0, none⟩) 1 1]) ∧ Vp w' (houseV w.heap.size).rx 1 1 (houseV w.heap.size).rs (houseV w.heap.size).sx 1 1 (houseV w.heap.size).ss ∧ Below w.heap.size w w' := by
  go_enter Try.func26, Try.ntmps26
  go_wp2
  refine bodyPost_ret (v := .agg #[.int .i64 3, .slice (some ⟨w.heap.size + 1, 0, none⟩) 1 1, .slice (some ⟨w.heap.size + 1 + 1 + 1 + 1, 0, none⟩) 1 1]) (by simp [results, Try.results26, go_sem]) rfl ⟨rfl, ?_, ?_⟩
  · obtain ⟨hB, hC, hD, hE⟩ := heap_five w (.cells #[.int .i64 3, .slice (some ⟨w.heap.size + 1, 0, none⟩) 1 1, .slice (some ⟨w.heap.size + 1 + 1 + 1 + 1, 0, none⟩) 1 1] 25) (.cells #[.int .i64 256, .int .i64 10, .int .i64 7] 60) (.cells #[.int .i64 257] 3) (.cells #[.int .i64 2, .slice (some ⟨w.heap.size + 1 + 1, 0, none⟩) 1 1] 47) (.cells #[.int .i64 1, .int .i64 256, .int .i64 13, .slice (some ⟨w.heap.size + 1 + 1 + 1, 0, none⟩) 1 1] 42)
    replace hB := (box_cells hB).1
    replace hC := (box_cells hC).1
    replace hD := (box_cells hD).1
    replace hE := (box_cells hE).1
    refine ⟨by omega, by omega, ⟨rfl, fun i hi => ?_⟩, ⟨rfl, fun i hi => ?_, fun i hi => ?_⟩⟩
    · obtain rfl : i = 0 := by omega
      exact ⟨_, _, rfl, hB 0, hB 1, hB 2⟩
    · obtain rfl : i = 0 := by omega
      exact ⟨_, _, rfl, hE 0, hE 1, hE 2, hE 3⟩
    · obtain rfl : i = 0 := by omega
      refine ⟨by simp [houseV, sbAt], by simp [houseV, sbAt], ⟨rfl, fun i hi => ?_, fun i hi => ?_⟩⟩
      · obtain rfl : i = 0 := by simp [houseV, sbAt] at hi; omega
        exact ⟨_, _, rfl, hD 0, hD 1⟩
      · obtain rfl : i = 0 := by simp [houseV, sbAt] at hi; omega
        refine ⟨by simp [houseV, sbAt, fcAt], by simp [houseV, sbAt, fcAt], ⟨rfl, fun i hi => ?_⟩⟩
        obtain rfl : i = 0 := by simp [houseV, sbAt, fcAt] at hi; omega
        exact ⟨_, _, rfl, hC 0⟩
  · exact (((bl2 w _ _).alloc (by simp; omega) _).alloc (by simp; omega) _).alloc (by simp; omega) _
end Go.Proofs.Ytpdhipjeobchfaa
/- vpcBegun. -/
namespace Go.Proofs.Ytpdhipjeobchfaa
open Go.RowKit Go.Shelf

theorem sameFs_nil {gs : List Fc} (h : sameFs [] gs) : gs = [] := List.eq_nil_of_length_eq_zero h.1.symm
theorem sameFs_cons {f : Fc} {fs gs : List Fc} (h : sameFs (f :: fs) gs) : ∃ x c gs', gs = ⟨f.id, x, f.n, c, f.ns⟩ :: gs' ∧ sameFs fs gs' := by
  match gs, h with
  | [], h => exact absurd h.1 (by simp)
  | g :: gs', h =>
    obtain ⟨h1, h2, h3⟩ := h.2 0 (by simp)
    have e1 : f.id = g.id := h1
    have e2 : f.n = g.n := h2
    have e3 : f.ns = g.ns := h3
    refine ⟨g.x, g.c, gs', by rw [e1, e2, e3], by simpa using h.1, fun i hi => ?_⟩
    have h4 := h.2 (i + 1) (by simp; omega)
    simpa [fcAt] using h4
theorem sameSs_nil {ts : List Sb} (h : sameSs [] ts) : ts = [] := List.eq_nil_of_length_eq_zero h.1.symm
theorem sameSs_cons {s : Sb} {ss ts : List Sb} (h : sameSs (s :: ss) ts) : ∃ x c fs ts', ts = ⟨s.id, s.a, s.l, x, s.n, c, fs⟩ :: ts' ∧ sameFs s.fs fs ∧ sameSs ss ts' := by
  match ts, h with
  | [], h => exact absurd h.1 (by simp)
  | t :: ts', h =>
    obtain ⟨h1, h2, h3, h4, h5⟩ := h.2 0 (by simp)
    have e1 : s.id = t.id := h1
    have e2 : s.a = t.a := h2
    have e3 : s.l = t.l := h3
    have e4 : s.n = t.n := h4
    refine ⟨t.x, t.c, t.fs, ts', by rw [e1, e2, e3, e4], h5, by simpa using h.1, fun i hi => ?_⟩
    have h6 := h.2 (i + 1) (by simp; omega)
    simpa [sbAt] using h6
theorem bg_chk0 (x : Option Addr) (c : Nat) (x2 : Option Addr) (c2 : Nat) : chkV 3 1 [⟨256, 10, 7⟩] 1 [⟨1, 256, 13, x, 1, c, [⟨2, x2, 1, c2, [257]⟩]⟩] = 0 := by kernel_rfl
theorem bg_least0 (x : Option Addr) (c : Nat) (x2 : Option Addr) (c2 : Nat) : Least ⟨1, 256, 13, x, 1, c, [⟨2, x2, 1, c2, [257]⟩]⟩ 258 :=
  ⟨by kernel_rfl, by simp [allNs], fun z h1 h2 => by simp only [allNs, List.flatMap_cons, List.flatMap_nil, List.append_nil, List.mem_singleton]; simp only at h1; omega⟩
theorem bg_least1 (x : Option Addr) (c : Nat) (x1 : Option Addr) (c1 : Nat) (x2 : Option Addr) (c2 : Nat) : Least ⟨1, 256, 13, x, 2, c, [⟨1, x1, 1, c1, [258]⟩, ⟨2, x2, 1, c2, [257]⟩]⟩ 259 :=
  ⟨by kernel_rfl, by simp [allNs], fun z h1 h2 => by simp only [allNs, List.flatMap_cons, List.flatMap_nil, List.append_nil, List.mem_append, List.mem_singleton]; simp only at h1; omega⟩
theorem bg_face (x : Option Addr) (c : Nat) (x2 : Option Addr) (c2 : Nat) {E y : Int} (h : FaceA 3 1 [⟨256, 10, 7⟩] 1 [⟨1, 256, 13, x, 1, c, [⟨2, x2, 1, c2, [257]⟩]⟩] 1 1 E y) : E = 0 ∧ y = 258 := by
  unfold FaceA at h
  rw [if_neg (by simp [bg_chk0])] at h
  rcases h with ⟨h, -⟩ | ⟨i, hi, h⟩
  · exact absurd rfl (h 0 (by omega))
  · obtain rfl : i = 0 := by have := hi.isn; omega
    exact (h.2 (by kernel_rfl)).one (.inl ⟨rfl, bg_least0 x c x2 c2⟩)
theorem bg_faceR (x : Option Addr) (c : Nat) (x2 : Option Addr) (c2 : Nat) {y : Int} {w : World} {V : Value} (hy : y = 258) (h : FaceR 3 1 [⟨256, 10, 7⟩] 1 [⟨1, 256, 13, x, 1, c, [⟨2, x2, 1, c2, [257]⟩]⟩] 1 1 w V y) : ∃ x c x1 c1 x2 c2, NV w 3 V [⟨256, 10, 7⟩] [⟨1, 256, 13, x, 2, c, [⟨1, x1, 1, c1, [258]⟩, ⟨2, x2, 1, c2, [257]⟩]⟩] := by
  obtain ⟨-, ts, i, x', n, c', fx, gs, hi, -, hs, hp, rfl, hN⟩ := h
  obtain rfl : i = 0 := by have := hi.isn; omega
  obtain ⟨x4, c4, fs, ts', rfl, hf, ht⟩ := sameSs_cons hs
  obtain rfl := sameSs_nil ht
  obtain ⟨x5, c5, gs', rfl, hf'⟩ := sameFs_cons hf
  obtain rfl := sameFs_nil hf'
  obtain ⟨p, hp1, hp2, hp3, rfl⟩ := hp
  obtain rfl : p = 0 := by
    rcases Nat.eq_zero_or_pos p with h | h
    · exact h
    · exact absurd (show (1 : Int) < 2 by decide) (hp2 0 h)
  subst hy
  exact ⟨_, _, _, _, _, _, hN⟩
theorem bg_pl1 (x : Option Addr) (c : Nat) (x1 : Option Addr) (c1 : Nat) (x2 : Option Addr) (c2 : Nat) : plE 3 1 [⟨256, 10, 7⟩] 1 [⟨1, 256, 13, x, 2, c, [⟨1, x1, 1, c1, [258]⟩, ⟨2, x2, 1, c2, [257]⟩]⟩] 1 2 = 0 := by kernel_rfl
theorem bg_at {x : Option Addr} {c n : Nat} {f g : Fc} {i j : Nat} (hf : f.id = 1) (hg : g.id = 2) (hn : n = 2) (h : FaceAt 1 [⟨1, 256, 13, x, n, c, [f, g]⟩] 1 2 i j) : i = 0 ∧ j = 1 :=
  h.one ⟨by omega, rfl, fun k hk => by omega, by show 1 < n; omega, hg, fun k hk => by
    obtain rfl : k = 0 := by omega
    show f.id ≠ 2
    omega⟩
theorem bg_more (x : Option Addr) (c : Nat) (x1 : Option Addr) (c1 : Nat) (x2 : Option Addr) (c2 : Nat) {E y : Int} (h : MoreA 3 1 [⟨256, 10, 7⟩] 1 [⟨1, 256, 13, x, 2, c, [⟨1, x1, 1, c1, [258]⟩, ⟨2, x2, 1, c2, [257]⟩]⟩] 1 2 E y) : E = 0 ∧ y = 259 := by
  obtain ⟨i, j, hF, h⟩ := h.2 (bg_pl1 x c x1 c1 x2 c2)
  obtain ⟨rfl, rfl⟩ := bg_at rfl rfl rfl hF
  unfold MoRel at h
  split at h
  · rename_i e
    exact absurd e (show ¬ (1 : Nat) = 4 by decide)
  exact h.one (.inl ⟨rfl, bg_least1 x c x1 c1 x2 c2⟩)
theorem bg_moreR (x : Option Addr) (c : Nat) (x1 : Option Addr) (c1 : Nat) (x2 : Option Addr) (c2 : Nat) {y : Int} {w : World} {V : Value} {w0 : World} (hy : y = 259) (h : MoreR 3 1 [⟨256, 10, 7⟩] 1 [⟨1, 256, 13, x, 2, c, [⟨1, x1, 1, c1, [258]⟩, ⟨2, x2, 1, c2, [257]⟩]⟩] 1 2 w0 w V y) : ∃ x c x1 c1 x2 c2, NVo w w0.heap.size 3 V [⟨256, 10, 7⟩] [⟨1, 256, 13, x, 2, c, [⟨1, x1, 1, c1, [258]⟩, ⟨2, x2, 2, c2, [257, 259]⟩]⟩] := by
  obtain ⟨-, ts, i, j, x', c', ns, hF, -, hs, hp, hN⟩ := h
  obtain ⟨rfl, rfl⟩ := bg_at rfl rfl rfl hF
  obtain ⟨x4, c4, fs, ts', rfl, hf, ht⟩ := sameSs_cons hs
  obtain rfl := sameSs_nil ht
  obtain ⟨x5, c5, gs', rfl, hf'⟩ := sameFs_cons hf
  obtain ⟨x6, c6, gs'', rfl, hf''⟩ := sameFs_cons hf'
  obtain rfl := sameFs_nil hf''
  obtain ⟨p, hp1, hp2, hp3, rfl⟩ := hp
  subst hy
  obtain rfl : p = 1 := by
    have hp1' : p ≤ 1 := hp1
    rcases Nat.eq_zero_or_pos p with h | h
    · subst h; exact absurd (hp3 (show 0 < 1 by decide)) (show ¬ (259 : Int) < 257 by decide)
    · omega
  exact ⟨_, _, _, _, _, _, hN⟩
theorem bg_unsub (x : Option Addr) (c : Nat) (x1 : Option Addr) (c1 : Nat) (x2 : Option Addr) (c2 : Nat) : unsubE 3 1 [⟨256, 10, 7⟩] 1 [⟨1, 256, 13, x, 2, c, [⟨1, x1, 1, c1, [258]⟩, ⟨2, x2, 2, c2, [257, 259]⟩]⟩] 1 = 9 := by kernel_rfl
theorem bg_drop (x : Option Addr) (c : Nat) (x1 : Option Addr) (c1 : Nat) (x2 : Option Addr) (c2 : Nat) : dropE 3 1 [⟨256, 10, 7⟩] 1 [⟨1, 256, 13, x, 2, c, [⟨1, x1, 1, c1, [258]⟩, ⟨2, x2, 2, c2, [257, 259]⟩]⟩] 256 10 = 9 := by kernel_rfl
theorem bg_pl2 (x : Option Addr) (c : Nat) (x1 : Option Addr) (c1 : Nat) (x2 : Option Addr) (c2 : Nat) : plE 3 1 [⟨256, 10, 7⟩] 1 [⟨1, 256, 13, x, 2, c, [⟨1, x1, 1, c1, [258]⟩, ⟨2, x2, 2, c2, [257, 259]⟩]⟩] 1 2 = 0 := by kernel_rfl
theorem bg_unfaceR (x : Option Addr) (c : Nat) (x1 : Option Addr) (c1 : Nat) (x2 : Option Addr) (c2 : Nat) {w : World} {V : Value} (h : UnfaceR 3 [⟨256, 10, 7⟩] 1 [⟨1, 256, 13, x, 2, c, [⟨1, x1, 1, c1, [258]⟩, ⟨2, x2, 2, c2, [257, 259]⟩]⟩] 1 2 w V) : ∃ x c x1 c1, NV w 3 V [⟨256, 10, 7⟩] [⟨1, 256, 13, x, 1, c, [⟨1, x1, 1, c1, [258]⟩]⟩] := by
  obtain ⟨ts, i, j, x', n, c', hF, hs, hn, hN⟩ := h
  obtain ⟨rfl, rfl⟩ := bg_at rfl rfl rfl hF
  obtain ⟨x4, c4, fs, ts', rfl, hf, ht⟩ := sameSs_cons hs
  obtain rfl := sameSs_nil ht
  obtain ⟨x5, c5, gs', rfl, hf'⟩ := sameFs_cons hf
  obtain ⟨x6, c6, gs'', rfl, hf''⟩ := sameFs_cons hf'
  obtain rfl := sameFs_nil hf''
  subst hn
  exact ⟨_, _, _, _, hN⟩
theorem bg_sub (x : Option Addr) (c : Nat) (x1 : Option Addr) (c1 : Nat) : subE 3 1 [⟨256, 10, 7⟩] 1 [⟨1, 256, 13, x, 1, c, [⟨1, x1, 1, c1, [258]⟩]⟩] 4 264 13 = 0 := by kernel_rfl
theorem bg_subR (x : Option Addr) (c : Nat) (x1 : Option Addr) (c1 : Nat) {w : World} {V : Value} (h : SubR 3 [⟨256, 10, 7⟩] [⟨1, 256, 13, x, 1, c, [⟨1, x1, 1, c1, [258]⟩]⟩] 4 264 13 w V) : ∃ x c x1 c1, NV w 3 V [⟨256, 10, 7⟩] [⟨1, 256, 13, x, 1, c, [⟨1, x1, 1, c1, [258]⟩]⟩, ⟨4, 264, 13, none, 0, 0, []⟩] := by
  obtain ⟨ts, ss', hN, hs, p, hp1, hp2, hp3, rfl⟩ := h
  obtain ⟨x4, c4, fs, ts', rfl, hf, ht⟩ := sameSs_cons hs
  obtain rfl := sameSs_nil ht
  obtain ⟨x5, c5, gs', rfl, hf'⟩ := sameFs_cons hf
  obtain rfl := sameFs_nil hf'
  obtain rfl : p = 1 := by
    have hp1' : p ≤ 1 := hp1
    rcases Nat.eq_zero_or_pos p with h | h
    · subst h; exact absurd (hp3 (by simp)) (by simp [sbAt])
    · omega
  exact ⟨_, _, _, _, hN⟩
theorem bg_grow (x : Option Addr) (c : Nat) (x1 : Option Addr) (c1 : Nat) : growE 3 1 [⟨256, 10, 7⟩] 2 [⟨1, 256, 13, x, 1, c, [⟨1, x1, 1, c1, [258]⟩]⟩, ⟨4, 264, 13, none, 0, 0, []⟩] ⟨512, 16, 1⟩ = 0 := by kernel_rfl
theorem bg_growR (x : Option Addr) (c : Nat) (x1 : Option Addr) (c1 : Nat) {w : World} {V : Value} (h : ∃ rs' ss', NV w 3 V rs' ss' ∧ PutRg ⟨512, 16, 1⟩ [⟨256, 10, 7⟩] rs' ∧ sameSs [⟨1, 256, 13, x, 1, c, [⟨1, x1, 1, c1, [258]⟩]⟩, ⟨4, 264, 13, none, 0, 0, []⟩] ss') : ∃ rx rc sc b o y d, V = .agg #[.int .i64 3, .slice rx 2 rc, .slice (some ⟨b, o, none⟩) 2 sc] ∧ w.cell? ⟨b, o + 3, none⟩ = some (.slice y 1 d) := by
  obtain ⟨rs', ss', ⟨rx, rc, sx, sc, hV, hVp, -⟩, ⟨p, hp1, -, -, rfl⟩, hs⟩ := h
  obtain ⟨x4, c4, fs, ts', rfl, -, ht⟩ := sameSs_cons hs
  obtain ⟨x5, c5, gs, ts'', rfl, -, ht'⟩ := sameSs_cons ht
  obtain rfl := sameSs_nil ht'
  obtain ⟨b, o, rfl, -, -, -, h3⟩ := hVp.subs.cells 0 (by simp)
  have hlen : (List.take p ([⟨256, 10, 7⟩] : List Rg) ++ [(⟨512, 16, 1⟩ : Rg)] ++ List.drop p ([⟨256, 10, 7⟩] : List Rg)).length = 2 := by
    have hp1' : p ≤ 1 := hp1
    simp
    omega
  rw [hlen] at hV
  exact ⟨rx, rc, sc, b, o, x4, c4, hV, by simpa [sbAt] using h3⟩

theorem bgc_face (x : Option Addr) (c : Nat) (x2 : Option Addr) (c2 : Nat) (V : Value) (w : World) (h : NV w 3 V [⟨256, 10, 7⟩] [⟨1, 256, 13, x, 1, c, [⟨2, x2, 1, c2, [257]⟩]⟩]) :
    Calls Try.prog 4 #[V, .int .i64 1, .int .i64 1] w fun e w' => ∃ x c x1 c1 x2 c2 V', e = .returned (.tuple #[V', .int .i64 258, .int .i64 0]) ∧ NV w' 3 V' [⟨256, 10, 7⟩] [⟨1, 256, 13, x, 2, c, [⟨1, x1, 1, c1, [258]⟩, ⟨2, x2, 1, c2, [257]⟩]⟩] ∧ Below w.heap.size w w' := by
  obtain ⟨rx, rc, sx, sc, rfl, hv, h1, h2⟩ := h
  refine (vface_any 3 rx 1 rc [⟨256, 10, 7⟩] sx 1 sc [⟨1, 256, 13, x, 1, c, [⟨2, x2, 1, c2, [257]⟩]⟩] 1 1 w hv (by omega) (by omega) h1).mono ?_
  rintro e w' ⟨V', y, E, rfl, hb, hA, -, hR⟩
  obtain ⟨rfl, rfl⟩ := bg_face x c x2 c2 hA
  obtain ⟨x', c', y1, d1, y2, d2, hN⟩ := bg_faceR x c x2 c2 rfl (hR rfl)
  exact ⟨_, _, _, _, _, _, _, rfl, hN, hb⟩
theorem bgc_more (x : Option Addr) (c : Nat) (x1 : Option Addr) (c1 : Nat) (x2 : Option Addr) (c2 : Nat) (V : Value) (w : World) (h : NV w 3 V [⟨256, 10, 7⟩] [⟨1, 256, 13, x, 2, c, [⟨1, x1, 1, c1, [258]⟩, ⟨2, x2, 1, c2, [257]⟩]⟩]) :
    Calls Try.prog 7 #[V, .int .i64 1, .int .i64 2] w fun e w' => ∃ x c x1 c1 x2 c2 V', e = .returned (.tuple #[V', .int .i64 259, .int .i64 0]) ∧ NVo w' w.heap.size 3 V' [⟨256, 10, 7⟩] [⟨1, 256, 13, x, 2, c, [⟨1, x1, 1, c1, [258]⟩, ⟨2, x2, 2, c2, [257, 259]⟩]⟩] ∧ Below w.heap.size w w' := by
  obtain ⟨rx, rc, sx, sc, rfl, hv, h1, h2⟩ := h
  refine (vmore_any 3 rx 1 rc [⟨256, 10, 7⟩] sx 1 sc [⟨1, 256, 13, x, 2, c, [⟨1, x1, 1, c1, [258]⟩, ⟨2, x2, 1, c2, [257]⟩]⟩] 1 2 w hv (by omega) (by omega) h1).mono ?_
  rintro e w' ⟨V', y, E, rfl, hb, hA, -, hR⟩
  obtain ⟨rfl, rfl⟩ := bg_more x c x1 c1 x2 c2 hA
  obtain ⟨x', c', y1, d1, y2, d2, hN⟩ := bg_moreR x c x1 c1 x2 c2 rfl (hR rfl)
  exact ⟨_, _, _, _, _, _, _, rfl, hN, hb⟩
theorem bgc_unsub (x : Option Addr) (c : Nat) (x1 : Option Addr) (c1 : Nat) (x2 : Option Addr) (c2 : Nat) (V : Value) (w : World) (h : NV w 3 V [⟨256, 10, 7⟩] [⟨1, 256, 13, x, 2, c, [⟨1, x1, 1, c1, [258]⟩, ⟨2, x2, 2, c2, [257, 259]⟩]⟩]) :
    Calls Try.prog 27 #[V, .int .i64 1] w fun e w' => e = .returned (.tuple #[.agg #[.int .i64 0, .slice none 0 0, .slice none 0 0], .int .i64 9]) ∧ Below w.heap.size w w' := by
  obtain ⟨rx, rc, sx, sc, rfl, hv, h1, h2⟩ := h
  have hc := vunsub_any 3 rx 1 rc [⟨256, 10, 7⟩] sx 1 sc [⟨1, 256, 13, x, 2, c, [⟨1, x1, 1, c1, [258]⟩, ⟨2, x2, 2, c2, [257, 259]⟩]⟩] 1 w hv (by omega) (by omega) h1
  rw [bg_unsub] at hc
  refine hc.mono ?_
  rintro e w' ⟨V', rfl, hb, hz, -⟩
  obtain rfl := hz (by decide)
  exact ⟨rfl, hb⟩
theorem bgc_unface (x : Option Addr) (c : Nat) (x1 : Option Addr) (c1 : Nat) (x2 : Option Addr) (c2 : Nat) (V : Value) (w : World) (h : NV w 3 V [⟨256, 10, 7⟩] [⟨1, 256, 13, x, 2, c, [⟨1, x1, 1, c1, [258]⟩, ⟨2, x2, 2, c2, [257, 259]⟩]⟩]) :
    Calls Try.prog 8 #[V, .int .i64 1, .int .i64 2] w fun e w' => ∃ x c x1 c1 V', e = .returned (.tuple #[V', .int .i64 0]) ∧ NV w' 3 V' [⟨256, 10, 7⟩] [⟨1, 256, 13, x, 1, c, [⟨1, x1, 1, c1, [258]⟩]⟩] ∧ Below w.heap.size w w' := by
  obtain ⟨rx, rc, sx, sc, rfl, hv, h1, h2⟩ := h
  have hc := vunface_any 3 rx 1 rc [⟨256, 10, 7⟩] sx 1 sc [⟨1, 256, 13, x, 2, c, [⟨1, x1, 1, c1, [258]⟩, ⟨2, x2, 2, c2, [257, 259]⟩]⟩] 1 2 w hv (by omega) (by omega) h1
  rw [bg_pl2] at hc
  refine hc.mono ?_
  rintro e w' ⟨V', rfl, hb, -, hR⟩
  obtain ⟨x', c', y1, d1, hN⟩ := bg_unfaceR x c x1 c1 x2 c2 (hR rfl)
  exact ⟨_, _, _, _, _, rfl, hN, hb⟩
theorem bgc_drop (x : Option Addr) (c : Nat) (x1 : Option Addr) (c1 : Nat) (x2 : Option Addr) (c2 : Nat) (V : Value) (w : World) (h : NV w 3 V [⟨256, 10, 7⟩] [⟨1, 256, 13, x, 2, c, [⟨1, x1, 1, c1, [258]⟩, ⟨2, x2, 2, c2, [257, 259]⟩]⟩]) :
    Calls Try.prog 28 #[V, .agg #[.int .i64 256, .int .i64 10]] w fun e w' => e = .returned (.tuple #[.agg #[.int .i64 0, .slice none 0 0, .slice none 0 0], .agg #[.int .i64 0, .int .i64 0, .int .i64 0], .int .i64 9]) ∧ Below w.heap.size w w' := by
  obtain ⟨rx, rc, sx, sc, rfl, hv, h1, h2⟩ := h
  have hc := vdrop_any 3 rx 1 rc [⟨256, 10, 7⟩] sx 1 sc [⟨1, 256, 13, x, 2, c, [⟨1, x1, 1, c1, [258]⟩, ⟨2, x2, 2, c2, [257, 259]⟩]⟩] 256 10 w hv (by omega) (by omega) h1
  unfold DropPost at hc
  rw [bg_drop] at hc
  refine hc.mono ?_
  rintro e w' ⟨V', r, rfl, hb, hz, -⟩
  obtain ⟨rfl, rfl⟩ := hz (by decide)
  exact ⟨rfl, hb⟩
theorem bgc_sub (x : Option Addr) (c : Nat) (x1 : Option Addr) (c1 : Nat) (V : Value) (w : World) (h : NV w 3 V [⟨256, 10, 7⟩] [⟨1, 256, 13, x, 1, c, [⟨1, x1, 1, c1, [258]⟩]⟩]) :
    Calls Try.prog 29 #[V, .int .i64 4, .agg #[.int .i64 264, .int .i64 13]] w fun e w' => ∃ x c x1 c1 V', e = .returned (.tuple #[V', .int .i64 0]) ∧ NV w' 3 V' [⟨256, 10, 7⟩] [⟨1, 256, 13, x, 1, c, [⟨1, x1, 1, c1, [258]⟩]⟩, ⟨4, 264, 13, none, 0, 0, []⟩] ∧ Below w.heap.size w w' := by
  obtain ⟨rx, rc, sx, sc, rfl, hv, h1, h2⟩ := h
  have hc := vsub_any 3 rx 1 rc [⟨256, 10, 7⟩] sx 1 sc [⟨1, 256, 13, x, 1, c, [⟨1, x1, 1, c1, [258]⟩]⟩] 4 264 13 w hv (by omega) (by omega) h1
  rw [bg_sub] at hc
  refine hc.mono ?_
  rintro e w' ⟨V', rfl, hb, -, hR⟩
  obtain ⟨x', c', y1, d1, hN⟩ := bg_subR x c x1 c1 (hR rfl)
  exact ⟨_, _, _, _, _, rfl, hN, hb⟩
theorem bgc_grow (x : Option Addr) (c : Nat) (x1 : Option Addr) (c1 : Nat) (V : Value) (w : World) (h : NV w 3 V [⟨256, 10, 7⟩] [⟨1, 256, 13, x, 1, c, [⟨1, x1, 1, c1, [258]⟩]⟩, ⟨4, 264, 13, none, 0, 0, []⟩]) :
    Calls Try.prog 30 #[V, .agg #[.int .i64 512, .int .i64 16, .int .i64 1]] w fun e w' => ∃ rx rc sc b o y d, e = .returned (.tuple #[.agg #[.int .i64 3, .slice rx 2 rc, .slice (some ⟨b, o, none⟩) 2 sc], .int .i64 0]) ∧ w'.cell? ⟨b, o + 3, none⟩ = some (.slice y 1 d) ∧ Below w.heap.size w w' := by
  obtain ⟨rx, rc, sx, sc, rfl, hv, h1, h2⟩ := h
  have hc := vgrow_any 3 rx 1 rc [⟨256, 10, 7⟩] sx 2 sc [⟨1, 256, 13, x, 1, c, [⟨1, x1, 1, c1, [258]⟩]⟩, ⟨4, 264, 13, none, 0, 0, []⟩] ⟨512, 16, 1⟩ w hv (by omega) (by omega) h1
  unfold GrowPost at hc
  rw [bg_grow] at hc
  refine hc.mono ?_
  rintro e w' ⟨V', rfl, hb, -, hR⟩
  obtain ⟨rx', rc', sc', b, o, y, d, rfl, h3⟩ := bg_growR x c x1 c1 (hR rfl)
  exact ⟨_, _, _, _, _, _, _, rfl, h3, hb⟩

/-- The boxes of the begun network that are read again. -/
structure TBg (W : World) (b : Nat) (v : Value) (vR vS : Value) : Prop where
  he : v = .agg #[.int .i64 3, vR, vS]
  hb : W.heap[b]? = some (vpB 3 vR vS)
theorem TBg.later {W W' : World} {b : Nat} {v vR vS : Value} (h : TBg W b v vR vS) (hb : Below W.heap.size W W') : TBg W' b v vR vS := ⟨h.he, heap_later hb h.hb⟩

set_option maxRecDepth 100000 in
set_option maxHeartbeats 6400000 in
theorem vpcBegun_any (w : World) : Calls Try.prog 10 #[] w fun e w' => e = .returned (.bool true) ∧ Below w.heap.size w w' := by
  go_enter Try.func10, Try.ntmps10
  go_wp2_with fail
  refine (house_any w).mono ?_
  rintro e w1 ⟨rfl, hv1, hb1⟩
  have hN1 : NV w1 3 (.agg #[.int .i64 3, .slice (some ⟨w.heap.size + 1, 0, none⟩) 1 1, .slice (some ⟨w.heap.size + 1 + 1 + 1 + 1, 0, none⟩) 1 1]) [⟨256, 10, 7⟩] (houseV w.heap.size).ss := ⟨_, 1, _, 1, rfl, hv1, by omega, by omega⟩
  have hc1 := bgc_face _ _ _ _ _ w1 hN1
  clear hv1 hN1
  go_wp2_with fail
  refine hc1.mono ?_
  rintro e w2 ⟨x, c, x1, c1, x2, c2, V1, rfl, hN2, hb2⟩
  have hB2 := hb1.trans (hb2.mono hb1.size)
  clear hc1 hb1 hb2
  obtain ⟨r1, k1, s1, l1, hV1, hv2, h21, h22⟩ := hN2
  have hV1' : Hid (V1 = .agg #[.int .i64 3, .slice r1 1 k1, .slice s1 1 l1]) := hV1
  subst hV1
  go_upto_region 2 with fail
  obtain ⟨w3, hw3⟩ : ∃ w3, w3 = w2.alloc (vpB 3 (.slice r1 1 k1) (.slice s1 1 l1)) := ⟨_, rfl⟩
  rw [← hw3]
  have hB23 : Below w2.heap.size w2 w3 := by rw [hw3]; exact bl1 _ _
  have hbx3 : w3.heap[w2.heap.size]? = some (vpB 3 (.slice r1 1 k1) (.slice s1 1 l1)) := by rw [hw3]; exact heap_new _ rfl
  clear hw3
  have hB3 := hB2.trans (hB23.mono hB2.size)
  have hN3 : NV w3 3 (.agg #[.int .i64 3, .slice r1 1 k1, .slice s1 1 l1]) [⟨256, 10, 7⟩] [⟨1, 256, 13, x, 2, c, [⟨1, x1, 1, c1, [258]⟩, ⟨2, x2, 1, c2, [257]⟩]⟩] := ⟨_, _, _, _, rfl, hv2.later hB23, h21, h22⟩
  have q0 : w3.cell? ⟨w2.heap.size, 0, none⟩ = some (.int .i64 3) := (box_cells hbx3).1 0
  have q1 : w3.cell? ⟨w2.heap.size, 1, none⟩ = some (.slice r1 1 k1) := (box_cells hbx3).1 1
  have q2 : w3.cell? ⟨w2.heap.size, 2, none⟩ = some (.slice s1 1 l1) := (box_cells hbx3).1 2
  have hc2 := bgc_more _ _ _ _ _ _ _ w3 hN3
  clear hN3 hv2 h21 h22 hV1'
  go_wp2_with fail
  refine hc2.mono ?_
  rintro e w4 ⟨x', c', x1', c1', x2', c2', V2, rfl, hN4, hb4⟩
  have hB4 := hB3.trans (hb4.mono hB3.size)
  have hbx4 := heap_later hb4 hbx3
  have hlt3 : w2.heap.size < w3.heap.size := (Array.getElem?_eq_some_iff.1 hbx3).1
  clear hc2 q0 q1 q2 hbx3 hb4
  have hVV : ∃ r2 k2 s2 l2, V2 = .agg #[.int .i64 3, .slice r2 1 k2, .slice s2 1 l2] := by
    obtain ⟨r2, k2, s2, l2, hV2, -⟩ := hN4.nv
    exact ⟨r2, k2, s2, l2, hV2⟩
  obtain ⟨r2, k2, s2, l2, rfl⟩ := hVV
  have q0 : w4.cell? ⟨w2.heap.size, 0, none⟩ = some (.int .i64 3) := (box_cells hbx4).1 0
  have q1 : w4.cell? ⟨w2.heap.size, 1, none⟩ = some (.slice r1 1 k1) := (box_cells hbx4).1 1
  have q2 : w4.cell? ⟨w2.heap.size, 2, none⟩ = some (.slice s1 1 l1) := (box_cells hbx4).1 2
  have z0 := (box_cells hbx4).2 0
  have z1 := (box_cells hbx4).2 1
  have z2 := (box_cells hbx4).2 2
  go_upto_region 3 with fail
  obtain ⟨w5, hw5⟩ : ∃ w5, w5 = ((w4.setCell ⟨w2.heap.size, 0, none⟩ (.int .i64 3)).setCell ⟨w2.heap.size, 1, none⟩ (.slice r2 1 k2)).setCell ⟨w2.heap.size, 2, none⟩ (.slice s2 1 l2) := ⟨_, rfl⟩
  rw [← hw5]
  have hbx5 : w5.heap[w2.heap.size]? = some (vpB 3 (.slice r2 1 k2) (.slice s2 1 l2)) := by rw [hw5]; exact vpB_set hbx4
  have hN5 : NV w5 3 (.agg #[.int .i64 3, .slice r2 1 k2, .slice s2 1 l2]) [⟨256, 10, 7⟩] [⟨1, 256, 13, x', 2, c', [⟨1, x1', 1, c1', [258]⟩, ⟨2, x2', 2, c2', [257, 259]⟩]⟩] := by rw [hw5]; exact (((hN4.put hlt3).put hlt3).put hlt3).nv
  have hB5 : Below w.heap.size w w5 := by rw [hw5]; exact ((hB4.setCell (p := ⟨w2.heap.size, 0, none⟩) hB2.size _).setCell (p := ⟨w2.heap.size, 1, none⟩) hB2.size _).setCell (p := ⟨w2.heap.size, 2, none⟩) hB2.size _
  clear hw5 q0 q1 q2 z0 z1 z2 hbx4 hN4 hlt3
  have q0 : w5.cell? ⟨w2.heap.size, 0, none⟩ = some (.int .i64 3) := (box_cells hbx5).1 0
  have q1 : w5.cell? ⟨w2.heap.size, 1, none⟩ = some (.slice r2 1 k2) := (box_cells hbx5).1 1
  have q2 : w5.cell? ⟨w2.heap.size, 2, none⟩ = some (.slice s2 1 l2) := (box_cells hbx5).1 2
  have hc3 := bgc_unsub _ _ _ _ _ _ _ w5 hN5
  go_wp2_with fail
  refine hc3.mono ?_
  rintro e w6 ⟨rfl, hb6⟩
  clear hc3 q0 q1 q2
  go_upto_region 4 with fail
  obtain ⟨w7, hw7⟩ : ∃ w7, w7 = w6.alloc (vpB 0 (.slice none 0 0) (.slice none 0 0)) := ⟨_, rfl⟩
  rw [← hw7]
  have hb57 : Below w5.heap.size w5 w7 := by rw [hw7]; exact hb6.trans ((bl1 w6 _).mono hb6.size)
  clear hw7 hb6
  have hB7 := hB5.trans (hb57.mono hB5.size)
  have hbx7 := heap_later hb57 hbx5
  have hN7 := hN5.later hb57
  clear hN5 hbx5 hb57
  have q0 : w7.cell? ⟨w2.heap.size, 0, none⟩ = some (.int .i64 3) := (box_cells hbx7).1 0
  have q1 : w7.cell? ⟨w2.heap.size, 1, none⟩ = some (.slice r2 1 k2) := (box_cells hbx7).1 1
  have q2 : w7.cell? ⟨w2.heap.size, 2, none⟩ = some (.slice s2 1 l2) := (box_cells hbx7).1 2
  have hc4 := bgc_unface _ _ _ _ _ _ _ w7 hN7
  go_wp2_with fail
  refine hc4.mono ?_
  rintro e w8 ⟨x3, c3, x13, c13, V3, rfl, hN8, hb8⟩
  clear hc4 q0 q1 q2
  obtain ⟨r3, k3, s3, l3, hV3, hv8, h81, h82⟩ := hN8
  subst hV3
  go_upto_region 5 with fail
  obtain ⟨w9, hw9⟩ : ∃ w9, w9 = w8.alloc (vpB 3 (.slice r3 1 k3) (.slice s3 1 l3)) := ⟨_, rfl⟩
  rw [← hw9]
  have hb89 : Below w8.heap.size w8 w9 := by rw [hw9]; exact bl1 _ _
  have hby9 : w9.heap[w8.heap.size]? = some (vpB 3 (.slice r3 1 k3) (.slice s3 1 l3)) := by rw [hw9]; exact heap_new _ rfl
  clear hw9
  have hb79 := hb8.trans (hb89.mono hb8.size)
  have hB9 := hB7.trans (hb79.mono hB7.size)
  have hbx9 := heap_later hb79 hbx7
  have hN9 := hN7.later hb79
  have hM9 : NV w9 3 (.agg #[.int .i64 3, .slice r3 1 k3, .slice s3 1 l3]) [⟨256, 10, 7⟩] [⟨1, 256, 13, x3, 1, c3, [⟨1, x13, 1, c13, [258]⟩]⟩] := ⟨_, _, _, _, rfl, hv8.later hb89, h81, h82⟩
  clear hN7 hbx7 hb79 hv8 h81 h82 hb8 hb89
  have q0 : w9.cell? ⟨w2.heap.size, 0, none⟩ = some (.int .i64 3) := (box_cells hbx9).1 0
  have q1 : w9.cell? ⟨w2.heap.size, 1, none⟩ = some (.slice r2 1 k2) := (box_cells hbx9).1 1
  have q2 : w9.cell? ⟨w2.heap.size, 2, none⟩ = some (.slice s2 1 l2) := (box_cells hbx9).1 2
  have hc5 := bgc_drop _ _ _ _ _ _ _ w9 hN9
  go_wp2_with fail
  refine hc5.mono ?_
  rintro e w10 ⟨rfl, hb10⟩
  clear hc5 q0 q1 q2
  go_upto_region 6 with fail
  obtain ⟨w11, hw11⟩ : ∃ w11, w11 = (w10.alloc (vpB 0 (.slice none 0 0) (.slice none 0 0))).alloc (.cells #[.int .i64 0, .int .i64 0, .int .i64 0] 60) := ⟨_, rfl⟩
  rw [← hw11]
  have hb911 : Below w9.heap.size w9 w11 := by rw [hw11]; exact hb10.trans ((bl2 w10 _ _).mono hb10.size)
  clear hw11 hb10
  have hB11 := hB9.trans (hb911.mono hB9.size)
  have hby11 := heap_later hb911 hby9
  have hM11 := hM9.later hb911
  clear hM9 hby9 hb911 hbx9 hN9
  have q0 : w11.cell? ⟨w8.heap.size, 0, none⟩ = some (.int .i64 3) := (box_cells hby11).1 0
  have q1 : w11.cell? ⟨w8.heap.size, 1, none⟩ = some (.slice r3 1 k3) := (box_cells hby11).1 1
  have q2 : w11.cell? ⟨w8.heap.size, 2, none⟩ = some (.slice s3 1 l3) := (box_cells hby11).1 2
  have hc6 := bgc_sub _ _ _ _ _ w11 hM11
  go_wp2_with fail
  refine hc6.mono ?_
  rintro e w12 ⟨x4, c4, x14, c14, V4, rfl, hN12, hb12⟩
  clear hc6 q0 q1 q2
  obtain ⟨r4, k4, s4, l4, hV4, hv12, h121, h122⟩ := hN12
  subst hV4
  go_upto_region 7 with fail
  obtain ⟨w13, hw13⟩ : ∃ w13, w13 = w12.alloc (vpB 3 (.slice r4 1 k4) (.slice s4 2 l4)) := ⟨_, rfl⟩
  rw [show w12.alloc (.cells #[.int .i64 3, .slice r4 1 k4, .slice s4 2 l4] 25) = w13 from hw13.symm]
  have hb1213 : Below w12.heap.size w12 w13 := by rw [hw13]; exact bl1 _ _
  have hbz13 : w13.heap[w12.heap.size]? = some (vpB 3 (.slice r4 1 k4) (.slice s4 2 l4)) := by rw [hw13]; exact heap_new _ rfl
  clear hw13
  have hB13 := hB11.trans ((hb12.trans (hb1213.mono hb12.size)).mono hB11.size)
  have hN13 : NV w13 3 (.agg #[.int .i64 3, .slice r4 1 k4, .slice s4 2 l4]) [⟨256, 10, 7⟩] [⟨1, 256, 13, x4, 1, c4, [⟨1, x14, 1, c14, [258]⟩]⟩, ⟨4, 264, 13, none, 0, 0, []⟩] := ⟨_, _, _, _, rfl, hv12.later hb1213, h121, h122⟩
  clear hb1213 hb12 hv12 h121 h122 hby11 hM11
  have q0 : w13.cell? ⟨w12.heap.size, 0, none⟩ = some (.int .i64 3) := (box_cells hbz13).1 0
  have q1 : w13.cell? ⟨w12.heap.size, 1, none⟩ = some (.slice r4 1 k4) := (box_cells hbz13).1 1
  have q2 : w13.cell? ⟨w12.heap.size, 2, none⟩ = some (.slice s4 2 l4) := (box_cells hbz13).1 2
  have hc7 := bgc_grow _ _ _ _ _ w13 hN13
  go_wp2_with fail
  refine hc7.mono ?_
  rintro e w14 ⟨r5, k5, l5, b5, o5, y5, d5, rfl, h5, hb14⟩
  clear hc7 q0 q1 q2 hbz13 hN13
  have hB14 := hB13.trans (hb14.mono hB13.size)
  clear hb14
  go_upto_region 8 with fail
  obtain ⟨w15, hw15⟩ : ∃ w15, w15 = w14.alloc (vpB 3 (.slice r5 2 k5) (.slice (some ⟨b5, o5, none⟩) 2 l5)) := ⟨_, rfl⟩
  rw [← hw15]
  have hb15 : Below w14.heap.size w14 w15 := by rw [hw15]; exact bl1 _ _
  have hbu15 : w15.heap[w14.heap.size]? = some (vpB 3 (.slice r5 2 k5) (.slice (some ⟨b5, o5, none⟩) 2 l5)) := by rw [hw15]; exact heap_new _ rfl
  clear hw15
  have hB15 := hB14.trans (hb15.mono hB14.size)
  have h515 := cell_later hb15 h5
  clear hb15 h5
  go_wp2_with fail
  refine (house_any w15).mono ?_
  rintro e w16 ⟨rfl, hv16, hb16⟩
  have hck : Calls Try.prog 6 #[.agg #[.int .i64 3, .slice (some ⟨w15.heap.size + 1, 0, none⟩) 1 1, .slice (some ⟨w15.heap.size + 1 + 1 + 1 + 1, 0, none⟩) 1 1]] w16 fun e w' => e = .returned (.int .i64 0) ∧ Below w16.heap.size w16 w' := by
    have h := checkV_any 3 _ 1 1 _ _ 1 1 _ w16 hv16 (by omega) (by omega) (by omega)
    rw [show chkV 3 1 (houseV w15.heap.size).rs 1 (houseV w15.heap.size).ss = 0 from bg_chk0 _ _ _ _] at h
    exact h
  clear hv16
  go_wp2_with fail
  refine hck.mono ?_
  rintro e w17 ⟨rfl, hb17⟩
  have hb1517 := hb16.trans (hb17.mono hb16.size)
  have hB17 := hB15.trans (hb1517.mono hB15.size)
  have hbu17 := heap_later hb1517 hbu15
  have h517 := cell_later hb1517 h515
  clear hck hb16 hb17 hbu15 h515
  have q1 : w17.cell? ⟨w14.heap.size, 1, none⟩ = some (.slice r5 2 k5) := (box_cells hbu17).1 1
  have q2 : w17.cell? ⟨w14.heap.size, 2, none⟩ = some (.slice (some ⟨b5, o5, none⟩) 2 l5) := (box_cells hbu17).1 2
  go_wp2
  go_ret
  exact ⟨rfl, hB17⟩
end Go.Proofs.Ytpdhipjeobchfaa
/- What OwnVpc of the reference comes to: the same network in memory of the call's own. -/
namespace Go.Proofs.Ytpdhipjeobchfaa
open Go.RowKit Go.Shelf

theorem run_append_none_v {P : Program} {w : World} (base : Nat) (t ty e : TypeId) (i : TypeInfo) (size c : Nat) (ht : P.underlying t = some (.slice e)) (hi : P.info? e = some i)
    (v : Value) (n : Nat) (xs : List Value) (hown : w.ownsRow base e size v n xs) :
    (Builtin.append_ #[t, t] ty #[v, .slice none 0 c]).run P w = .ok v w := by
  rcases hown.2 with ⟨rfl, rfl⟩ | ⟨g, cap, cur, rfl, _, _, hnc, _⟩
  · simp [Builtin.append_, run_underlying ht, sizeOf, typeInfo, hi, Builtin.lenOf, Builtin.firstCells]
  · simp [Builtin.append_, run_underlying ht, sizeOf, typeInfo, hi, Builtin.lenOf, Builtin.firstCells, hnc, storeCells]
/-- append of a slice, nil or not, to a row of the call's own. -/
theorem wpList_append_RR {w : World} {ops : Array Oper} {rest : List Oper} {o : Oper} {a : Act} {Q : Exit → Act → World → Prop} (hgd : o.guard = none) (s x : Operand)
    (ho : o.op = .call { callee := .builtin .append, args := #[s, x], argTypes := #[22, 22] }) (base : Nat) (v : Value) (es : List Rg) (hs : a.eval s = v) (hO : OwnR w base v es)
    (ad : Option Addr) (m c : Nat) (fs : List Rg) (hx : a.eval x = .slice ad m c) (hl : RS w ad m fs)
    (hlen : es.length + m ≤ 1000000000) (hbase : base ≤ w.heap.size)
    (h : ∀ v' w', OwnR w' base v' (es ++ fs) → w.grownBy w' v.ownBlock → wpList Try.prog ops Q rest (a.put o.dst v') w') : wpList Try.prog ops Q (o :: rest) a w := by
  cases ad with
  | some ad => exact wpList_append_R hgd s x ho base v es hs hO ad m c fs hx hl.len hl.flat_cells hlen hbase h
  | none =>
    obtain ⟨i0, hi, hz0, hz1, hz2⟩ := info_R'
    have h0 : m = 0 := by
      rcases Nat.eq_zero_or_pos m with h | h
      · exact h
      · obtain ⟨b, o, h, -⟩ := hl.cells 0 h
        cases h
    obtain rfl : fs = [] := List.eq_nil_of_length_eq_zero (by rw [hl.len, h0])
    subst h0
    have h1 := h v w (by rw [List.append_nil]; exact hO) ⟨rfl, rfl, rfl, Nat.le_refl _, fun _ _ _ => rfl⟩
    refine wpList_plain hgd fun K hK => ?_
    have hrun := run_append_none_v (P := Try.prog) (w := w) base 22 o.type 60 i0 3 c under_R hi v es.length (flatR es) hO
    unfold Oper.wp
    simp [execOp, ho, resolve, invoke, builtin, hs, hx, hrun, Result.andThen]
    exact hK _ _ h1
/-- append of a slice, nil or not, to a row of the call's own. -/
theorem wpList_append_II {w : World} {ops : Array Oper} {rest : List Oper} {o : Oper} {a : Act} {Q : Exit → Act → World → Prop} (hgd : o.guard = none) (s x : Operand)
    (ho : o.op = .call { callee := .builtin .append, args := #[s, x], argTypes := #[45, 45] }) (base : Nat) (v : Value) (es : List Int) (hs : a.eval s = v) (hO : OwnI w base v es)
    (ad : Option Addr) (m c : Nat) (fs : List Int) (hx : a.eval x = .slice ad m c) (hl : IS w ad m fs)
    (hlen : es.length + m ≤ 1000000000) (hbase : base ≤ w.heap.size)
    (h : ∀ v' w', OwnI w' base v' (es ++ fs) → w.grownBy w' v.ownBlock → wpList Try.prog ops Q rest (a.put o.dst v') w') : wpList Try.prog ops Q (o :: rest) a w := by
  cases ad with
  | some ad => exact wpList_append_I hgd s x ho base v es hs hO ad m c fs hx hl.len hl.flat_cells hlen hbase h
  | none =>
    obtain ⟨i0, hi, hz0, hz1, hz2⟩ := info_I'
    have h0 : m = 0 := by
      rcases Nat.eq_zero_or_pos m with h | h
      · exact h
      · obtain ⟨b, o, h, -⟩ := hl.cells 0 h
        cases h
    obtain rfl : fs = [] := List.eq_nil_of_length_eq_zero (by rw [hl.len, h0])
    subst h0
    have h1 := h v w (by rw [List.append_nil]; exact hO) ⟨rfl, rfl, rfl, Nat.le_refl _, fun _ _ _ => rfl⟩
    refine wpList_plain hgd fun K hK => ?_
    have hrun := run_append_none_v (P := Try.prog) (w := w) base 45 o.type 3 i0 1 c under_I hi v es.length (flatI es) hO
    unfold Oper.wp
    simp [execOp, ho, resolve, invoke, builtin, hs, hx, hrun, Result.andThen]
    exact hK _ _ h1
theorem OwnR.keptr {w w' : World} {base : Nat} {r : Option Nat} {v : Value} {es : List Rg} (h : OwnR w base v es) (hg : w.grownBy w' r) (hne : ∀ k, v.ownBlock = some k → r ≠ some k) : OwnR w' base v es := by
  refine World.ownsRow.kept h hg ?_
  cases hv : v.ownBlock
  · exact .inl rfl
  · rename_i k
    exact .inr fun e => hne k hv e.symm
theorem OwnS.keptr {w w' : World} {base : Nat} {r : Option Nat} {v : Value} {es : List Sb} (h : OwnS w base v es) (hg : w.grownBy w' r) (hne : ∀ k, v.ownBlock = some k → r ≠ some k) : OwnS w' base v es := by
  refine World.ownsRow.kept h hg ?_
  cases hv : v.ownBlock
  · exact .inl rfl
  · rename_i k
    exact .inr fun e => hne k hv e.symm
theorem OwnF.keptr {w w' : World} {base : Nat} {r : Option Nat} {v : Value} {es : List Fc} (h : OwnF w base v es) (hg : w.grownBy w' r) (hne : ∀ k, v.ownBlock = some k → r ≠ some k) : OwnF w' base v es := by
  refine World.ownsRow.kept h hg ?_
  cases hv : v.ownBlock
  · exact .inl rfl
  · rename_i k
    exact .inr fun e => hne k hv e.symm
theorem OwnI.keptr {w w' : World} {base : Nat} {r : Option Nat} {v : Value} {es : List Int} (h : OwnI w base v es) (hg : w.grownBy w' r) (hne : ∀ k, v.ownBlock = some k → r ≠ some k) : OwnI w' base v es := by
  refine World.ownsRow.kept h hg ?_
  cases hv : v.ownBlock
  · exact .inl rfl
  · rename_i k
    exact .inr fun e => hne k hv e.symm
theorem grown_keep {w w' : World} {r : Option Nat} {b : Nat} {x : Obj} (hg : w.grownBy w' r) (hne : r ≠ some b) (hx : w.heap[b]? = some x) : w'.heap[b]? = some x :=
  (hg.block b (Array.getElem?_eq_some_iff.1 hx).1 (fun e => hne e.symm)).trans hx
theorem OSs.nil (w : World) (base : Nat) : OSs w base (.slice none 0 0) [] 0 :=
  ⟨⟨rfl, .inl ⟨rfl, rfl⟩⟩, fun _ hi => absurd hi (Nat.not_lt_zero _), fun _ _ hi => absurd hi (Nat.not_lt_zero _)⟩
theorem OFs.nil (w : World) (base : Nat) : OFs w base (.slice none 0 0) [] 0 :=
  ⟨⟨rfl, .inl ⟨rfl, rfl⟩⟩, fun _ hi => absurd hi (Nat.not_lt_zero _), fun _ _ hi => absurd hi (Nat.not_lt_zero _)⟩
/-- A row's block holds what its kind says. -/
theorem OwnF.kind {w : World} {base g : Nat} {v : Value} {fs : List Fc} (h : OwnF w base v fs) (hv : v.ownBlock = some g) : ∃ cur, w.heap[g]? = some (.cells cur 47) := by
  rcases h.2 with ⟨rfl, -⟩ | ⟨g', cap, cur, rfl, -, h3, -⟩
  · cases hv
  · obtain rfl : g' = g := by simpa [Value.ownBlock] using hv
    exact ⟨cur, h3⟩
theorem OwnS.kind {w : World} {base g : Nat} {v : Value} {fs : List Sb} (h : OwnS w base v fs) (hv : v.ownBlock = some g) : ∃ cur, w.heap[g]? = some (.cells cur 42) := by
  rcases h.2 with ⟨rfl, -⟩ | ⟨g', cap, cur, rfl, -, h3, -⟩
  · cases hv
  · obtain rfl : g' = g := by simpa [Value.ownBlock] using hv
    exact ⟨cur, h3⟩
theorem OFs.snoc {W W1 W2 : World} {base : Nat} {v v2 : Value} {gs : List Fc} {f : Fc} (h : OFs W base v gs gs.length) (hwb : base ≤ W.heap.size) (hb : Below W.heap.size W W1) (ho : OwnI W1 W.heap.size (.slice f.x f.n f.c) f.ns) (hg : W1.grownBy W2 v.ownBlock) (hr : OwnF W2 base v2 (gs ++ [f])) : OFs W2 base v2 (gs ++ [f]) (gs ++ [f]).length := by
  have keep : ∀ {vv : Value} {es : List Int}, OwnI W1 base vv es → OwnI W2 base vv es := fun {vv es} hO => hO.keptr hg (fun k hk e => by
    obtain ⟨cur, hc⟩ := (h.row.later hb).kind e
    exact hO.ne hc (by decide) hk)
  refine OFs.mk' hr (fun g hg' => ?_)
  rcases List.mem_append.1 hg' with h1 | h1
  · exact keep ((h.each g h1).later hb)
  · obtain rfl : g = f := by simpa using h1
    exact keep (ho.low hwb)
theorem sbAt_snoc {qs : List Sb} {q : Sb} {j : Nat} : sbAt (qs ++ [q]) j = if j < qs.length then sbAt qs j else if j = qs.length then q else sbZ := by
  unfold sbAt
  rw [List.getD_eq_getElem?_getD, List.getD_eq_getElem?_getD]
  by_cases h : j < qs.length
  · rw [if_pos h, List.getElem?_append_left h]
  · rw [if_neg h, List.getElem?_append_right (by omega)]
    by_cases h2 : j = qs.length
    · subst h2; simp
    · rw [if_neg h2]
      obtain ⟨m, hm⟩ : ∃ m, j - qs.length = m + 1 := ⟨j - qs.length - 1, by omega⟩
      rw [hm]
      rfl
theorem fcAt_snoc {qs : List Fc} {q : Fc} {j : Nat} : fcAt (qs ++ [q]) j = if j < qs.length then fcAt qs j else if j = qs.length then q else fcZ := by
  unfold fcAt
  rw [List.getD_eq_getElem?_getD, List.getD_eq_getElem?_getD]
  by_cases h : j < qs.length
  · rw [if_pos h, List.getElem?_append_left h]
  · rw [if_neg h, List.getElem?_append_right (by omega)]
    by_cases h2 : j = qs.length
    · subst h2; simp
    · rw [if_neg h2]
      obtain ⟨m, hm⟩ : ∃ m, j - qs.length = m + 1 := ⟨j - qs.length - 1, by omega⟩
      rw [hm]
      rfl
theorem OFs.keptr {W W' : World} {base : Nat} {r : Option Nat} {v : Value} {fs : List Fc} (h : OFs W base v fs fs.length) (hg : W.grownBy W' r) (ht : ∀ g, r = some g → ∃ cur, W.heap[g]? = some (.cells cur 42)) : OFs W' base v fs fs.length :=
  OFs.mk' (h.row.keptr hg (fun k hk e => by
    obtain ⟨cur, hc⟩ := ht k e
    exact h.row.ne hc (by decide) hk)) (fun f hf => (h.each f hf).keptr hg (fun k hk e => by
    obtain ⟨cur, hc⟩ := ht k e
    exact (h.each f hf).ne hc (by decide) hk))
theorem OSs.snoc {W W1 W2 : World} {base : Nat} {v v2 : Value} {qs : List Sb} {q : Sb} (h : OSs W base v qs qs.length) (hwb : base ≤ W.heap.size) (hb : Below W.heap.size W W1) (ho : OFs W1 W.heap.size (.slice q.x q.n q.c) q.fs q.fs.length)
    (hg : W1.grownBy W2 v.ownBlock) (hr : OwnS W2 base v2 (qs ++ [q])) : OSs W2 base v2 (qs ++ [q]) (qs ++ [q]).length := by
  have hl : (qs ++ [q]).length = qs.length + 1 := by simp
  have ht : ∀ g, v.ownBlock = some g → ∃ cur, W1.heap[g]? = some (.cells cur 42) := fun g hv => (h.row.later hb).kind hv
  refine ⟨hr, fun j hj => ?_, fun j k hj hk hjk b hbj hbk => ?_⟩
  · rw [sbAt_snoc]
    by_cases c1 : j < qs.length
    · rw [if_pos c1]; exact ((h.own j c1).later hb).keptr hg ht
    · rw [if_neg c1, if_pos (by omega)]
      exact (ho.low hwb).keptr hg ht
  · rw [sbAt_snoc] at hbj hbk
    by_cases c1 : j < qs.length
    · rw [if_pos c1] at hbj
      by_cases c2 : k < qs.length
      · rw [if_pos c2] at hbk
        exact h.apart j k c1 c2 hjk b hbj hbk
      · rw [if_neg c2, if_pos (by omega)] at hbk
        have h1 := ((h.own j c1).row.lt b hbj).2
        have h2 := (ho.row.lt b hbk).1
        omega
    · rw [if_neg c1, if_pos (by omega)] at hbj
      by_cases c2 : k < qs.length
      · rw [if_pos c2] at hbk
        have h1 := ((h.own k c2).row.lt b hbk).2
        have h2 := (ho.row.lt b hbj).1
        omega
      · omega
/-- No two faces have their addresses in one block. -/
def adK (f : Fc) : Option Nat := (Value.slice f.x f.n f.c).ownBlock
def ApF (fs : List Fc) : Prop := ∀ p q, p < fs.length → q < fs.length → p ≠ q → ∀ b, adK (fcAt fs p) = some b → adK (fcAt fs q) ≠ some b
def ApS (ts : List Sb) : Prop := (∀ i, i < ts.length → ApF (sbAt ts i).fs) ∧ ∀ i k, i < ts.length → k < ts.length → i ≠ k → ∀ p q, p < (sbAt ts i).fs.length → q < (sbAt ts k).fs.length → ∀ b, adK (fcAt (sbAt ts i).fs p) = some b → adK (fcAt (sbAt ts k).fs q) ≠ some b
theorem ApF.nil : ApF [] := fun _ _ hp => absurd hp (Nat.not_lt_zero _)
theorem ApS.nil : ApS [] := ⟨fun _ hi => absurd hi (Nat.not_lt_zero _), fun _ _ hi => absurd hi (Nat.not_lt_zero _)⟩
theorem ApF.snoc {gs : List Fc} {f : Fc} {m : Nat} (h : ApF gs) (hlt : ∀ p, p < gs.length → ∀ b, adK (fcAt gs p) = some b → b < m) (hf : ∀ b, adK f = some b → m ≤ b) : ApF (gs ++ [f]) := fun p q hp hq hpq b h1 h2 => by
  have hl : (gs ++ [f]).length = gs.length + 1 := by simp
  rw [hl] at hp hq
  rw [fcAt_snoc] at h1 h2
  by_cases c1 : p < gs.length
  · rw [if_pos c1] at h1
    by_cases c2 : q < gs.length
    · rw [if_pos c2] at h2
      exact h p q c1 c2 hpq b h1 h2
    · rw [if_neg c2, if_pos (by omega)] at h2
      have := hlt p c1 b h1
      have := hf b h2
      omega
  · rw [if_neg c1, if_pos (by omega)] at h1
    by_cases c2 : q < gs.length
    · rw [if_pos c2] at h2
      have := hlt q c2 b h2
      have := hf b h1
      omega
    · omega
theorem ApS.snoc {qs : List Sb} {q : Sb} {m : Nat} (h : ApS qs) (hq : ApF q.fs) (hlt : ∀ i, i < qs.length → ∀ p, p < (sbAt qs i).fs.length → ∀ b, adK (fcAt (sbAt qs i).fs p) = some b → b < m) (hf : ∀ p, p < q.fs.length → ∀ b, adK (fcAt q.fs p) = some b → m ≤ b) : ApS (qs ++ [q]) := by
  have hl : (qs ++ [q]).length = qs.length + 1 := by simp
  refine ⟨fun i hi => ?_, fun i k hi hk hik p r hp hr b h1 h2 => ?_⟩
  · rw [hl] at hi
    rw [sbAt_snoc]
    by_cases c1 : i < qs.length
    · rw [if_pos c1]; exact h.1 i c1
    · rw [if_neg c1, if_pos (by omega)]; exact hq
  · rw [hl] at hi hk
    rw [sbAt_snoc] at hp h1 hr h2
    by_cases c1 : i < qs.length
    · rw [if_pos c1] at hp h1
      by_cases c2 : k < qs.length
      · rw [if_pos c2] at hr h2
        exact h.2 i k c1 c2 hik p r hp hr b h1 h2
      · rw [if_neg c2, if_pos (by omega)] at hr h2
        have := hlt i c1 p hp b h1
        have := hf r hr b h2
        omega
    · rw [if_neg c1, if_pos (by omega)] at hp h1
      by_cases c2 : k < qs.length
      · rw [if_pos c2] at hr h2
        have := hlt k c2 r hr b h2
        have := hf p hp b h1
        omega
      · omega
/-- The same, and no two faces have their addresses in one block. -/
def Fv2Post (vid : Int) (rs : List Rg) (ss : List Sb) (w : World) (e : Ending) (w' : World) : Prop :=
  ∃ vR vS ts, e = .returned (.agg #[.int .i64 vid, vR, vS]) ∧ OwnR w' w.heap.size vR rs ∧ sameSs ss ts ∧ OSs w' w.heap.size vS ts ts.length ∧ Below w.heap.size w w' ∧ ApS ts
/-- The boxes: the network handed in, the result, and what is being made. -/
structure TW (w W : World) (vid : Int) (v0 u0 : Value) (bo : Nat) (vR v : Value) : Prop where
  hb : W.heap[w.heap.size]? = some (vpB vid v0 u0)
  hs : W.heap[w.heap.size + 1]? = some (vpB 0 (.slice none 0 0) (.slice none 0 0))
  ho : W.heap[bo]? = some (vpB vid vR v)
  below : Below w.heap.size w W
theorem TW.later {w W W' : World} {vid : Int} {v0 u0 : Value} {bo : Nat} {vR v : Value} (h : TW w W vid v0 u0 bo vR v) (hb : Below W.heap.size W W') : TW w W' vid v0 u0 bo vR v :=
  ⟨heap_later hb h.hb, heap_later hb h.hs, heap_later hb h.ho, h.below.trans (hb.mono h.below.size)⟩
theorem OwnS.grows {w w' : World} {base : Nat} {v : Value} {qs : List Sb} (h : OwnS w base v qs) (hg : w.grownBy w' v.ownBlock) {b : Nat} {cs : Array Value} {t : TypeId} (hb : w.heap[b]? = some (.cells cs t)) (ht : t ≠ 42) : w'.heap[b]? = some (.cells cs t) :=
  grown_keep hg (h.ne hb ht) hb

end Go.Proofs.Ytpdhipjeobchfaa
/- What GrowVpc of the reference comes to. -/
namespace Go.Proofs.Ytpdhipjeobchfaa
open Go.RowKit Go.Shelf

/-- The first k of xs, with e ahead of the first one that is greater, if there was one yet. -/
def InsG {α : Type} (e : α) (gt : Nat → Bool) (xs : List α) (k : Nat) (d : Bool) (qs : List α) : Prop :=
  (d = true → ∃ i, i < k ∧ (∀ j, j < i → gt j = false) ∧ gt i = true ∧ qs = xs.take i ++ [e] ++ (xs.take k).drop i) ∧ (d = false → (∀ j, j < k → gt j = false) ∧ qs = xs.take k)
theorem InsG.start {α : Type} (e : α) (gt : Nat → Bool) (xs : List α) : InsG e gt xs 0 false [] := ⟨fun h => (by cases h), fun _ => ⟨fun j hj => (by omega), rfl⟩⟩
theorem take_one {α : Type} {xs : List α} {k : Nat} {x : α} (hx : xs[k]? = some x) : xs.take (k + 1) = xs.take k ++ [x] := by
  rw [List.take_add_one, hx]; rfl
theorem InsG.skip {α : Type} {e x : α} {gt : Nat → Bool} {xs qs : List α} {k : Nat} (h : InsG e gt xs k false qs) (hx : xs[k]? = some x) (hg : gt k = false) : InsG e gt xs (k + 1) false (qs ++ [x]) := by
  obtain ⟨h1, h2⟩ := h.2 rfl
  refine ⟨fun h => (by cases h), fun _ => ⟨fun j hj => ?_, by rw [h2, take_one hx]⟩⟩
  by_cases hj2 : j < k
  · exact h1 j hj2
  · obtain rfl : j = k := by omega
    exact hg
theorem InsG.put {α : Type} {e x : α} {gt : Nat → Bool} {xs qs : List α} {k : Nat} (h : InsG e gt xs k false qs) (hx : xs[k]? = some x) (hg : gt k = true) : InsG e gt xs (k + 1) true (qs ++ [e] ++ [x]) := by
  obtain ⟨h1, h2⟩ := h.2 rfl
  refine ⟨fun _ => ⟨k, by omega, h1, hg, ?_⟩, fun h => (by cases h)⟩
  have hk : k < xs.length := (List.getElem?_eq_some_iff.1 hx).1
  rw [h2, take_one hx, List.drop_append, List.length_take, Nat.min_eq_left (by omega), Nat.sub_self, List.drop_eq_nil_of_le (by simp; omega)]
  simp
theorem InsG.more {α : Type} {e x : α} {gt : Nat → Bool} {xs qs : List α} {k : Nat} (h : InsG e gt xs k true qs) (hx : xs[k]? = some x) : InsG e gt xs (k + 1) true (qs ++ [x]) := by
  obtain ⟨i, h1, h2, h3, h4⟩ := h.1 rfl
  refine ⟨fun _ => ⟨i, by omega, h2, h3, ?_⟩, fun h => (by cases h)⟩
  have hk : k < xs.length := (List.getElem?_eq_some_iff.1 hx).1
  rw [h4, take_one hx, List.drop_append, List.length_take, Nat.min_eq_left (by omega), show i - k = 0 by omega]
  simp
theorem InsG.len {α : Type} {e : α} {gt : Nat → Bool} {xs qs : List α} {k : Nat} {d : Bool} (h : InsG e gt xs k d qs) (hk : k ≤ xs.length) : qs.length = k + d.toNat := by
  cases d with
  | true =>
    obtain ⟨i, h1, h2, h3, h4⟩ := h.1 rfl
    rw [h4]
    simp
    omega
  | false =>
    rw [(h.2 rfl).2]
    simp
    omega
/-- The whole list with e at its place. -/
def PutG {α : Type} (e : α) (gt : Nat → Bool) (xs ys : List α) : Prop := ∃ i, i ≤ xs.length ∧ (∀ j, j < i → gt j = false) ∧ (i < xs.length → gt i = true) ∧ ys = xs.take i ++ [e] ++ xs.drop i
theorem InsG.all {α : Type} {e : α} {gt : Nat → Bool} {xs qs : List α} (h : InsG e gt xs xs.length true qs) : PutG e gt xs qs := by
  obtain ⟨i, h1, h2, h3, h4⟩ := h.1 rfl
  exact ⟨i, by omega, h2, fun _ => h3, by rw [h4, List.take_length]⟩
theorem InsG.last {α : Type} {e : α} {gt : Nat → Bool} {xs qs : List α} (h : InsG e gt xs xs.length false qs) : PutG e gt xs (qs ++ [e]) := by
  obtain ⟨h1, h2⟩ := h.2 rfl
  exact ⟨xs.length, by omega, h1, fun h => by omega, by rw [h2]; simp⟩
theorem PutG.one {α : Type} {e : α} {gt : Nat → Bool} {xs ys zs : List α} (h : PutG e gt xs ys) (g : PutG e gt xs zs) : ys = zs := by
  obtain ⟨i, h1, h2, h3, h4⟩ := h
  obtain ⟨j, g1, g2, g3, g4⟩ := g
  obtain rfl : i = j := by
    rcases Nat.lt_trichotomy i j with hij | hij | hij
    · have := g2 i hij; rw [h3 (by omega)] at this; cases this
    · exact hij
    · have := h2 j hij; rw [g3 (by omega)] at this; cases this
  rw [h4, g4]
theorem putRg_is {e : Rg} {qs rs : List Rg} : PutRg e qs rs ↔ PutG e (fun j => decide (e.a < (rgAt qs j).a)) qs rs := by
  unfold PutRg PutG
  simp
theorem rgAt_some {rs : List Rg} {k : Nat} (h : k < rs.length) : rs[k]? = some (rgAt rs k) := by
  unfold rgAt
  rw [List.getD_eq_getElem?_getD, List.getElem?_eq_getElem h]
  rfl
/-- The boxes of GrowVpc, from the call of OwnVpc on. -/
structure TGo (w5 W : World) (vid : Int) (vX vS : Value) : Prop where
  ho : W.heap[w5.heap.size]? = some (vpB vid vX vS)
  below : Below w5.heap.size w5 W
theorem TGo.put {w5 W : World} {vid : Int} {vX vS u : Value} (h : TGo w5 W vid vX vS) : TGo w5 (W.setCell ⟨w5.heap.size, 1, none⟩ u) vid u vS := by
  refine ⟨?_, h.below.setCell (p := ⟨w5.heap.size, 1, none⟩) (Nat.le_refl _) _⟩
  have := heap_setCell_same W w5.heap.size 1 _ 25 u h.ho
  simpa using this
theorem TGo.later {w5 W W' : World} {vid : Int} {vX vS : Value} (h : TGo w5 W vid vX vS) (hb : Below W.heap.size W W') : TGo w5 W' vid vX vS := ⟨heap_later hb h.ho, h.below.trans (hb.mono h.below.size)⟩
/-- Behind an append to the row that is being made. -/
theorem TGo.grown {w5 W W' : World} {vid : Int} {vX vS : Value} {qs : List Rg} (h : TGo w5 W vid vX vS) (hq : OwnR W (w5.heap.size + 1) vX qs) (hg : W.grownBy W' vX.ownBlock) : TGo w5 W' vid vX vS :=
  ⟨grown_keep hg (hq.ne h.ho (by decide)) h.ho, below_grownr h.below hg (fun q e => by have := (hq.lt q e).1; omega)⟩
theorem rgs_cells (W : World) (r : Rg) : ∀ j u, (flatR [r])[j]? = some u → (W.alloc (.cells #[.int .i64 r.a, .int .i64 r.l, .int .i64 r.p] 60)).cell? (Addr.add ⟨W.heap.size, 0, none⟩ j) = some u := fun j u hj => by
  have hn := heap_new (W := W) (.cells #[.int .i64 r.a, .int .i64 r.l, .int .i64 r.p] 60) rfl
  rw [addr_add, Nat.zero_add]
  exact ((box_cells hn).1 j).trans (by rw [List.getElem?_toArray]; exact hj)

end Go.Proofs.Ytpdhipjeobchfaa
/- What DropVpc of the reference comes to. -/
namespace Go.Proofs.Ytpdhipjeobchfaa
open Go.RowKit Go.Shelf

/-- Of a right network no two ranges are the same. -/
theorem range_one {vid : Int} {rn : Nat} {rs : List Rg} {sn : Nat} {ss : List Sb} {c m : Int} (h : chkV vid rn rs sn ss = 0) {i j : Nat} (hj : j < rn) (hij : i < j) (h1 : rpB rs c m i = true) (h2 : rpB rs c m j = true) : False := by
  obtain ⟨-, hr, -⟩ := chkV_right h
  unfold rgsB at hr
  rw [Bool.and_eq_true, List.all_eq_true] at hr
  have h3 := hr.1 j (by simpa using hj)
  unfold rgsAt rgB at h3
  simp only [Bool.and_eq_true, Bool.not_eq_true'] at h3
  have h4 := h3.2
  unfold anyAt at h4
  rw [List.any_eq_false] at h4
  refine h4 i (List.mem_range.2 hij) ?_
  unfold rpB at h1 h2
  simp only [Bool.and_eq_true, decide_eq_true_eq] at h1 h2
  unfold rmB
  rw [h1.1, h1.2, h2.1, h2.2]
  have hrt := h3.1.1
  rw [h2.1, h2.2] at hrt
  have hp := sp_pos m
  exact mts_of hrt hrt (by omega) (by omega)
theorem range_pool {vid : Int} {rn : Nat} {rs : List Rg} {sn : Nat} {ss : List Sb} (h : chkV vid rn rs sn ss = 0) {j : Nat} (hj : j < rn) : (rgAt rs j).p ≠ 0 := by
  obtain ⟨-, hr, -⟩ := chkV_right h
  unfold rgsB at hr
  rw [Bool.and_eq_true, List.all_eq_true] at hr
  have h3 := hr.1 j (by simpa using hj)
  unfold rgsAt rgB wth at h3
  simp only [Bool.and_eq_true, decide_eq_true_eq] at h3
  omega
/-- The first k without the one that is sought, and that one, if there was one yet. -/
def CutR (rs : List Rg) (c m : Int) (k : Nat) (g : Rg) (qs : List Rg) : Prop :=
  ((∀ j, j < k → rpB rs c m j = false) ∧ g = ⟨0, 0, 0⟩ ∧ qs = rs.take k) ∨ ∃ i, i < k ∧ rpB rs c m i = true ∧ (∀ j, j < i → rpB rs c m j = false) ∧ g = rgAt rs i ∧ qs = rs.take i ++ (rs.take k).drop (i + 1)
theorem CutR.keep {rs : List Rg} {c m : Int} {k : Nat} {g : Rg} {qs : List Rg} (h : CutR rs c m k g qs) (hx : rs[k]? = some (rgAt rs k)) (hk : rpB rs c m k = false) : CutR rs c m (k + 1) g (qs ++ [rgAt rs k]) := by
  have hlen : k < rs.length := (List.getElem?_eq_some_iff.1 hx).1
  rcases h with ⟨h1, h2, h3⟩ | ⟨i, h1, h2, h3, h4, h5⟩
  · refine .inl ⟨fun j hj => ?_, h2, by rw [h3, take_one hx]⟩
    by_cases hj2 : j < k
    · exact h1 j hj2
    · obtain rfl : j = k := by omega
      exact hk
  · refine .inr ⟨i, by omega, h2, h3, h4, ?_⟩
    rw [h5, take_one hx, List.drop_append, List.length_take, Nat.min_eq_left (by omega), show i + 1 - k = 0 by omega]
    simp
theorem CutR.take {rs : List Rg} {c m : Int} {k : Nat} {g : Rg} {qs : List Rg} (h : CutR rs c m k g qs) (hx : rs[k]? = some (rgAt rs k)) (hk : rpB rs c m k = true) (hone : ∀ i, i < k → rpB rs c m i = true → False) : CutR rs c m (k + 1) (rgAt rs k) qs := by
  have hlen : k < rs.length := (List.getElem?_eq_some_iff.1 hx).1
  rcases h with ⟨h1, h2, h3⟩ | ⟨i, h1, h2, h3, h4, h5⟩
  · refine .inr ⟨k, by omega, hk, h1, rfl, ?_⟩
    rw [h3, List.drop_eq_nil_of_le (by simp; omega), List.append_nil]
  · exact absurd h2 (fun h => hone i h1 h)
theorem CutR.len {rs : List Rg} {c m : Int} {k : Nat} {g : Rg} {qs : List Rg} (h : CutR rs c m k g qs) (hk : k ≤ rs.length) : qs.length ≤ k := by
  rcases h with ⟨h1, h2, h3⟩ | ⟨i, h1, h2, h3, h4, h5⟩
  · rw [h3]; simp; omega
  · rw [h5]; simp; omega
/-- The box of the range that is gone. -/
abbrev rgX (g : Rg) : Obj := .cells #[.int .i64 g.a, .int .i64 g.l, .int .i64 g.p] 60
theorem rgX_set {V : World} {b : Nat} {g h : Rg} (hh : V.heap[b]? = some (rgX g)) : (((V.setCell ⟨b, 0, none⟩ (.int .i64 h.a)).setCell ⟨b, 1, none⟩ (.int .i64 h.l)).setCell ⟨b, 2, none⟩ (.int .i64 h.p)).heap[b]? = some (rgX h) := by
  have h1 := heap_setCell_same V b 0 _ 60 (.int .i64 h.a) hh
  have h2 := heap_setCell_same _ b 1 _ 60 (.int .i64 h.l) h1
  have h3 := heap_setCell_same _ b 2 _ 60 (.int .i64 h.p) h2
  simpa using h3

end Go.Proofs.Ytpdhipjeobchfaa
/- The law VpcRanges. -/
namespace Go.Proofs.Ytpdhipjeobchfaa
open Go.RowKit Go.Shelf

theorem sameFs.symm {a b : List Fc} (h : sameFs a b) : sameFs b a := ⟨h.1.symm, fun i hi => by
  obtain ⟨h1, h2, h3⟩ := h.2 i (by rw [h.1]; exact hi)
  exact ⟨h1.symm, h2.symm, h3.symm⟩⟩
theorem sameSs.symm {a b : List Sb} (h : sameSs a b) : sameSs b a := ⟨h.1.symm, fun i hi => by
  obtain ⟨h1, h2, h3, h4, h5⟩ := h.2 i (by rw [h.1]; exact hi)
  exact ⟨h1.symm, h2.symm, h3.symm, h4.symm, h5.symm⟩⟩
theorem sameSs.trans {a b c : List Sb} (h : sameSs a b) (g : sameSs b c) : sameSs a c := ⟨h.1.trans g.1, fun i hi => by
  obtain ⟨h1, h2, h3, h4, h5⟩ := h.2 i hi
  obtain ⟨g1, g2, g3, g4, g5⟩ := g.2 i (by rw [← h.1]; exact hi)
  exact ⟨h1.trans g1, h2.trans g2, h3.trans g3, h4.trans g4, h5.trans g5⟩⟩
theorem NV.zero (w : World) : NV w 0 (.agg #[.int .i64 0, .slice none 0 0, .slice none 0 0]) [] [] :=
  ⟨none, 0, none, 0, rfl, ⟨by simp, by simp, ⟨rfl, fun i hi => by simp at hi⟩, ⟨rfl, fun i hi => by simp at hi, fun i hi => by simp at hi⟩⟩, by omega, by omega⟩
/-- Two networks in memory that are the same. -/
theorem sameVpcs_nv {w : World} {i : Int} {A B : Value} {rs : List Rg} {ss ts : List Sb} (hA : NV w i A rs ss) (hB : NV w i B rs ts) (hs : sameSs ss ts) :
    Calls Try.prog 9 #[A, B] w fun e w' => e = .returned (.bool true) ∧ Below w.heap.size w w' := by
  obtain ⟨rx, rc, sx, sc, rfl, hv, h1, h2⟩ := hA
  obtain ⟨ry, rd, sy, sd, rfl, hu, h3, h4⟩ := hB
  rw [← hs.1] at hu ⊢
  exact sameVpcs_yes i rx ry rs.length rc rd rs sx sy ss.length sc sd ss ts w hv hu hs (Nat.le_trans hv.1 h1) (Nat.le_trans hv.2 h2)
def GrowKey (vid : Int) (rs : List Rg) (ss : List Sb) (r : Rg) (E i : Int) (rs' : List Rg) (ss' : List Sb) : Prop := (E ≠ 0 → i = 0 ∧ rs' = [] ∧ ss' = []) ∧ (E = 0 → i = vid ∧ PutRg r rs rs' ∧ sameSs ss ss')
theorem GrowPost.nv {vid : Int} {rn : Nat} {rs : List Rg} {sn : Nat} {ss : List Sb} {r : Rg} {w w' : World} {e : Ending} (h : GrowPost vid rn rs sn ss r w e w') :
    ∃ i V rs' ss', e = .returned (.tuple #[V, .int .i64 (growE vid rn rs sn ss r)]) ∧ Below w.heap.size w w' ∧ NV w' i V rs' ss' ∧ GrowKey vid rs ss r (growE vid rn rs sn ss r) i rs' ss' := by
  obtain ⟨V, he, hb, hz, hk⟩ := h
  by_cases h0 : growE vid rn rs sn ss r = 0
  · obtain ⟨rs', ss', h1, h2, h3⟩ := hk h0
    exact ⟨vid, V, rs', ss', he, hb, h1, fun h => absurd h0 h, fun _ => ⟨rfl, h2, h3⟩⟩
  · obtain rfl := hz h0
    exact ⟨0, _, [], [], he, hb, NV.zero _, fun _ => ⟨rfl, rfl, rfl⟩, fun h => absurd h h0⟩
theorem GrowKey.one {vid : Int} {rs : List Rg} {ss : List Sb} {r : Rg} {E i j : Int} {rs1 rs2 : List Rg} {ss1 ss2 : List Sb} (h : GrowKey vid rs ss r E i rs1 ss1) (g : GrowKey vid rs ss r E j rs2 ss2) : i = j ∧ rs1 = rs2 ∧ sameSs ss1 ss2 := by
  by_cases h0 : E = 0
  · obtain ⟨a1, a2, a3⟩ := h.2 h0
    obtain ⟨b1, b2, b3⟩ := g.2 h0
    exact ⟨a1.trans b1.symm, (putRg_is.1 a2).one (putRg_is.1 b2), a3.symm.trans b3⟩
  · obtain ⟨a1, a2, a3⟩ := h.1 h0
    obtain ⟨b1, b2, b3⟩ := g.1 h0
    exact ⟨a1.trans b1.symm, a2.trans b2.symm, by rw [a3, b3]; exact sameSs.refl _⟩
def DropKey (vid : Int) (rn : Nat) (rs : List Rg) (ss : List Sb) (c m E i : Int) (g : Rg) (rs' : List Rg) (ss' : List Sb) : Prop :=
  (E ≠ 0 → i = 0 ∧ g = ⟨0, 0, 0⟩ ∧ rs' = [] ∧ ss' = []) ∧ (E = 0 → i = vid ∧ sameSs ss ss' ∧ ∃ k, k < rn ∧ rpB rs c m k = true ∧ (∀ j, j < k → rpB rs c m j = false) ∧ g = rgAt rs k ∧ rs' = rs.take k ++ rs.drop (k + 1))
theorem DropPost.nv {vid : Int} {rn : Nat} {rs : List Rg} {sn : Nat} {ss : List Sb} {c m : Int} {w w' : World} {e : Ending} (h : DropPost vid rn rs sn ss c m w e w') :
    ∃ i V g rs' ss', e = .returned (.tuple #[V, .agg #[.int .i64 (Rg.a g), .int .i64 g.l, .int .i64 g.p], .int .i64 (dropE vid rn rs sn ss c m)]) ∧ Below w.heap.size w w' ∧ NV w' i V rs' ss' ∧ DropKey vid rn rs ss c m (dropE vid rn rs sn ss c m) i g rs' ss' := by
  obtain ⟨V, g, he, hb, hz, hk⟩ := h
  by_cases h0 : dropE vid rn rs sn ss c m = 0
  · obtain ⟨ts, k, h1, h2, h3, h4, h5, h6⟩ := hk h0
    exact ⟨vid, V, g, _, ts, he, hb, h6, fun h => absurd h0 h, fun _ => ⟨rfl, h1, k, h2, h3, h4, h5, rfl⟩⟩
  · obtain ⟨rfl, rfl⟩ := hz h0
    exact ⟨0, _, _, [], [], he, hb, NV.zero _, fun _ => ⟨rfl, rfl, rfl, rfl⟩, fun h => absurd h h0⟩
theorem DropKey.one {vid : Int} {rn : Nat} {rs : List Rg} {ss : List Sb} {c m E i j : Int} {g g2 : Rg} {rs1 rs2 : List Rg} {ss1 ss2 : List Sb} (h : DropKey vid rn rs ss c m E i g rs1 ss1) (h2 : DropKey vid rn rs ss c m E j g2 rs2 ss2) : i = j ∧ g = g2 ∧ rs1 = rs2 ∧ sameSs ss1 ss2 := by
  by_cases h0 : E = 0
  · obtain ⟨a1, a2, k, a3, a4, a5, a6, a7⟩ := h.2 h0
    obtain ⟨b1, b2, q, b3, b4, b5, b6, b7⟩ := h2.2 h0
    obtain rfl : k = q := by
      rcases Nat.lt_trichotomy k q with hkq | hkq | hkq
      · have := b5 k hkq; rw [a4] at this; cases this
      · exact hkq
      · have := a5 q hkq; rw [b4] at this; cases this
    exact ⟨a1.trans b1.symm, a6.trans b6.symm, a7.trans b7.symm, a2.symm.trans b2⟩
  · obtain ⟨a1, a2, a3, a4⟩ := h.1 h0
    obtain ⟨b1, b2, b3, b4⟩ := h2.1 h0
    exact ⟨a1.trans b1.symm, a2.trans b2.symm, a3.trans b3.symm, by rw [a4, b4]; exact sameSs.refl _⟩

end Go.Proofs.Ytpdhipjeobchfaa
/- What SubVpc of the reference comes to. -/
namespace Go.Proofs.Ytpdhipjeobchfaa
open Go.RowKit Go.Shelf

theorem putSb_is {e : Sb} {qs rs : List Sb} : PutSb e qs rs ↔ PutG e (fun j => decide (e.id < (sbAt qs j).id)) qs rs := by
  unfold PutSb PutG
  simp
theorem sbAt_some {rs : List Sb} {k : Nat} (h : k < rs.length) : rs[k]? = some (sbAt rs k) := by
  unfold sbAt
  rw [List.getD_eq_getElem?_getD, List.getElem?_eq_getElem h]
  rfl
theorem InsG.mem {α : Type} {e : α} {gt : Nat → Bool} {xs qs : List α} {k : Nat} {d : Bool} (h : InsG e gt xs k d qs) : ∀ q ∈ qs, q = e ∨ q ∈ xs := fun q hq => by
  cases d with
  | true =>
    obtain ⟨i, -, -, -, h4⟩ := h.1 rfl
    rw [h4] at hq
    simp only [List.mem_append, List.mem_singleton] at hq
    rcases hq with (hq | hq) | hq
    · exact .inr (List.mem_of_mem_take hq)
    · exact .inl hq
    · exact .inr (List.mem_of_mem_take (List.mem_of_mem_drop hq))
  | false =>
    rw [(h.2 rfl).2] at hq
    exact .inr (List.mem_of_mem_take hq)
/-- The box of the network that is being made, from the call of OwnVpc on. -/
structure TSo (w5 W : World) (vid : Int) (vR vX : Value) : Prop where
  ho : W.heap[w5.heap.size]? = some (vpB vid vR vX)
  below : Below w5.heap.size w5 W
theorem TSo.put {w5 W : World} {vid : Int} {vR vX u : Value} (h : TSo w5 W vid vR vX) : TSo w5 (W.setCell ⟨w5.heap.size, 2, none⟩ u) vid vR u := by
  refine ⟨?_, h.below.setCell (p := ⟨w5.heap.size, 2, none⟩) (Nat.le_refl _) _⟩
  have := heap_setCell_same W w5.heap.size 2 _ 25 u h.ho
  simpa using this
theorem TSo.later {w5 W W' : World} {vid : Int} {vR vX : Value} (h : TSo w5 W vid vR vX) (hb : Below W.heap.size W W') : TSo w5 W' vid vR vX := ⟨heap_later hb h.ho, h.below.trans (hb.mono h.below.size)⟩
theorem TSo.grown {w5 W W' : World} {vid : Int} {vR vX : Value} {qs : List Sb} (h : TSo w5 W vid vR vX) (hq : OwnS W (w5.heap.size + 1) vX qs) (hg : W.grownBy W' vX.ownBlock) : TSo w5 W' vid vR vX :=
  ⟨grown_keep hg (hq.ne h.ho (by decide)) h.ho, below_grownr h.below hg (fun q e => by have := (hq.lt q e).1; omega)⟩
theorem sbs_cells (W : World) (r : Sb) : ∀ j u, (flatS [r])[j]? = some u → (W.alloc (.cells #[.int .i64 r.id, .int .i64 r.a, .int .i64 r.l, .slice r.x r.n r.c] 42)).cell? (Addr.add ⟨W.heap.size, 0, none⟩ j) = some u := fun j u hj => by
  have hn := heap_new (W := W) (.cells #[.int .i64 r.id, .int .i64 r.a, .int .i64 r.l, .slice r.x r.n r.c] 42) rfl
  rw [addr_add, Nat.zero_add]
  exact ((box_cells hn).1 j).trans (by rw [List.getElem?_toArray]; exact hj)
/-- Is the k-th subnet in the way of a new one? -/
def hitB (ss : List Sb) (id c m : Int) (k : Nat) : Bool := decide ((sbAt ss k).id = id) || mts (sbAt ss k).a (sbAt ss k).l c m
theorem hit_iff {sn : Nat} {ss : List Sb} {id c m : Int} : (0 ≤ fstAt sn (fun i => (sbAt ss i).id == id) ∨ anyAt sn (smB ss c m) = true) ↔ anyAt sn (hitB ss id c m) = true := by
  constructor
  · rintro (h | h)
    · rcases fstAt_cases sn (fun i => (sbAt ss i).id == id) with ⟨i, hi, hf, -⟩ | ⟨-, hf⟩
      · exact List.any_eq_true.2 ⟨i, List.mem_range.2 hi, by unfold hitB; simp at hf; simp [hf]⟩
      · rw [hf] at h; omega
    · obtain ⟨i, hi, hf⟩ := anyAt_ex h
      exact List.any_eq_true.2 ⟨i, List.mem_range.2 hi, by unfold hitB; unfold smB at hf; simp [hf]⟩
  · intro h
    obtain ⟨i, hi, hf⟩ := anyAt_ex h
    unfold hitB at hf
    rw [Bool.or_eq_true] at hf
    rcases hf with hf | hf
    · left
      rcases fstAt_cases sn (fun i => (sbAt ss i).id == id) with ⟨q, hq, -, -, hfq⟩ | ⟨hno, -⟩
      · rw [hfq]; omega
      · have := hno i hi
        simp at this hf
        exact absurd hf this
    · exact .inr (List.any_eq_true.2 ⟨i, List.mem_range.2 hi, hf⟩)

end Go.Proofs.Ytpdhipjeobchfaa
/- What subAt, faceAt and UnsubVpc of the reference come to. -/
namespace Go.Proofs.Ytpdhipjeobchfaa
open Go.RowKit Go.Shelf

/-- append(s[:i], s[i+1:]...) of a row of subs of the call's own. -/
theorem cutS_run (base g k cap i : Nat) (es : List Sb) (w : World) (hO : OwnS w base (.slice (some ⟨g, 0, none⟩) (k + 1) cap) es) (hn : es.length = k + 1) (hi : i ≤ k) (hnc : k + 1 ≤ cap) :
    ∃ wa, (∀ q c', ((cap = i + 1 ∧ q = 0 ∧ c' = 0) ∨ (¬ cap = i + 1 ∧ q = (i + 1) * 4 ∧ c' = cap - (i + 1))) → (Builtin.append_ #[23, 23] 23 #[.slice (some ⟨g, 0, none⟩) i cap, .slice (some ⟨g, q, none⟩) (k - i) c']).run Try.prog w = .ok (.slice (some ⟨g, 0, none⟩) k cap) wa) ∧
      OwnS wa base (.slice (some ⟨g, 0, none⟩) k cap) (es.take i ++ es.drop (i + 1)) ∧ w.grownBy wa (some g) := by
  obtain ⟨i0, hi0, hz0, hz1, hz2⟩ := info_S'
  have hlt : (es.take i).length = i := by rw [List.length_take]; omega
  have hld : (es.drop (i + 1)).length = k - i := by rw [List.length_drop]; omega
  have hle : (es.take i ++ es.drop (i + 1)).length = k := by rw [List.length_append, hlt, hld]; omega
  have hOi := hO.take i (by omega)
  unfold OwnS at hOi
  rw [hlt] at hOi
  have Run_S : RunS w (some ⟨g, 0, none⟩) (k + 1) es := ⟨hn, fun _ => by simp, fun ad hx q u hq => by cases hx; exact World.ownsRow.cells hO (g := g) rfl q u hq⟩
  have hrun := Run_S.drop (i := i + 1) (c := cap) (by omega) hnc
  have hik : i + (k - i) = k := by omega
  by_cases hcj : cap = i + 1
  · rw [if_pos hcj] at hrun
    obtain ⟨wa, h1, h2, h3⟩ := run_append_own_spare (P := Try.prog) w base 23 23 42 i0 4 under_S hi0 hz1 g i cap _ hOi ⟨g, 0, none⟩ (k - i) 0 (flatS (es.drop (i + 1))) (by rw [flatS_len, hld]) (hrun.2.2 _ rfl) (flatS_one _) (by omega)
    rw [hik] at h1 h2
    have hO2 : OwnS wa base (.slice (some ⟨g, 0, none⟩) k cap) (es.take i ++ es.drop (i + 1)) := by unfold OwnS; rw [flatS_app, hle]; exact h2
    refine ⟨wa, fun q c' h => ?_, hO2, h3⟩
    rcases h with ⟨-, rfl, rfl⟩ | ⟨h, -⟩
    · exact h1
    · exact absurd hcj h
  · rw [if_neg hcj, Nat.zero_add] at hrun
    obtain ⟨wa, h1, h2, h3⟩ := run_append_own_spare (P := Try.prog) w base 23 23 42 i0 4 under_S hi0 hz1 g i cap _ hOi ⟨g, (i + 1) * 4, none⟩ (k - i) (cap - (i + 1)) (flatS (es.drop (i + 1))) (by rw [flatS_len, hld]) (hrun.2.2 _ rfl) (flatS_one _) (by omega)
    rw [hik] at h1 h2
    have hO2 : OwnS wa base (.slice (some ⟨g, 0, none⟩) k cap) (es.take i ++ es.drop (i + 1)) := by unfold OwnS; rw [flatS_app, hle]; exact h2
    refine ⟨wa, fun q c' h => ?_, hO2, h3⟩
    rcases h with ⟨h, -⟩ | ⟨-, rfl, rfl⟩
    · exact absurd h hcj
    · exact h1

/-- append(s[:i], s[i+1:]...) of a row of faces of the call's own. -/
theorem cutF_run (base g k cap i : Nat) (es : List Fc) (w : World) (hO : OwnF w base (.slice (some ⟨g, 0, none⟩) (k + 1) cap) es) (hn : es.length = k + 1) (hi : i ≤ k) (hnc : k + 1 ≤ cap) :
    ∃ wa, (∀ q c', ((cap = i + 1 ∧ q = 0 ∧ c' = 0) ∨ (¬ cap = i + 1 ∧ q = (i + 1) * 2 ∧ c' = cap - (i + 1))) → (Builtin.append_ #[40, 40] 40 #[.slice (some ⟨g, 0, none⟩) i cap, .slice (some ⟨g, q, none⟩) (k - i) c']).run Try.prog w = .ok (.slice (some ⟨g, 0, none⟩) k cap) wa) ∧
      OwnF wa base (.slice (some ⟨g, 0, none⟩) k cap) (es.take i ++ es.drop (i + 1)) ∧ w.grownBy wa (some g) := by
  obtain ⟨i0, hi0, hz0, hz1, hz2⟩ := info_F'
  have hlt : (es.take i).length = i := by rw [List.length_take]; omega
  have hld : (es.drop (i + 1)).length = k - i := by rw [List.length_drop]; omega
  have hle : (es.take i ++ es.drop (i + 1)).length = k := by rw [List.length_append, hlt, hld]; omega
  have hOi := hO.take i (by omega)
  unfold OwnF at hOi
  rw [hlt] at hOi
  have Run_F : RunF w (some ⟨g, 0, none⟩) (k + 1) es := ⟨hn, fun _ => by simp, fun ad hx q u hq => by cases hx; exact World.ownsRow.cells hO (g := g) rfl q u hq⟩
  have hrun := Run_F.drop (i := i + 1) (c := cap) (by omega) hnc
  have hik : i + (k - i) = k := by omega
  by_cases hcj : cap = i + 1
  · rw [if_pos hcj] at hrun
    obtain ⟨wa, h1, h2, h3⟩ := run_append_own_spare (P := Try.prog) w base 40 40 47 i0 2 under_F hi0 hz1 g i cap _ hOi ⟨g, 0, none⟩ (k - i) 0 (flatF (es.drop (i + 1))) (by rw [flatF_len, hld]) (hrun.2.2 _ rfl) (flatF_one _) (by omega)
    rw [hik] at h1 h2
    have hO2 : OwnF wa base (.slice (some ⟨g, 0, none⟩) k cap) (es.take i ++ es.drop (i + 1)) := by unfold OwnF; rw [flatF_app, hle]; exact h2
    refine ⟨wa, fun q c' h => ?_, hO2, h3⟩
    rcases h with ⟨-, rfl, rfl⟩ | ⟨h, -⟩
    · exact h1
    · exact absurd hcj h
  · rw [if_neg hcj, Nat.zero_add] at hrun
    obtain ⟨wa, h1, h2, h3⟩ := run_append_own_spare (P := Try.prog) w base 40 40 47 i0 2 under_F hi0 hz1 g i cap _ hOi ⟨g, (i + 1) * 2, none⟩ (k - i) (cap - (i + 1)) (flatF (es.drop (i + 1))) (by rw [flatF_len, hld]) (hrun.2.2 _ rfl) (flatF_one _) (by omega)
    rw [hik] at h1 h2
    have hO2 : OwnF wa base (.slice (some ⟨g, 0, none⟩) k cap) (es.take i ++ es.drop (i + 1)) := by unfold OwnF; rw [flatF_app, hle]; exact h2
    refine ⟨wa, fun q c' h => ?_, hO2, h3⟩
    rcases h with ⟨h, -⟩ | ⟨-, rfl, rfl⟩
    · exact absurd h hcj
    · exact h1

theorem wpList_append_runv {w w' : World} {ops : Array Oper} {rest : List Oper} {o : Oper} {a : Act} {Q : Exit → Act → World → Prop} (hgd : o.guard = none) (s x : Operand) (t : TypeId)
    (ho : o.op = .call { callee := .builtin .append, args := #[s, x], argTypes := #[t, t] }) (u v r : Value) (hs : a.eval s = u) (hx : a.eval x = v) (hrun : (Builtin.append_ #[t, t] o.type #[u, v]).run Try.prog w = .ok r w')
    (h : wpList Try.prog ops Q rest (a.put o.dst r) w') : wpList Try.prog ops Q (o :: rest) a w := by
  refine wpList_plain hgd fun K hK => ?_
  unfold Oper.wp
  simp [execOp, ho, resolve, invoke, builtin, hs, hx, hrun, Result.andThen]
  exact hK _ _ h


end Go.Proofs.Ytpdhipjeobchfaa
/- What least of the reference comes to. -/
namespace Go.Proofs.Ytpdhipjeobchfaa
open Go.RowKit Go.Shelf

theorem allNs_snoc (fs : List Fc) (k : Nat) (hk : k < fs.length) : allNs (fs.take (k + 1)) = allNs (fs.take k) ++ (fcAt fs k).ns := by
  have h : fs[k]? = some (fcAt fs k) := by
    unfold fcAt
    rw [List.getD_eq_getElem?_getD, List.getElem?_eq_getElem hk]
    rfl
  rw [take_one h]
  simp [allNs]
theorem inAt_some {ns : List Int} {k : Nat} (h : k < ns.length) : ns[k]? = some (inAt ns k) := by
  unfold inAt
  rw [List.getD_eq_getElem?_getD, List.getElem?_eq_getElem h]
  rfl
theorem free_next (t t' : Bool) (ns : List Int) (j : Nat) (y x : Int) (hx : ns[j]? = some x) (h : t' = (t && !decide (y ∈ ns.take j))) : (t && !decide (y ∈ ns.take (j + 1))) = (t' && decide (x ≠ y)) := by
  rw [h, take_one hx]
  have e : decide (y ∈ ns.take j ++ [x]) = (decide (y ∈ ns.take j) || decide (x = y)) := by
    rw [Bool.eq_iff_iff]
    simp only [List.mem_append, List.mem_singleton, decide_eq_true_eq, Bool.or_eq_true]
    exact ⟨fun h => h.imp (fun h => h) (fun h => h.symm), fun h => h.imp (fun h => h) (fun h => h.symm)⟩
  have e2 : decide (x ≠ y) = !decide (x = y) := by simp
  rw [e, e2]
  cases t <;> cases decide (y ∈ ns.take j) <;> cases decide (x = y) <;> rfl
theorem free_end (b : Bool) (A B : List Int) (y : Int) : ((b && !decide (y ∈ A)) && !decide (y ∈ B)) = (b && !decide (y ∈ A ++ B)) := by
  have e : decide (y ∈ A ++ B) = (decide (y ∈ A) || decide (y ∈ B)) := by
    rw [Bool.eq_iff_iff]
    simp
  rw [e]
  cases b <;> cases decide (y ∈ A) <;> cases decide (y ∈ B) <;> rfl
def LeastRPost (s : Sb) (w : World) (e : Ending) (w' : World) : Prop :=
  Below w.heap.size w w' ∧ ((∃ y, e = .returned (.int .i64 y) ∧ 0 ≤ y ∧ Least s y) ∨ (e = .returned (.int .i64 (-1)) ∧ ∀ z, usB s.a s.l z = true → z ∈ allNs s.fs))

end Go.Proofs.Ytpdhipjeobchfaa
/- The law VpcSubs. -/
namespace Go.Proofs.Ytpdhipjeobchfaa
open Go.RowKit Go.Shelf

theorem get_ins {α : Type} (xs : List α) (p : Nat) (hp : p ≤ xs.length) (e : α) (j : Nat) : (xs.take p ++ [e] ++ xs.drop p)[j]? = if j < p then xs[j]? else if j = p then some e else xs[j - 1]? := by
  have hl : (xs.take p).length = p := by rw [List.length_take]; omega
  by_cases h1 : j < p
  · rw [if_pos h1, List.append_assoc, List.getElem?_append_left (by omega), List.getElem?_take, if_pos h1]
  · rw [if_neg h1]
    by_cases h2 : j = p
    · subst h2
      rw [if_pos rfl, List.append_assoc, List.getElem?_append_right (by omega), hl, Nat.sub_self]
      rfl
    · rw [if_neg h2, List.getElem?_append_right (by simp; omega), List.length_append, hl, List.getElem?_drop]
      congr 1
      simp
      omega
theorem get_cut {α : Type} (xs : List α) (p : Nat) (hp : p < xs.length) (j : Nat) : (xs.take p ++ xs.drop (p + 1))[j]? = if j < p then xs[j]? else xs[j + 1]? := by
  have hl : (xs.take p).length = p := by rw [List.length_take]; omega
  by_cases h1 : j < p
  · rw [if_pos h1, List.getElem?_append_left (by omega), List.getElem?_take, if_pos h1]
  · rw [if_neg h1, List.getElem?_append_right (by omega), hl, List.getElem?_drop]
    congr 1
    omega
theorem sbAt_ins {ts : List Sb} {p : Nat} (hp : p ≤ ts.length) (e : Sb) (j : Nat) : sbAt (ts.take p ++ [e] ++ ts.drop p) j = if j < p then sbAt ts j else if j = p then e else sbAt ts (j - 1) := by
  unfold sbAt
  rw [List.getD_eq_getElem?_getD, get_ins ts p hp]
  split
  · rw [List.getD_eq_getElem?_getD]
  · split
    · rfl
    · rw [List.getD_eq_getElem?_getD]
theorem sbAt_cut {ts : List Sb} {p : Nat} (hp : p < ts.length) (j : Nat) : sbAt (ts.take p ++ ts.drop (p + 1)) j = if j < p then sbAt ts j else sbAt ts (j + 1) := by
  unfold sbAt
  rw [List.getD_eq_getElem?_getD, get_cut ts p hp]
  split <;> rw [List.getD_eq_getElem?_getD]
theorem sameSs.ins {a b : List Sb} {p : Nat} {e : Sb} (h : sameSs a b) (hp : p ≤ a.length) : sameSs (a.take p ++ [e] ++ a.drop p) (b.take p ++ [e] ++ b.drop p) := by
  have hpb : p ≤ b.length := by rw [← h.1]; exact hp
  refine ⟨by simp [h.1], fun j hj => ?_⟩
  rw [sbAt_ins hp, sbAt_ins hpb]
  have hj' : j < a.length + 1 := by simp at hj; omega
  split
  · exact h.2 j (by omega)
  · split
    · exact sameS.refl _
    · exact h.2 (j - 1) (by omega)
theorem sameSs.del {a b : List Sb} {p : Nat} (h : sameSs a b) (hp : p < a.length) : sameSs (a.take p ++ a.drop (p + 1)) (b.take p ++ b.drop (p + 1)) := by
  have hpb : p < b.length := by rw [← h.1]; exact hp
  refine ⟨by simp [h.1], fun j hj => ?_⟩
  rw [sbAt_cut hp, sbAt_cut hpb]
  have hj' : j < a.length - 1 := by simp at hj; omega
  split
  · exact h.2 j (by omega)
  · exact h.2 (j + 1) (by omega)
theorem PutSb.same {e : Sb} {a b x y : List Sb} (h : PutSb e a x) (g : PutSb e b y) (hs : sameSs a b) : sameSs x y := by
  obtain ⟨i, h1, h2, h3, rfl⟩ := h
  obtain ⟨j, g1, g2, g3, rfl⟩ := g
  have hl := hs.1
  obtain rfl : i = j := by
    rcases Nat.lt_trichotomy i j with hij | hij | hij
    · have := g2 i hij; rw [← (hs.2 i (by omega)).1] at this; exact absurd (h3 (by omega)) this
    · exact hij
    · have := h2 j hij; rw [(hs.2 j (by omega)).1] at this; exact absurd (g3 (by omega)) this
  exact hs.ins h1
def SubKey (vid : Int) (rs : List Rg) (ss : List Sb) (id c m E i : Int) (rs' : List Rg) (ss' : List Sb) : Prop := (E ≠ 0 → i = 0 ∧ rs' = [] ∧ ss' = []) ∧ (E = 0 → i = vid ∧ rs' = rs ∧ ∃ ts, sameSs ss ts ∧ PutSb ⟨id, c, m, none, 0, 0, []⟩ ts ss')
theorem sub_nv {vid : Int} {rs : List Rg} {ss : List Sb} {id c m E : Int} {w w' : World} {e : Ending} (h : VPost E (SubR vid rs ss id c m) w e w') :
    ∃ i V rs' ss', e = .returned (.tuple #[V, .int .i64 E]) ∧ Below w.heap.size w w' ∧ NV w' i V rs' ss' ∧ SubKey vid rs ss id c m E i rs' ss' := by
  obtain ⟨V, he, hb, hz, hk⟩ := h
  by_cases h0 : E = 0
  · obtain ⟨ts, ss', h1, h2, h3⟩ := hk h0
    exact ⟨vid, V, rs, ss', he, hb, h1, fun h => absurd h0 h, fun _ => ⟨rfl, rfl, ts, h2, h3⟩⟩
  · obtain rfl := hz h0
    exact ⟨0, _, [], [], he, hb, NV.zero _, fun _ => ⟨rfl, rfl, rfl⟩, fun h => absurd h h0⟩
theorem SubKey.one {vid : Int} {rs : List Rg} {ss : List Sb} {id c m E i j : Int} {rs1 rs2 : List Rg} {ss1 ss2 : List Sb} (h : SubKey vid rs ss id c m E i rs1 ss1) (g : SubKey vid rs ss id c m E j rs2 ss2) : i = j ∧ rs1 = rs2 ∧ sameSs ss1 ss2 := by
  by_cases h0 : E = 0
  · obtain ⟨a1, a2, ts, a3, a4⟩ := h.2 h0
    obtain ⟨b1, b2, us, b3, b4⟩ := g.2 h0
    exact ⟨a1.trans b1.symm, a2.trans b2.symm, a4.same b4 (a3.symm.trans b3)⟩
  · obtain ⟨a1, a2, a3⟩ := h.1 h0
    obtain ⟨b1, b2, b3⟩ := g.1 h0
    exact ⟨a1.trans b1.symm, a2.trans b2.symm, by rw [a3, b3]; exact sameSs.refl _⟩
def UnsubKey (vid : Int) (rs : List Rg) (ss : List Sb) (id E i : Int) (rs' : List Rg) (ss' : List Sb) : Prop := (E ≠ 0 → i = 0 ∧ rs' = [] ∧ ss' = []) ∧ (E = 0 → i = vid ∧ rs' = rs ∧ ∃ ts k, sameSs ss ts ∧ k < ts.length ∧ (sbAt ss k).id = id ∧ (∀ j, j < k → (sbAt ss j).id ≠ id) ∧ ss' = ts.take k ++ ts.drop (k + 1))
theorem unsub_nv {vid : Int} {rs : List Rg} {ss : List Sb} {id E : Int} {w w' : World} {e : Ending} (h : VPost E (UnsubR vid rs ss id) w e w') :
    ∃ i V rs' ss', e = .returned (.tuple #[V, .int .i64 E]) ∧ Below w.heap.size w w' ∧ NV w' i V rs' ss' ∧ UnsubKey vid rs ss id E i rs' ss' := by
  obtain ⟨V, he, hb, hz, hk⟩ := h
  by_cases h0 : E = 0
  · obtain ⟨ts, k, h1, h2, h3, h4, h5⟩ := hk h0
    exact ⟨vid, V, rs, _, he, hb, h5, fun h => absurd h0 h, fun _ => ⟨rfl, rfl, ts, k, h1, h2, h3, h4, rfl⟩⟩
  · obtain rfl := hz h0
    exact ⟨0, _, [], [], he, hb, NV.zero _, fun _ => ⟨rfl, rfl, rfl⟩, fun h => absurd h h0⟩
theorem UnsubKey.one {vid : Int} {rs : List Rg} {ss : List Sb} {id E i j : Int} {rs1 rs2 : List Rg} {ss1 ss2 : List Sb} (h : UnsubKey vid rs ss id E i rs1 ss1) (g : UnsubKey vid rs ss id E j rs2 ss2) : i = j ∧ rs1 = rs2 ∧ sameSs ss1 ss2 := by
  by_cases h0 : E = 0
  · obtain ⟨a1, a2, ts, k, a3, a4, a5, a6, rfl⟩ := h.2 h0
    obtain ⟨b1, b2, us, q, b3, b4, b5, b6, rfl⟩ := g.2 h0
    obtain rfl : k = q := by
      rcases Nat.lt_trichotomy k q with hkq | hkq | hkq
      · exact absurd a5 (b6 k hkq)
      · exact hkq
      · exact absurd b5 (a6 q hkq)
    exact ⟨a1.trans b1.symm, a2.trans b2.symm, (a3.symm.trans b3).del a4⟩
  · obtain ⟨a1, a2, a3⟩ := h.1 h0
    obtain ⟨b1, b2, b3⟩ := g.1 h0
    exact ⟨a1.trans b1.symm, a2.trans b2.symm, by rw [a3, b3]; exact sameSs.refl _⟩

end Go.Proofs.Ytpdhipjeobchfaa
