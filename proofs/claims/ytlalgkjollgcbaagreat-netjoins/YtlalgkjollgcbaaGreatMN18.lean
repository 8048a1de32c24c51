/- A law of my own: a region that draws its order, walked by hand: plain operations are taken first, the others in all orders, a tail that waits for all in its one order. -/
import Derived.Test.YtlalgkjollgcbaaGreatMN01
import Derived.OrdersHeld
import Derived.StillTail
import Derived.Test.YtlalgkjollgcbaaGreatMN17
import Derived.Test.YtlalgkjollgcbaaGreatMN12
import Derived.Laws.AppendOwnNone
import Derived.Test.YtlalgkjollgcbaaGreatMN16
import Derived.Lib.SliceRun
import Derived.Lib.AppendZerosOnto
import Derived.Lib.AppendZeros
import Derived.Deep.RegionHeld3
namespace Go.Proofs.YtlalgkjollgcbaaGreat
open Go.RowKit

/-- An operation that is no call, and changes nothing. -/
def plV (o : Oper) : Bool := match o.op with
  | .move _ | .assign _ => true
  | .load _ _ => true
  | .fieldAddr _ _ _ => true
  | .indexAddr _ _ _ => true
  | .build _ _ => true
  | .binOp _ _ _ _ _ => true
  | .slice _ _ _ _ _ => true
  | .unOp _ _ _ => true
  | _ => false
theorem plV_andThen {s : Result Value} {n : Next} {w' : World} (h : (s.andThen fun x w => Result.ok (Next.value x) w) = .ok n w') : ∃ u, n = .value u := by
  cases s with
  | ok x w => simp only [Result.andThen, Result.ok.injEq] at h; exact ⟨x, h.1.symm⟩
  | halt x w => simp [Result.andThen] at h
theorem plV_run {P : Program} {o : Oper} {a : Act} {w w' : World} {n : Next} (h : plV o = true) (hr : (execOp a.eval o).run P w = .ok n w') : ∃ u, n = .value u := by
  unfold plV at h
  unfold execOp at hr
  split at h
  · rename_i x hop; rw [hop] at hr; simp only [Sem.run_pure, Result.ok.injEq] at hr; exact ⟨_, hr.1.symm⟩
  · rename_i x hop; rw [hop] at hr; simp only [Sem.run_pure, Result.ok.injEq] at hr; exact ⟨_, hr.1.symm⟩
  · rename_i x y hop; rw [hop] at hr; simp only [Sem.run_bind, Sem.run_pure] at hr; exact plV_andThen hr
  · rename_i x y z hop; rw [hop] at hr; simp only [Sem.run_bind, Sem.run_pure] at hr; exact plV_andThen hr
  · rename_i x y z hop; rw [hop] at hr; simp only [Sem.run_bind, Sem.run_pure] at hr; exact plV_andThen hr
  · rename_i x y hop; rw [hop] at hr; simp only [Sem.run_bind, Sem.run_pure] at hr; exact plV_andThen hr
  · rename_i hop; rw [hop] at hr; rw [Sem.run_bind] at hr; simp only [Sem.run_pure] at hr; exact plV_andThen hr
  · rename_i hop; rw [hop] at hr; simp only [Sem.run_bind, Sem.run_pure] at hr; exact plV_andThen hr
  · rename_i hop; rw [hop] at hr; simp only [Sem.run_bind, Sem.run_pure] at hr; exact plV_andThen hr
  · cases h
theorem plV_yields {P : Program} {ops : Array Oper} {C : World → Prop} {o : Oper} {v : Value} {a : Act} (hp : plV o = true) (h : YieldsIn P ops C o v a) : YieldsIf P ops C o v a := by
  rcases h with ⟨h1, h2⟩ | h
  · refine .inl ⟨h1, fun w hw => ?_⟩
    have h3 := h2 w hw
    unfold Oper.quietAt at h3
    cases hr : (execOp a.eval o).run P w with
    | ok n w' =>
      rw [hr] at h3
      obtain ⟨u, rfl⟩ := plV_run hp hr
      simp only [Oper.quietUpon] at h3
      rw [h3.1, h3.2]
    | halt x w' => rw [hr] at h3; simp [Oper.quietUpon] at h3
  · exact .inr h
/-- What has come up, has what it waits for ahead of it. -/
def ShutV (ops : Array Oper) (listed : Array Bool) : Prop := ∀ j oj, ops[j]? = some oj → listed.getD j false = true → ∀ e ∈ oj.after, Region.binds .any e = true → listed.getD e.on false = true
def shutV (ops : Array Oper) (listed : Array Bool) : Bool := (List.range ops.size).all fun j => !(listed.getD j false) || match ops[j]? with | some oj => oj.after.all fun e => !(Region.binds .any e) || listed.getD e.on false | none => true
theorem shutV_spec {ops : Array Oper} {listed : Array Bool} (h : shutV ops listed = true) : ShutV ops listed := fun j oj hj hl e he hb => by
  have h1 := List.all_eq_true.1 h j (List.mem_range.2 (Array.getElem?_eq_some_iff.1 hj).1)
  rw [hl, hj] at h1
  simp only [Bool.not_true, Bool.false_or] at h1
  obtain ⟨i, hi, rfl⟩ := Array.mem_iff_getElem.1 he
  have h2 := Array.all_eq_true.1 h1 i hi
  rw [hb] at h2
  simpa using h2
theorem ShutV.set {ops : Array Oper} {listed : Array Bool} {i : Nat} (h : ShutV ops listed) (hi : i ∈ Region.ready .any ops listed) : ShutV ops (listed.setIfInBounds i true) := fun j oj hj hl e he hb => by
  obtain ⟨_, oi, hoi, hall⟩ := mem_ready.1 hi
  by_cases hij : i = j
  · subst hij
    have : oj = oi := Option.some.inj (hj.symm.trans hoi)
    subst this
    exact getD_set_true (hall e he hb)
  · rw [getD_set_ne false hij] at hl
    exact getD_set_true (h j oj hj hl e he hb)
/-- Does j wait for i, at once or by others? -/
def reachV (ops : Array Oper) : Nat → Nat → Nat → Bool
  | 0, j, i => Region.waitsFor .any ops j i
  | f + 1, j, i => Region.waitsFor .any ops j i || (List.range ops.size).any fun k => Region.waitsFor .any ops j k && reachV ops f k i
theorem reachV_spec {ops : Array Oper} {listed : Array Bool} (h : ShutV ops listed) : ∀ (f j i : Nat), reachV ops f j i = true → (∀ oj, ops[j]? = some oj → ∀ e ∈ oj.after, Region.binds .any e = true → listed.getD e.on false = true) → listed.getD i false = true
  | 0, j, i, hr, hj => by
    obtain ⟨oj, hoj, e, he, hb, hon⟩ := Region.waitsFor_spec hr
    rw [← hon]
    exact hj oj hoj e he hb
  | f + 1, j, i, hr, hj => by
    unfold reachV at hr
    rw [Bool.or_eq_true] at hr
    rcases hr with hr | hr
    · obtain ⟨oj, hoj, e, he, hb, hon⟩ := Region.waitsFor_spec hr
      rw [← hon]
      exact hj oj hoj e he hb
    · obtain ⟨k, -, hk⟩ := List.any_eq_true.1 hr
      rw [Bool.and_eq_true] at hk
      obtain ⟨oj, hoj, e, he, hb, hon⟩ := Region.waitsFor_spec hk.1
      have hkl : listed.getD k false = true := by rw [← hon]; exact hj oj hoj e he hb
      exact reachV_spec h f k i hk.2 (fun ok hok => h k ok hok hkl)
/-- Whatever order is picked: behind each operation of T, S holds. -/
def wpV (P : Program) (ops : Array Oper) (Q : Exit → Act → World → Prop) (S : World → Prop) (T : Nat → Bool) : Nat → Array Bool → Act → World → Prop
  | 0, listed, a, w => Region.ready .any ops listed = [] ∧ Q .normal a w
  | f + 1, listed, a, w => (Region.ready .any ops listed = [] → Q .normal a w) ∧ ∀ i ∈ Region.ready .any ops listed, wpOp P ops Q i (fun a' w' => (T i = true → S w') ∧ wpV P ops Q S T f (listed.setIfInBounds i true) a' w') a w
theorem wpV_sound {P : Program} {ops : Array Oper} {Q : Exit → Act → World → Prop} {S : World → Prop} {T : Nat → Bool} : ∀ (f : Nat) (listed : Array Bool) (a : Act) (w : World), wpV P ops Q S T f listed a w → wpAny P .any ops Q f listed a w
  | 0, _, _, _, h => h
  | f + 1, _, _, _, h => ⟨h.1, fun i hi => wpOp_mono (fun a' w' h' => wpV_sound f _ a' w' h'.2) (h.2 i hi)⟩
theorem wpV_first {P : Program} {ops : Array Oper} {Q : Exit → Act → World → Prop} {S : World → Prop} {T : Nat → Bool} {i : Nat} {oi : Oper} {v : Value} (hi : ops[i]? = some oi) (hsel : ∀ (j : Nat) (o : Oper) cs b, ops[j]? = some o → o.op ≠ .select cs b)
    (hQ : ∀ d v c a w, Q (.panic c) (Act.put a d v) w → Q (.panic c) a w) (hw : ∀ j, T j = false → j < ops.size → reachV ops ops.size j i = true) :
    ∀ (f : Nat) (listed : Array Bool) (a : Act) (w : World), ShutV ops listed →
      (∀ j oj, ops[j]? = some oj → j ≠ i → listed.getD j true = false → (∀ e ∈ oj.after, Region.binds .any e = true → e.on ≠ i) → oi.apart ops oj = true) →
      i ∈ Region.ready .any ops listed → YieldsIf P ops S oi v a → S w →
      wpV P ops Q S T f (listed.setIfInBounds i true) (a.put oi.dst v) w → wpV P ops Q S T (f + 1) listed a w := by
  intro f
  induction f with
  | zero =>
    intro listed a w _ _ hr hy hS H
    refine ⟨fun h => (by rw [h] at hr; cases hr), fun j hj => ?_⟩
    by_cases hji : j = i
    · subst hji; exact hy.wpOp hi hS ⟨fun _ => hS, H⟩
    · have := ready_mono hj hji
      rw [H.1] at this
      cases this
  | succ f ih =>
    intro listed a w hsh hfree hr hy hS H
    refine ⟨fun h => (by rw [h] at hr; cases hr), fun j hj => ?_⟩
    by_cases hji : j = i
    · subst hji; exact hy.wpOp hi hS ⟨fun _ => hS, H⟩
    · have h1 := H.2 j (ready_mono hj hji)
      obtain ⟨hjun, oj, hoj, hall⟩ := mem_ready.1 hj
      have h0 := (mem_ready.1 hr).1
      have hnot : ∀ e ∈ oj.after, Region.binds .any e = true → e.on ≠ i := fun e he hb heq => by
        have h1 := hall e he hb
        rw [heq, getD_both h0] at h1
        cases h1
      have hjT : T j = true := by
        cases hT : T j with
        | true => rfl
        | false =>
          have h2 := reachV_spec hsh ops.size j i (hw j hT (Array.getElem?_eq_some_iff.1 hoj).1) (fun ok hok e he hb => by
            have : ok = oj := Option.some.inj (hok.symm.trans hoj)
            subst this
            exact hall e he hb)
          rw [getD_both h0] at h2
          cases h2
      have h2 := wpOp_putIf hoj (hfree j oj hoj hji hjun hnot) (fun cs b => hsel i oi cs b hi) (fun cs b => hsel j oj cs b hoj) (fun c a w => hQ _ _ c a w) hy h1
      have hfree' : ∀ k ok, ops[k]? = some ok → k ≠ i → (listed.setIfInBounds j true).getD k true = false →
          (∀ e ∈ ok.after, Region.binds .any e = true → e.on ≠ i) → oi.apart ops ok = true := fun k ok hk hki hun hno => by
        refine hfree k ok hk hki ?_ hno
        by_cases hjk : j = k
        · subst hjk; exact hjun
        · rw [getD_set_ne true hjk] at hun; exact hun
      refine wpOp_mono (fun a' w' h3 => ⟨fun _ => h3.2.1 hjT, ih (listed.setIfInBounds j true) a' w' (hsh.set hj) hfree' (ready_mono hr (Ne.symm hji)) h3.1 (h3.2.1 hjT) ?_⟩) h2
      rw [Array.setIfInBounds_comm _ _ hji]
      exact h3.2.2
def zOp : Oper := { dst := none, op := .move (.const (.bool false)), type := 0, pos := "", after := #[], guard := none }
def setV (is : List Nat) (listed : Array Bool) : Array Bool := is.foldl (fun l i => l.setIfInBounds i true) listed
def lexV (ops : Array Oper) : List Nat → Array Bool → Bool
  | [], _ => true
  | i :: is, listed => (Region.ready .any ops listed).contains i && Region.free .any ops listed i && lexV ops is (listed.setIfInBounds i true)
def seqV (ops : Array Oper) : List Nat → Array Bool → Bool
  | [], listed => (Region.ready .any ops listed).isEmpty
  | i :: is, listed => decide (Region.ready .any ops listed = [i]) && seqV ops is (listed.setIfInBounds i true)
theorem getD_opV {l : List Oper} {i : Nat} (h : i < l.length) : l.toArray[i]? = some (l.getD i zOp) := by
  simp [h]
theorem wpV_lex {P : Program} {l : List Oper} {Q : Exit → Act → World → Prop} {C : World → Prop} {T : Nat → Bool} {g : Nat} {w : World} (hsel : Region.noSelect l.toArray = true)
    (hQ : ∀ d v c a w, Q (.panic c) (Act.put a d v) w → Q (.panic c) a w) (D : Array Bool) (hC : C w) :
    ∀ (hs : List Nat) (listed : Array Bool) (a : Act), (∀ i ∈ hs, i < l.length ∧ plV (l.getD i zOp) = true ∧ ∀ j, T j = false → j < l.toArray.size → reachV l.toArray l.toArray.size j i = true) → ShutV l.toArray listed → lexV l.toArray hs listed = true → setV hs listed = D →
      wpQuiet P l.toArray C (fun a' => wpV P l.toArray Q C T g D a' w) (hs.map fun i => l.getD i zOp) a → wpV P l.toArray Q C T (hs.length + g) listed a w
  | [], listed, a, _, hsh, _, hd, h => by
    rw [List.length_nil, Nat.zero_add]
    subst hd
    exact h
  | i :: is, listed, a, hh, hsh, hB, hd, h => by
    obtain ⟨hil, hpl, hwt⟩ := hh i (by simp)
    have h0 := getD_opV hil
    simp only [lexV, Bool.and_eq_true] at hB
    have hr : i ∈ Region.ready .any l.toArray listed := by simpa using hB.1.1
    have hq : qOp P l.toArray C i (wpQuiet P l.toArray C (fun a' => wpV P l.toArray Q C T g D a' w) (is.map fun i => l.getD i zOp)) a := by unfold qOp; simp only [h0]; exact h
    obtain ⟨v, hy, hKK⟩ := yieldsIn_of_qOp h0 hq
    rw [List.length_cons, show is.length + 1 + g = (is.length + g) + 1 by omega]
    refine wpV_first h0 (Region.noSelect_spec hsel) hQ hwt (is.length + g) listed a w hsh (Region.free_spec h0 hB.1.2) hr (plV_yields hpl hy) hC ?_
    exact wpV_lex hsel hQ D hC is _ _ (fun k hk => hh k (by simp [hk])) (hsh.set hr) hB.2 hd hKK
def takesB (l : List Oper) (T : Nat → Bool) (hs : List Nat) (listed : Array Bool) : Bool :=
  Region.noSelect l.toArray && (hs.all fun i => decide (i < l.length) && plV (l.getD i zOp) && (List.range l.toArray.size).all fun j => T j || reachV l.toArray l.toArray.size j i) && shutV l.toArray listed && lexV l.toArray hs listed
/-- Plain operations, taken first. -/
theorem wpV_takes {P : Program} {l : List Oper} {Q : Exit → Act → World → Prop} {C : World → Prop} {T : Nat → Bool} (g : Nat) {f : Nat} {w : World} {listed : Array Bool} {a : Act} (hs : List Nat) (hf : hs.length + g = f) (D : Array Bool) (hD : setV hs listed = D) (hB : takesB l T hs listed = true)
    (hQ : ∀ d v c a w, Q (.panic c) (Act.put a d v) w → Q (.panic c) a w) (hC : C w) (h : wpQuiet P l.toArray C (fun a' => wpV P l.toArray Q C T g D a' w) (hs.map fun i => l.getD i zOp) a) : wpV P l.toArray Q C T f listed a w := by
  subst hf
  simp only [takesB, Bool.and_eq_true] at hB
  obtain ⟨⟨⟨hsel, hhs⟩, hsh⟩, hlex⟩ := hB
  refine wpV_lex hsel hQ D hC hs listed a (fun i hi => ?_) (shutV_spec hsh) hlex hD h
  have h1 := List.all_eq_true.1 hhs i hi
  simp only [Bool.and_eq_true, decide_eq_true_eq] at h1
  refine ⟨h1.1.1, h1.1.2, fun j hj hjs => ?_⟩
  have h2 := List.all_eq_true.1 h1.2 j (List.mem_range.2 hjs)
  rw [hj, Bool.false_or] at h2
  exact h2
/-- Behind one operation. -/
def wildK (K : Act → World → Prop) (Q : Exit → Act → World → Prop) : Exit → Act → World → Prop
  | .normal, a, w => K a w
  | .exit i, a, w => Q (.exit i) a w
  | .goto i, a, w => Q (.goto i) a w
  | .ret, a, w => Q .ret a w
  | .panic c, a, w => Q (.panic c) a w
  | .outgrown, a, w => Q .outgrown a w
theorem wildK_normal {K : Act → World → Prop} {Q : Exit → Act → World → Prop} {a : Act} {w : World} (h : K a w) : wildK K Q .normal a w := h
theorem upon_wildK {P : Program} {K' : Act → World → Prop} {Q : Exit → Act → World → Prop} {o : Oper} {a : Act} {w : World} {K : Act → World → Prop} (h : o.wp P a w K (wildK K' Q)) : o.wp P a w K Q := by
  unfold Oper.wp at *
  generalize (execOp a.eval o).run P w = r at *
  cases r with
  | ok n w' =>
    cases n <;> simp only [Oper.upon] at h ⊢ <;>
      first
        | exact h
        | exact Calls.mono h (fun e w'' he => by cases e <;> exact he)
  | halt x w' => cases x <;> simp only [Oper.upon] at h ⊢ <;> exact h
theorem wpOp_wildK {P : Program} {l : List Oper} {Q : Exit → Act → World → Prop} {i : Nat} {K : Act → World → Prop} {a : Act} {w : World} (hi : i < l.length) (h : wpList P l.toArray (wildK K Q) [l.getD i zOp] a w) : wpOp P l.toArray Q i K a w := by
  have hop := getD_opV hi
  unfold wpOp
  simp only [hop]
  unfold wpList at h
  by_cases hg : Region.wanted (l.getD i zOp) (yielded l.toArray a.tmps) = true
  · rw [if_pos hg] at h ⊢
    exact h.imp (fun h2 => Oper.wp_mono (fun a'' w'' h3 => h3) (upon_wildK h2)) (fun h => h)
  · rw [if_neg hg] at h ⊢
    exact h
/-- What follows an operation, kept apart. -/
structure After (P : Program) (l : List Oper) (Q : Exit → Act → World → Prop) (S : World → Prop) (T : Nat → Bool) (f i : Nat) (D : Array Bool) (K : Act → World → Prop) : Prop where
  out : ∀ a' w', S w' → wpV P l.toArray Q S T f D a' w' → K a' w'
/-- One operation may come up. -/
theorem wpV_one {P : Program} {l : List Oper} {Q : Exit → Act → World → Prop} {S : World → Prop} {T : Nat → Bool} {f : Nat} {listed : Array Bool} {a : Act} {w : World} (i : Nat) (o : Oper) (D : Array Bool) (hr : Region.ready .any l.toArray listed = [i]) (hi : decide (i < l.length) = true) (ho : l.getD i zOp = o) (hD : listed.setIfInBounds i true = D)
    (h : ∀ K, After P l Q S T f i D K → wpList P l.toArray (wildK K Q) [o] a w) : wpV P l.toArray Q S T (f + 1) listed a w := by
  subst ho
  subst hD
  refine ⟨fun h1 => (by rw [hr] at h1; cases h1), fun j hj => ?_⟩
  rw [hr] at hj
  obtain rfl : j = i := by simpa using hj
  exact wpOp_wildK (of_decide_eq_true hi) (h _ ⟨fun _ _ h1 h2 => ⟨fun _ => h1, h2⟩⟩)
/-- Two operations may come up. -/
theorem wpV_two {P : Program} {l : List Oper} {Q : Exit → Act → World → Prop} {S : World → Prop} {T : Nat → Bool} {f : Nat} {listed : Array Bool} {a : Act} {w : World} (i k : Nat) (o ok : Oper) (D Dk : Array Bool) (hr : Region.ready .any l.toArray listed = [i, k]) (hi : decide (i < l.length ∧ k < l.length) = true) (ho : l.getD i zOp = o) (hok : l.getD k zOp = ok)
    (hD : listed.setIfInBounds i true = D) (hDk : listed.setIfInBounds k true = Dk)
    (h1 : ∀ K, After P l Q S T f i D K → wpList P l.toArray (wildK K Q) [o] a w) (h2 : ∀ K, After P l Q S T f k Dk K → wpList P l.toArray (wildK K Q) [ok] a w) : wpV P l.toArray Q S T (f + 1) listed a w := by
  subst ho
  subst hok
  subst hD
  subst hDk
  refine ⟨fun h1 => (by rw [hr] at h1; cases h1), fun j hj => ?_⟩
  rw [hr] at hj
  have hj' : j = i ∨ j = k := by simpa using hj
  rcases hj' with rfl | rfl
  · exact wpOp_wildK (of_decide_eq_true hi).1 (h1 _ ⟨fun _ _ h1 h2 => ⟨fun _ => h1, h2⟩⟩)
  · exact wpOp_wildK (of_decide_eq_true hi).2 (h2 _ ⟨fun _ _ h1 h2 => ⟨fun _ => h1, h2⟩⟩)
theorem wpV_tail' {P : Program} {l : List Oper} {Q : Exit → Act → World → Prop} {S : World → Prop} {T : Nat → Bool} : ∀ (ts : List Nat) (listed : Array Bool) (a : Act) (w : World), (∀ i ∈ ts, i < l.length ∧ T i = false) →
    seqV l.toArray ts listed = true → wpList P l.toArray Q (ts.map fun i => l.getD i zOp) a w → wpV P l.toArray Q S T ts.length listed a w
  | [], _, _, _, _, hB, h => ⟨by simpa [seqV] using hB, h⟩
  | i :: ts, listed, a, w, hh, hB, h => by
    obtain ⟨hil, hT⟩ := hh i (by simp)
    have h0 := getD_opV hil
    simp only [seqV, Bool.and_eq_true, decide_eq_true_eq] at hB
    refine ⟨fun h1 => (by rw [hB.1] at h1; cases h1), fun k hk => ?_⟩
    rw [hB.1] at hk
    have hik : k = i := by simpa using hk
    subst hik
    have hw : wpOp P l.toArray Q k (wpList P l.toArray Q (ts.map fun i => l.getD i zOp)) a w := by unfold wpOp; simp only [h0]; exact h
    exact wpOp_mono (fun a' w' h' => ⟨fun h => absurd h (by rw [hT]; decide), wpV_tail' ts _ a' w' (fun i hi => hh i (by simp [hi])) hB.2 h'⟩) hw
/-- A tail in its one order. -/
theorem wpV_tail {P : Program} {l : List Oper} {Q : Exit → Act → World → Prop} {S : World → Prop} {T : Nat → Bool} {f : Nat} {listed : Array Bool} {a : Act} {w : World} (ts : List Nat) (hf : ts.length = f) (hB : (seqV l.toArray ts listed && ts.all fun i => decide (i < l.length) && !(T i)) = true) (h : wpList P l.toArray Q (ts.map fun i => l.getD i zOp) a w) : wpV P l.toArray Q S T f listed a w := by
  subst hf
  rw [Bool.and_eq_true] at hB
  refine wpV_tail' ts listed a w (fun i hi => ?_) hB.1 h
  have h1 := List.all_eq_true.1 hB.2 i hi
  simpa using h1
/-- The whole region. -/
theorem wp_region_V {P : Program} {id : Nat} {Q : Exit → Act → World → Prop} {a : Act} {w : World} {l : List Oper} (C : World → Prop) (T : Nat → Bool) (n : Nat) (D : Array Bool) (hm : P.follows .mixedOrders = true) (hn : l.toArray.size = n) (hD : Array.replicate n false = D)
    (h : wpV P l.toArray Q C T n D a w.drew) : (Code.region id l.toArray true).wp P Q a w := by
  subst hn
  subst hD
  exact wp_region_any hm (wpV_sound _ _ _ _ h)
end Go.Proofs.YtlalgkjollgcbaaGreat
/- Face of package vpc. -/
namespace Go.Proofs.YtlalgkjollgcbaaGreat
open Go.RowKit Go.Shelf

/-- There the subnet stands. -/
structure SubAt (sn : Nat) (ss : List Sb) (sub : Int) (i : Nat) : Prop where
  isn : i < sn
  sid : (sbAt ss i).id = sub
  sno : ∀ k, k < i → (sbAt ss k).id ≠ sub
theorem SubAt.one {sn : Nat} {ss : List Sb} {sub : Int} {i j : Nat} (h : SubAt sn ss sub i) (g : SubAt sn ss sub j) : i = j := by
  rcases Nat.lt_trichotomy i j with hij | hij | hij
  · exact absurd h.sid (g.sno i hij)
  · exact hij
  · exact absurd g.sid (h.sno j hij)
/-- An address is given, or there is none. -/
def GiveOr (s : Sb) (E y : Int) : Prop := (E = 0 ∧ Least s y) ∨ (E = 8 ∧ y = 0 ∧ ∀ z, usB s.a s.l z = true → z ∈ allNs s.fs)
theorem Least.one {s : Sb} {y z : Int} (h : Least s y) (g : Least s z) : y = z := by
  rcases Int.lt_trichotomy y z with hyz | hyz | hyz
  · have hu := h.use
    unfold usB at hu
    simp only [Bool.and_eq_true, decide_eq_true_eq] at hu
    exact absurd (g.first y hu.1 hyz) h.free
  · exact hyz
  · have hu := g.use
    unfold usB at hu
    simp only [Bool.and_eq_true, decide_eq_true_eq] at hu
    exact absurd (h.first z hu.1 hyz) g.free
theorem GiveOr.one {s : Sb} {E y E' y' : Int} (h : GiveOr s E y) (g : GiveOr s E' y') : E = E' ∧ y = y' := by
  rcases h with ⟨rfl, h⟩ | ⟨rfl, rfl, h⟩
  · rcases g with ⟨rfl, g⟩ | ⟨rfl, rfl, g⟩
    · exact ⟨rfl, h.one g⟩
    · exact absurd (g y h.use) h.free
  · rcases g with ⟨rfl, g⟩ | ⟨rfl, rfl, g⟩
    · exact absurd (h y' g.use) g.free
    · exact ⟨rfl, rfl⟩
def faceE0 (s : Sb) (id : Int) : Int := if wth id 1 65536 = false then 3 else if 0 ≤ fstAt s.n (fun i => (fcAt s.fs i).id == id) then 6 else if s.n = 8 then 2 else 0
def FaRel (s : Sb) (id E y : Int) : Prop := (faceE0 s id ≠ 0 → E = faceE0 s id ∧ y = 0) ∧ (faceE0 s id = 0 → GiveOr s E y)
theorem FaPost.rel {s : Sb} {id : Int} {w w' : World} {e : Ending} (h : FaPost s id w e w') : Below w.heap.size w w' ∧ ∃ y E, e = .returned (.tuple #[.int .i64 y, .int .i64 E]) ∧ FaRel s id E y := by
  refine ⟨h.1, ?_⟩
  have h2 := h.2
  unfold FaRel faceE0
  by_cases c1 : wth id 1 65536 = false
  · rw [if_pos c1] at h2 ⊢
    exact ⟨0, 3, h2, fun _ => ⟨rfl, rfl⟩, fun h => absurd h (by decide)⟩
  · rw [if_neg c1] at h2 ⊢
    by_cases c2 : 0 ≤ fstAt s.n (fun i => (fcAt s.fs i).id == id)
    · rw [if_pos c2] at h2 ⊢
      exact ⟨0, 6, h2, fun _ => ⟨rfl, rfl⟩, fun h => absurd h (by decide)⟩
    · rw [if_neg c2] at h2 ⊢
      by_cases c3 : s.n = 8
      · rw [if_pos c3] at h2 ⊢
        exact ⟨0, 2, h2, fun _ => ⟨rfl, rfl⟩, fun h => absurd h (by decide)⟩
      · rw [if_neg c3] at h2 ⊢
        rcases h2 with ⟨y, h2, h3⟩ | ⟨h2, h3⟩
        · exact ⟨y, 0, h2, fun h => absurd rfl h, fun _ => .inl ⟨rfl, h3⟩⟩
        · exact ⟨0, 8, h2, fun h => absurd rfl h, fun _ => .inr ⟨rfl, rfl, h3⟩⟩
theorem FaRel.zero {s : Sb} {id E y : Int} (h : FaRel s id E y) (hE : E ≠ 0) : y = 0 := by
  by_cases c : faceE0 s id = 0
  · rcases h.2 c with ⟨h1, -⟩ | ⟨-, h1, -⟩
    · exact absurd h1 hE
    · exact h1
  · exact (h.1 c).2
theorem FaRel.ok {s : Sb} {id y : Int} (h : FaRel s id 0 y) : faceE0 s id = 0 ∧ Least s y := by
  by_cases c : faceE0 s id = 0
  · rcases h.2 c with ⟨-, h1⟩ | ⟨h1, -⟩
    · exact ⟨c, h1⟩
    · exact absurd h1 (by decide)
  · exact absurd (h.1 c).1.symm c
/-- What an operation that gives an address answers: a network, the address and an error. -/
def VAPost (A : Int → Int → Prop) (R : World → Value → Int → Prop) (w : World) (e : Ending) (w' : World) : Prop :=
  ∃ V y E, e = .returned (.tuple #[V, .int .i64 y, .int .i64 E]) ∧ Below w.heap.size w w' ∧ A E y ∧ (E ≠ 0 → V = .agg #[.int .i64 0, .slice none 0 0, .slice none 0 0] ∧ y = 0) ∧ (E = 0 → R w' V y)
theorem VAPost.err {A : Int → Int → Prop} {R : World → Value → Int → Prop} {w w' : World} {E : Int} (hA : A E 0) (hE : E ≠ 0) (hb : Below w.heap.size w w') : VAPost A R w (.returned (.tuple #[.agg #[.int .i64 0, .slice none 0 0, .slice none 0 0], .int .i64 0, .int .i64 E])) w' :=
  ⟨_, 0, E, rfl, hb, hA, fun _ => ⟨rfl, rfl⟩, fun h => absurd h hE⟩
theorem VAPost.ok {A : Int → Int → Prop} {R : World → Value → Int → Prop} {w w' : World} {V : Value} {y : Int} (hA : A 0 y) (hb : Below w.heap.size w w') (h : R w' V y) : VAPost A R w (.returned (.tuple #[V, .int .i64 y, .int .i64 0])) w' :=
  ⟨_, y, 0, rfl, hb, hA, fun h => absurd rfl h, fun _ => h⟩
def FaceA (vid : Int) (rn : Nat) (rs : List Rg) (sn : Nat) (ss : List Sb) (sub id E y : Int) : Prop :=
  if chkV vid rn rs sn ss ≠ 0 then E = chkV vid rn rs sn ss ∧ y = 0 else ((∀ i, i < sn → (sbAt ss i).id ≠ sub) ∧ E = 5 ∧ y = 0) ∨ ∃ i, SubAt sn ss sub i ∧ FaRel (sbAt ss i) id E y
/-- The face stands ahead of the first one whose number is greater. -/
def PutFc (e : Fc) (qs rs : List Fc) : Prop := ∃ i, i ≤ qs.length ∧ (∀ j, j < i → ¬ e.id < (fcAt qs j).id) ∧ (i < qs.length → e.id < (fcAt qs i).id) ∧ rs = qs.take i ++ [e] ++ qs.drop i
def FaceR (vid : Int) (rn : Nat) (rs : List Rg) (sn : Nat) (ss : List Sb) (sub id : Int) (w : World) (V : Value) (y : Int) : Prop :=
  chkV vid rn rs sn ss = 0 ∧ ∃ ts i x n c fx gs, SubAt sn ss sub i ∧ FaRel (sbAt ss i) id 0 y ∧ sameSs ss ts ∧ PutFc ⟨id, fx, 1, 1, [y]⟩ (sbAt ts i).fs gs ∧ n = gs.length ∧ NV w vid V rs (ts.set i (withF (sbAt ts i) x n c gs))
/-- One subnet has other faces of the call's own now. -/
theorem OSs.give {w : World} {base i n c : Nat} {x : Option Addr} {v : Value} {ts : List Sb} {gs : List Fc} (h : OSs w base v ts ts.length) (hO : OFs w base (.slice x n c) gs gs.length) : OFa w base (ts.set i (withF (sbAt ts i) x n c gs)) := fun s hs => by
  obtain ⟨k, hk, rfl⟩ := List.getElem_of_mem hs
  have hk' : k < ts.length := by simpa using hk
  rw [List.getElem_set]
  by_cases e : i = k
  · rw [if_pos e]; exact hO
  · rw [if_neg e]
    have e2 : sbAt ts k = ts[k] := by unfold sbAt; rw [List.getD_eq_getElem?_getD, List.getElem?_eq_getElem hk']; rfl
    rw [← e2]
    exact h.own k hk'
theorem ownI_one {W : World} {hx base : Nat} {y : Int} (h : W.heap[hx]? = some (.cells #[.int .i64 y] 3)) (hb : base ≤ hx) : OwnI W base (.slice (some ⟨hx, 0, none⟩) 1 1) [y] :=
  ⟨rfl, .inr ⟨hx, 1, #[.int .i64 y], rfl, hb, h, by simp, by unfold maxLen; omega, by simp, rfl⟩⟩
theorem own_x {w : World} {base : Nat} {x : Option Addr} {n c : Nat} {fs : List Fc} (h : OwnF w base (.slice x n c) fs) : (x = none ∧ c = 0) ∨ ∃ b o, x = some ⟨b, o, none⟩ := by
  rcases h.2 with ⟨h, -⟩ | ⟨g, cap, cur, h, -⟩
  · simp only [Value.slice.injEq] at h
    exact .inl ⟨h.1, h.2.2⟩
  · simp only [Value.slice.injEq] at h
    exact .inr ⟨g, 0, h.1⟩
end Go.Proofs.YtlalgkjollgcbaaGreat
/- More of package vpc. -/
namespace Go.Proofs.YtlalgkjollgcbaaGreat
open Go.RowKit Go.Shelf

theorem FaceAt.one {sn : Nat} {ss : List Sb} {sub id : Int} {i j i' j' : Nat} (h : FaceAt sn ss sub id i j) (g : FaceAt sn ss sub id i' j') : i = i' ∧ j = j' := by
  have hi : i = i' := SubAt.one ⟨h.isn, h.sid, h.sno⟩ ⟨g.isn, g.sid, g.sno⟩
  subst hi
  refine ⟨rfl, ?_⟩
  rcases Nat.lt_trichotomy j j' with hij | hij | hij
  · exact absurd h.fid (g.fno j hij)
  · exact hij
  · exact absurd g.fid (h.fno j' hij)
def MoRel (s : Sb) (f : Fc) (E y : Int) : Prop := if f.n = 4 then E = 2 ∧ y = 0 else GiveOr s E y
def MoreA (vid : Int) (rn : Nat) (rs : List Rg) (sn : Nat) (ss : List Sb) (sub id E y : Int) : Prop :=
  (plE vid rn rs sn ss sub id ≠ 0 → E = plE vid rn rs sn ss sub id ∧ y = 0) ∧ (plE vid rn rs sn ss sub id = 0 → ∃ i j, FaceAt sn ss sub id i j ∧ MoRel (sbAt ss i) (fcAt (sbAt ss i).fs j) E y)
/-- The number stands ahead of the first greater one. -/
def PutIn (e : Int) (qs rs : List Int) : Prop := ∃ i, i ≤ qs.length ∧ (∀ j, j < i → ¬ e < inAt qs j) ∧ (i < qs.length → e < inAt qs i) ∧ rs = qs.take i ++ [e] ++ qs.drop i
/-- A network of the call's own, by its numbers. -/
def NVo (w : World) (base : Nat) (vid : Int) (v : Value) (rs : List Rg) (ss : List Sb) : Prop := ∃ vR vS, v = .agg #[.int .i64 vid, vR, vS] ∧ OwnR w base vR rs ∧ OwnS w base vS ss ∧ OFa w base ss
theorem NVo.nv {w : World} {base : Nat} {vid : Int} {v : Value} {rs : List Rg} {ss : List Sb} (h : NVo w base vid v rs ss) : NV w vid v rs ss := by
  obtain ⟨vR, vS, rfl, h1, h2, h3⟩ := h
  exact NV.mk h1 h2 h3.fcb
theorem NVo.put {w : World} {base b o : Nat} {u : Value} {vid : Int} {v : Value} {rs : List Rg} {ss : List Sb} (h : NVo w base vid v rs ss) (hb : b < base) : NVo (w.setCell ⟨b, o, none⟩ u) base vid v rs ss := by
  obtain ⟨vR, vS, e, h1, h2, h3⟩ := h
  exact ⟨vR, vS, e, h1.put hb, h2.put hb, h3.put hb⟩
theorem OFa.low {w : World} {base base' : Nat} {ss : List Sb} (h : OFa w base ss) (hb : base' ≤ base) : OFa w base' ss := fun s hs => (h s hs).low hb
def MoreR (vid : Int) (rn : Nat) (rs : List Rg) (sn : Nat) (ss : List Sb) (sub id : Int) (w0 w : World) (V : Value) (y : Int) : Prop :=
  chkV vid rn rs sn ss = 0 ∧ ∃ ts i j x c ns, FaceAt sn ss sub id i j ∧ MoRel (sbAt ss i) (fcAt (sbAt ss i).fs j) 0 y ∧ sameSs ss ts ∧ PutIn y (fcAt (sbAt ts i).fs j).ns ns ∧
    NVo w w0.heap.size vid V rs (ts.set i (withF (sbAt ts i) (sbAt ts i).x (sbAt ts i).n (sbAt ts i).c ((sbAt ts i).fs.set j (withA (fcAt (sbAt ts i).fs j) x ns.length c ns))))
/-- One subnet's row of faces changes in its own block. -/
theorem OSs.turn {w w' : World} {base i gf kf cf : Nat} {v : Value} {ts : List Sb} {gs : List Fc} {cur : Array Value} (h : OSs w base v ts ts.length) (hi : i < ts.length) (hg : w.grownBy w' (some gf)) (hb : w.heap[gf]? = some (.cells cur 99))
    (hx : (Value.slice (sbAt ts i).x (sbAt ts i).n (sbAt ts i).c).ownBlock = some gf) (hO : OwnF w' base (.slice (some ⟨gf, 0, none⟩) kf cf) gs) (hsub : ∀ f ∈ gs, f ∈ (sbAt ts i).fs ∨ OwnI w' base (.slice f.x f.n f.c) f.ns) :
    OFa w' base (ts.set i (withF (sbAt ts i) (some ⟨gf, 0, none⟩) kf cf gs)) := fun s hs => by
  have hI : ∀ k, k < ts.length → ∀ f ∈ (sbAt ts k).fs, OwnI w' base (.slice f.x f.n f.c) f.ns := fun k hk f hf => by
    have h1 := (h.own k hk).each f hf
    exact h1.kept hg (fun q hq e => by subst e; exact h1.ne hb (by decide) hq)
  obtain ⟨k, hk, rfl⟩ := List.getElem_of_mem hs
  have hk' : k < ts.length := by simpa using hk
  rw [List.getElem_set]
  by_cases e : i = k
  · rw [if_pos e]
    exact OFs.mk' hO (fun f hf => (hsub f hf).elim (fun h => hI i hi f h) (fun h => h))
  · rw [if_neg e]
    have e2 : sbAt ts k = ts[k] := by unfold sbAt; rw [List.getD_eq_getElem?_getD, List.getElem?_eq_getElem hk']; rfl
    rw [← e2]
    exact OFs.mk' ((h.own k hk').row.kept hg (fun q hq e3 => by subst e3; exact h.apart i k hi hk' e _ hx hq)) (hI k hk')
/-- A row of subnets says nothing of what their faces hold. -/
theorem OwnS.faces {w : World} {base : Nat} {v : Value} {ss : List Sb} (h : OwnS w base v ss) (i : Nat) (hi : i < ss.length) (gs : List Fc) : OwnS w base v (ss.set i (withF (sbAt ss i) (sbAt ss i).x (sbAt ss i).n (sbAt ss i).c gs)) := by
  have e : flatS (ss.set i (withF (sbAt ss i) (sbAt ss i).x (sbAt ss i).n (sbAt ss i).c gs)) = flatS ss := by
    rw [← flatS_set ss i _ _ _ gs hi]
    apply List.ext_getElem?
    intro k
    rw [List.getElem?_set]
    by_cases hk : i * 4 + 3 = k
    · subst hk
      have h1 := flatS_at ss i 3 hi (by omega)
      rw [if_pos rfl, h1]
      have : i * 4 + 3 < (flatS ss).length := by rw [flatS_len]; omega
      rw [if_pos this]
      rfl
    · rw [if_neg hk]
  unfold OwnS
  rw [e, List.length_set]
  exact h
theorem more_after {j m c : Nat} {x : Option Addr} {fs : List Fc} {ns : List Int} : ∀ f ∈ fs.set j (withA (fcAt fs j) x m c ns), f ∈ fs ∨ (f.x = x ∧ f.n = m ∧ f.c = c ∧ f.ns = ns) := fun f hf => by
  obtain ⟨k, hk, rfl⟩ := List.getElem_of_mem hf
  rw [List.getElem_set]
  by_cases e : j = k
  · rw [if_pos e]; exact .inr ⟨rfl, rfl, rfl, rfl⟩
  · rw [if_neg e]; exact .inl (List.getElem_mem _)

end Go.Proofs.YtlalgkjollgcbaaGreat
/- What SameInts and SameVpcs of the reference say of what is the same. -/
namespace Go.Proofs.YtlalgkjollgcbaaGreat
open Go.RowKit Go.Shelf

set_option maxRecDepth 100000 in
set_option maxHeartbeats 1600000 in
theorem sameInts_yes (x y : Option Addr) (n c d : Nat) (ns : List Int) (w : World) (hp : IS w x n ns) (hq : IS w y n ns) (hn : n ≤ 9223372036854775807) :
    Calls Tryz.prog 16 #[.slice x n c, .slice y n d] w fun e w' => e = .returned (.bool true) ∧ Below w.heap.size w w' := by
  go_enter Tryz.func16, Tryz.ntmps16
  go_wp2
  go_loopw [5] (fun i wr => ∃ k : Nat, i = .int .i64 k ∧ k ≤ n ∧ Below w.heap.size w wr) (fun i _ => n - (intOf i).toNat)
  case atStart => exact ⟨0, rfl, by omega, Below.refl _ _⟩
  case round =>
    obtain ⟨k, rfl, hkn, hB⟩ := hrel
    by_cases hlt : k < n
    · obtain ⟨b, o, rfl, c0⟩ := (hp.later hB).cells k hlt
      obtain ⟨b2, o2, rfl, d0⟩ := (hq.later hB).cells k hlt
      have hk0 : (0 : Int) ≤ k := by omega
      have hkn2 : (k : Int) < n := by omega
      have hlth : Hid (k < n) := hlt
      clear hlt
      go_upto_region 6 with fail
      have g0 := Ws.here c0
      have g1 := Ws.here d0
      clear c0 d0
      refine wp_region_ws wr.heap.size (by kernel_rfl) (by kernel_rfl) ?_
      repeat (go_big_quiet_step (fail))
      refine wpQuiet_nil ?_
      rintro _ ⟨u, rfl⟩
      have hub := hB.trans (u.property.mono hB.size)
      generalize u.val = wu at hub ⊢
      clear u g0 g1
      go_wp2
      go_roundw
      case rel => exact ⟨k + 1, by go_num, hlth.out, hub⟩
      case measure => have := hlth.out; simp [intOf]; omega
    · have hnk : ¬ (k : Int) < n := by omega
      go_wp2
      go_ret
      exact ⟨rfl, hB⟩
/-- The boxes of the two networks. -/
structure TV2 (w W : World) (vid : Int) (vr vs ur us : Value) : Prop where
  ha : W.heap[w.heap.size]? = some (vpB vid vr vs)
  hb : W.heap[w.heap.size + 1]? = some (vpB vid ur us)
  below : Below w.heap.size w W
theorem TV2.later {w W W' : World} {vid : Int} {vr vs ur us : Value} (h : TV2 w W vid vr vs ur us) (hb : Below W.heap.size W W') : TV2 w W' vid vr vs ur us :=
  ⟨heap_later hb h.ha, heap_later hb h.hb, h.below.trans (hb.mono h.below.size)⟩

set_option maxRecDepth 100000 in
set_option maxHeartbeats 6400000 in
theorem sameVpcs_yes (vid : Int) (rx ry : Option Addr) (rn rc rd : Nat) (rs : List Rg) (sx sy : Option Addr) (sn sc sd : Nat) (ss ts : List Sb) (w : World) (hp : Vp w rx rn rc rs sx sn sc ss) (hq : Vp w ry rn rd rs sy sn sd ts) (hs : sameSs ss ts) (hrn : rn ≤ 9223372036854775807) (hsn : sn ≤ 9223372036854775807) :
    Calls Tryz.prog 39 #[.agg #[.int .i64 vid, .slice rx rn rc, .slice sx sn sc], .agg #[.int .i64 vid, .slice ry rn rd, .slice sy sn sd]] w fun e w' => e = .returned (.bool true) ∧ Below w.heap.size w w' := by
  have hs' : Hid (sameSs ss ts) := hs
  have hpl : Hid (ss.length = sn) := hp.subs.len
  clear hs
  go_enter Tryz.func39, Tryz.ntmps39
  go_upto_region 1 with fail
  obtain ⟨w0, hw0⟩ : ∃ w0, w0 = (w.alloc (vpB vid (.slice rx rn rc) (.slice sx sn sc))).alloc (vpB vid (.slice ry rn rd) (.slice sy sn sd)) := ⟨_, rfl⟩
  rw [← hw0]
  have hT0 : TV2 w w0 vid (.slice rx rn rc) (.slice sx sn sc) (.slice ry rn rd) (.slice sy sn sd) := by rw [hw0]; exact ⟨heap_old _ (heap_new _ rfl), heap_new _ (by simp), bl2 w _ _⟩
  clear hw0
  have a0 : w0.cell? ⟨w.heap.size, 0, none⟩ = some (.int .i64 vid) := (box_cells hT0.ha).1 0
  have a1 : w0.cell? ⟨w.heap.size, 1, none⟩ = some (.slice rx rn rc) := (box_cells hT0.ha).1 1
  have a2 : w0.cell? ⟨w.heap.size, 2, none⟩ = some (.slice sx sn sc) := (box_cells hT0.ha).1 2
  have d0 : w0.cell? ⟨w.heap.size + 1, 0, none⟩ = some (.int .i64 vid) := (box_cells hT0.hb).1 0
  have d1 : w0.cell? ⟨w.heap.size + 1, 1, none⟩ = some (.slice ry rn rd) := (box_cells hT0.hb).1 1
  have d2 : w0.cell? ⟨w.heap.size + 1, 2, none⟩ = some (.slice sy sn sd) := (box_cells hT0.hb).1 2
  go_wp2
  clear a0 a1 a2 d0 d1 d2
  go_loopw [5] (fun i wr => ∃ k : Nat, i = .int .i64 k ∧ k ≤ rn ∧ TV2 w wr vid (.slice rx rn rc) (.slice sx sn sc) (.slice ry rn rd) (.slice sy sn sd)) (fun i _ => rn - (intOf i).toNat)
  case atStart => exact ⟨0, rfl, by omega, hT0⟩
  case round =>
    clear hT0
    obtain ⟨k, rfl, hkn, hT⟩ := hrel
    have a1 : wr.cell? ⟨w.heap.size, 1, none⟩ = some (.slice rx rn rc) := (box_cells hT.ha).1 1
    have d1 : wr.cell? ⟨w.heap.size + 1, 1, none⟩ = some (.slice ry rn rd) := (box_cells hT.hb).1 1
    by_cases hlt : k < rn
    · obtain ⟨b, o, rfl, c0, c1, c2⟩ := (hp.later hT.below).ranges.cells k hlt
      obtain ⟨b2, o2, rfl, e0, e1, e2⟩ := (hq.later hT.below).ranges.cells k hlt
      have hk0 : (0 : Int) ≤ k := by omega
      have hkn2 : (k : Int) < rn := by omega
      have hlth : Hid (k < rn) := hlt
      clear hlt
      go_upto_region 6 with fail
      have g0 := Ws.here a1
      have g1 := Ws.here d1
      have f0 := Ws.here c0
      have f1 := Ws.here c1
      have f2 := Ws.here c2
      have h0 := Ws.here e0
      have h1 := Ws.here e1
      have h2 := Ws.here e2
      clear a1 d1 c0 c1 c2 e0 e1 e2
      refine wp_region_ws wr.heap.size (by kernel_rfl) (by kernel_rfl) ?_
      repeat (go_big_quiet_step (fail))
      refine wpQuiet_nil ?_
      rintro _ ⟨u, rfl⟩
      have hTu := hT.later u.property
      generalize u.val = wu at hTu ⊢
      clear u g0 g1 f0 f1 f2 h0 h1 h2
      go_wp2
      go_roundw
      case rel => exact ⟨k + 1, by go_num, hlth.out, hTu⟩
      case measure => have := hlth.out; simp [intOf]; omega
    · have hnk : ¬ (k : Int) < rn := by omega
      go_wp2
      obtain ⟨wh, rfl⟩ : ∃ wh, wh = wr := ⟨_, rfl⟩
      clear a1 d1
      go_loopw [6] (fun i wr => ∃ k : Nat, i = .int .i64 k ∧ k ≤ sn ∧ TV2 w wr vid (.slice rx rn rc) (.slice sx sn sc) (.slice ry rn rd) (.slice sy sn sd)) (fun i _ => sn - (intOf i).toNat)
      case atStart => exact ⟨0, rfl, by omega, hT⟩
      case round =>
        clear hT
        obtain ⟨k, rfl, hkn, hT⟩ := hrel
        have a2 : wr.cell? ⟨w.heap.size, 2, none⟩ = some (.slice sx sn sc) := (box_cells hT.ha).1 2
        have d2 : wr.cell? ⟨w.heap.size + 1, 2, none⟩ = some (.slice sy sn sd) := (box_cells hT.hb).1 2
        by_cases hlt : k < sn
        · obtain ⟨b, o, rfl, c0, c1, c2, c3⟩ := (hp.later hT.below).subs.cells k hlt
          obtain ⟨b2, o2, rfl, e0, e1, e2, e3⟩ := (hq.later hT.below).subs.cells k hlt
          obtain ⟨hlc, hlm, hLS⟩ := (hp.later hT.below).subs.faces k hlt
          obtain ⟨hmc, hmm, hMS⟩ := (hq.later hT.below).subs.faces k hlt
          obtain ⟨s0, s1, s2, s3, s4⟩ := hs'.out.2 k (by rw [hpl.out]; exact hlt)
          rw [← s0] at e0
          rw [← s1] at e1
          rw [← s2] at e2
          rw [← s3] at e3
          rw [← s3] at hMS
          have hk0 : (0 : Int) ≤ k := by omega
          have hkn2 : (k : Int) < sn := by omega
          have hlth : Hid (k < sn) := hlt
          have hff : Hid (sameFs (sbAt ss k).fs (sbAt ts k).fs) := s4
          clear hlt s0 s1 s2 s3 s4
          go_upto_region 11 with fail
          go_cut [7, 8] (fun p q wc => ∃ bp bq, p = .pointer (some ⟨bp, 0, none⟩) ∧ q = .pointer (some ⟨bq, 0, none⟩) ∧ wc.heap[bp]? = some (.cells #[.int .i64 (sbAt ss k).id, .int .i64 (sbAt ss k).a, .int .i64 (sbAt ss k).l, .slice (sbAt ss k).x (sbAt ss k).n (sbAt ss k).c] 90) ∧ wc.heap[bq]? = some (.cells #[.int .i64 (sbAt ss k).id, .int .i64 (sbAt ss k).a, .int .i64 (sbAt ss k).l, .slice (sbAt ts k).x (sbAt ss k).n (sbAt ts k).c] 90) ∧ Below wr.heap.size wr wc)
          case first =>
            go_region_held3 (fun w' => w'.cell? ⟨w.heap.size, 2, none⟩ = some (.slice (some ⟨b, o, none⟩) sn sc) ∧ w'.cell? ⟨w.heap.size + 1, 2, none⟩ = some (.slice (some ⟨b2, o2, none⟩) sn sd) ∧ w'.cell? ⟨b, o + k * 4, none⟩ = some (.int .i64 (sbAt ss k).id) ∧ w'.cell? ⟨b, o + k * 4 + 1, none⟩ = some (.int .i64 (sbAt ss k).a) ∧ w'.cell? ⟨b, o + k * 4 + 2, none⟩ = some (.int .i64 (sbAt ss k).l) ∧ w'.cell? ⟨b, o + k * 4 + 3, none⟩ = some (.slice (sbAt ss k).x (sbAt ss k).n (sbAt ss k).c) ∧ w'.cell? ⟨b2, o2 + k * 4, none⟩ = some (.int .i64 (sbAt ss k).id) ∧ w'.cell? ⟨b2, o2 + k * 4 + 1, none⟩ = some (.int .i64 (sbAt ss k).a) ∧ w'.cell? ⟨b2, o2 + k * 4 + 2, none⟩ = some (.int .i64 (sbAt ss k).l) ∧ w'.cell? ⟨b2, o2 + k * 4 + 3, none⟩ = some (.slice (sbAt ts k).x (sbAt ss k).n (sbAt ts k).c)) (first | (go_keep; done)) (fail)
            · go_wp2
              go_meet
              case rel => exact ⟨wr.heap.size, wr.heap.size + 1, rfl, rfl, heap_old _ (heap_new _ rfl), heap_new _ (by simp), (bl2 wr _ _).drew⟩
            · go_wp2
              go_meet
              case rel => exact ⟨wr.heap.size + 1, wr.heap.size, rfl, rfl, heap_new _ (by simp), heap_old _ (heap_new _ rfl), (bl2 wr _ _).drew⟩
          case rest =>
            obtain ⟨bp, bq, rfl, rfl, hv, hu, hBc⟩ := hcut
            clear a2 d2 c0 c1 c2 c3 e0 e1 e2 e3
            have hTc := hT.later hBc
            have hLc := hLS.later hBc
            have hMc := hMS.later hBc
            clear hT hLS hMS hBc
            have p0 : wc.cell? ⟨bp, 0, none⟩ = some (.int .i64 (sbAt ss k).id) := (box_cells hv).1 0
            have r0 : wc.cell? ⟨bq, 0, none⟩ = some (.int .i64 (sbAt ss k).id) := (box_cells hu).1 0
            have p1 : wc.cell? ⟨bp, 1, none⟩ = some (.int .i64 (sbAt ss k).a) := (box_cells hv).1 1
            have r1 : wc.cell? ⟨bq, 1, none⟩ = some (.int .i64 (sbAt ss k).a) := (box_cells hu).1 1
            have p2 : wc.cell? ⟨bp, 2, none⟩ = some (.int .i64 (sbAt ss k).l) := (box_cells hv).1 2
            have r2 : wc.cell? ⟨bq, 2, none⟩ = some (.int .i64 (sbAt ss k).l) := (box_cells hu).1 2
            have p3 : wc.cell? ⟨bp, 3, none⟩ = some (.slice (sbAt ss k).x (sbAt ss k).n (sbAt ss k).c) := (box_cells hv).1 3
            have r3 : wc.cell? ⟨bq, 3, none⟩ = some (.slice (sbAt ts k).x (sbAt ss k).n (sbAt ts k).c) := (box_cells hu).1 3
            go_wp2
            clear p0 p1 p2 p3 r0 r1 r2 r3
            go_loopw [9] (fun i ws => ∃ j : Nat, i = .int .i64 j ∧ j ≤ (sbAt ss k).n ∧ Below wc.heap.size wc ws) (fun i _ => (sbAt ss k).n - (intOf i).toNat)
            case atStart => exact ⟨0, rfl, by omega, Below.refl _ _⟩
            case round =>
              obtain ⟨j, rfl, hjn, hBj⟩ := hrel
              have hv' := heap_later hBj hv
              have hu' := heap_later hBj hu
              have p3 : wr.cell? ⟨bp, 3, none⟩ = some (.slice (sbAt ss k).x (sbAt ss k).n (sbAt ss k).c) := (box_cells hv').1 3
              have r3 : wr.cell? ⟨bq, 3, none⟩ = some (.slice (sbAt ts k).x (sbAt ss k).n (sbAt ts k).c) := (box_cells hu').1 3
              by_cases hltj : j < (sbAt ss k).n
              · obtain ⟨b3, o3, hx3, l0, l1⟩ := (hLc.later hBj).cells j hltj
                obtain ⟨b4, o4, hx4, m0, m1⟩ := (hMc.later hBj).cells j hltj
                obtain ⟨hac, ham, hAS⟩ := (hLc.later hBj).addrs j hltj
                obtain ⟨hbc, hbm, hBS⟩ := (hMc.later hBj).addrs j hltj
                obtain ⟨t0, t1, t2⟩ := hff.out.2 j (by rw [hLc.len]; exact hltj)
                rw [hx3] at p3
                rw [hx4] at r3
                rw [← t0] at m0
                rw [← t1] at m1
                rw [← t1, ← t2] at hBS
                have hj0 : (0 : Int) ≤ j := by omega
                have hjn2 : (j : Int) < (sbAt ss k).n := by omega
                have hltjh : Hid (j < (sbAt ss k).n) := hltj
                have hsi := fun W (hW : Below wr.heap.size wr W) => sameInts_yes (fcAt (sbAt ss k).fs j).x (fcAt (sbAt ts k).fs j).x (fcAt (sbAt ss k).fs j).n (fcAt (sbAt ss k).fs j).c (fcAt (sbAt ts k).fs j).c (fcAt (sbAt ss k).fs j).ns W (hAS.later hW) (hBS.later hW) ham
                clear hltj t0 t1 t2
                go_upto_region 17 with fail
                have g0 := Ws.here p3
                have g1 := Ws.here r3
                have f0 := Ws.here l0
                have f1 := Ws.here l1
                have h0 := Ws.here m0
                have h1 := Ws.here m1
                have hsw := fun u : Ws wr.heap.size wr => Calls.in_ws (Nat.le_refl _) (hsi u.val u.property)
                clear p3 r3 l0 l1 m0 m1 hsi
                refine wp_region_ws wr.heap.size (by kernel_rfl) (by kernel_rfl) ?_
                repeat (go_big_quiet_step (first | (go_at_call 16; exact hsw _)))
                refine wpQuiet_nil ?_
                rintro _ ⟨u, rfl⟩
                have hub := hBj.trans (u.property.mono hBj.size)
                generalize u.val = wu at hub ⊢
                clear u g0 g1 f0 f1 h0 h1 hsw
                go_wp2
                go_roundw
                case rel => exact ⟨j + 1, by go_num, hltjh.out, hub⟩
                case measure => have := hltjh.out; simp [intOf]; omega
              · have hnj : ¬ (j : Int) < (sbAt ss k).n := by omega
                have hTj := hTc.later hBj
                go_wp2
                go_roundw
                case rel => exact ⟨k + 1, by go_num, hlth.out, hTj⟩
                case measure => have := hlth.out; simp [intOf]; omega
        · have hnk : ¬ (k : Int) < sn := by omega
          go_wp2
          go_ret
          exact ⟨rfl, hT.below⟩
end Go.Proofs.YtlalgkjollgcbaaGreat
/- vpcBegun. -/
namespace Go.Proofs.YtlalgkjollgcbaaGreat
open Go.RowKit Go.Shelf

theorem sameFs_nil {gs : List Fc} (h : sameFs [] gs) : gs = [] := List.eq_nil_of_length_eq_zero h.1.symm
theorem sameFs_cons {f : Fc} {fs gs : List Fc} (h : sameFs (f :: fs) gs) : ∃ x c gs', gs = ⟨f.id, x, f.n, c, f.ns⟩ :: gs' ∧ sameFs fs gs' := by
  match gs, h with
  | [], h => exact absurd h.1 (by simp)
  | g :: gs', h =>
    obtain ⟨h1, h2, h3⟩ := h.2 0 (by simp)
    have e1 : f.id = g.id := h1
    have e2 : f.n = g.n := h2
    have e3 : f.ns = g.ns := h3
    refine ⟨g.x, g.c, gs', by rw [e1, e2, e3], by simpa using h.1, fun i hi => ?_⟩
    have h4 := h.2 (i + 1) (by simp; omega)
    simpa [fcAt] using h4
theorem sameSs_nil {ts : List Sb} (h : sameSs [] ts) : ts = [] := List.eq_nil_of_length_eq_zero h.1.symm
theorem sameSs_cons {s : Sb} {ss ts : List Sb} (h : sameSs (s :: ss) ts) : ∃ x c fs ts', ts = ⟨s.id, s.a, s.l, x, s.n, c, fs⟩ :: ts' ∧ sameFs s.fs fs ∧ sameSs ss ts' := by
  match ts, h with
  | [], h => exact absurd h.1 (by simp)
  | t :: ts', h =>
    obtain ⟨h1, h2, h3, h4, h5⟩ := h.2 0 (by simp)
    have e1 : s.id = t.id := h1
    have e2 : s.a = t.a := h2
    have e3 : s.l = t.l := h3
    have e4 : s.n = t.n := h4
    refine ⟨t.x, t.c, t.fs, ts', by rw [e1, e2, e3, e4], h5, by simpa using h.1, fun i hi => ?_⟩
    have h6 := h.2 (i + 1) (by simp; omega)
    simpa [sbAt] using h6
theorem bg_chk0 (x : Option Addr) (c : Nat) (x2 : Option Addr) (c2 : Nat) : chkV 3 1 [⟨256, 10, 7⟩] 1 [⟨1, 256, 13, x, 1, c, [⟨2, x2, 1, c2, [257]⟩]⟩] = 0 := by kernel_rfl
theorem bg_least0 (x : Option Addr) (c : Nat) (x2 : Option Addr) (c2 : Nat) : Least ⟨1, 256, 13, x, 1, c, [⟨2, x2, 1, c2, [257]⟩]⟩ 258 :=
  ⟨by kernel_rfl, by simp [allNs], fun z h1 h2 => by simp only [allNs, List.flatMap_cons, List.flatMap_nil, List.append_nil, List.mem_singleton]; simp only at h1; omega⟩
theorem bg_least1 (x : Option Addr) (c : Nat) (x1 : Option Addr) (c1 : Nat) (x2 : Option Addr) (c2 : Nat) : Least ⟨1, 256, 13, x, 2, c, [⟨1, x1, 1, c1, [258]⟩, ⟨2, x2, 1, c2, [257]⟩]⟩ 259 :=
  ⟨by kernel_rfl, by simp [allNs], fun z h1 h2 => by simp only [allNs, List.flatMap_cons, List.flatMap_nil, List.append_nil, List.mem_append, List.mem_singleton]; simp only at h1; omega⟩
theorem bg_face (x : Option Addr) (c : Nat) (x2 : Option Addr) (c2 : Nat) {E y : Int} (h : FaceA 3 1 [⟨256, 10, 7⟩] 1 [⟨1, 256, 13, x, 1, c, [⟨2, x2, 1, c2, [257]⟩]⟩] 1 1 E y) : E = 0 ∧ y = 258 := by
  unfold FaceA at h
  rw [if_neg (by simp [bg_chk0])] at h
  rcases h with ⟨h, -⟩ | ⟨i, hi, h⟩
  · exact absurd rfl (h 0 (by omega))
  · obtain rfl : i = 0 := by have := hi.isn; omega
    exact (h.2 (by kernel_rfl)).one (.inl ⟨rfl, bg_least0 x c x2 c2⟩)
theorem bg_faceR (x : Option Addr) (c : Nat) (x2 : Option Addr) (c2 : Nat) {y : Int} {w : World} {V : Value} (hy : y = 258) (h : FaceR 3 1 [⟨256, 10, 7⟩] 1 [⟨1, 256, 13, x, 1, c, [⟨2, x2, 1, c2, [257]⟩]⟩] 1 1 w V y) : ∃ x c x1 c1 x2 c2, NV w 3 V [⟨256, 10, 7⟩] [⟨1, 256, 13, x, 2, c, [⟨1, x1, 1, c1, [258]⟩, ⟨2, x2, 1, c2, [257]⟩]⟩] := by
  obtain ⟨-, ts, i, x', n, c', fx, gs, hi, -, hs, hp, rfl, hN⟩ := h
  obtain rfl : i = 0 := by have := hi.isn; omega
  obtain ⟨x4, c4, fs, ts', rfl, hf, ht⟩ := sameSs_cons hs
  obtain rfl := sameSs_nil ht
  obtain ⟨x5, c5, gs', rfl, hf'⟩ := sameFs_cons hf
  obtain rfl := sameFs_nil hf'
  obtain ⟨p, hp1, hp2, hp3, rfl⟩ := hp
  obtain rfl : p = 0 := by
    rcases Nat.eq_zero_or_pos p with h | h
    · exact h
    · exact absurd (show (1 : Int) < 2 by decide) (hp2 0 h)
  subst hy
  exact ⟨_, _, _, _, _, _, hN⟩
theorem bg_pl1 (x : Option Addr) (c : Nat) (x1 : Option Addr) (c1 : Nat) (x2 : Option Addr) (c2 : Nat) : plE 3 1 [⟨256, 10, 7⟩] 1 [⟨1, 256, 13, x, 2, c, [⟨1, x1, 1, c1, [258]⟩, ⟨2, x2, 1, c2, [257]⟩]⟩] 1 2 = 0 := by kernel_rfl
theorem bg_at {x : Option Addr} {c n : Nat} {f g : Fc} {i j : Nat} (hf : f.id = 1) (hg : g.id = 2) (hn : n = 2) (h : FaceAt 1 [⟨1, 256, 13, x, n, c, [f, g]⟩] 1 2 i j) : i = 0 ∧ j = 1 :=
  h.one ⟨by omega, rfl, fun k hk => by omega, by show 1 < n; omega, hg, fun k hk => by
    obtain rfl : k = 0 := by omega
    show f.id ≠ 2
    omega⟩
theorem bg_more (x : Option Addr) (c : Nat) (x1 : Option Addr) (c1 : Nat) (x2 : Option Addr) (c2 : Nat) {E y : Int} (h : MoreA 3 1 [⟨256, 10, 7⟩] 1 [⟨1, 256, 13, x, 2, c, [⟨1, x1, 1, c1, [258]⟩, ⟨2, x2, 1, c2, [257]⟩]⟩] 1 2 E y) : E = 0 ∧ y = 259 := by
  obtain ⟨i, j, hF, h⟩ := h.2 (bg_pl1 x c x1 c1 x2 c2)
  obtain ⟨rfl, rfl⟩ := bg_at rfl rfl rfl hF
  unfold MoRel at h
  split at h
  · rename_i e
    exact absurd e (show ¬ (1 : Nat) = 4 by decide)
  exact h.one (.inl ⟨rfl, bg_least1 x c x1 c1 x2 c2⟩)
theorem bg_moreR (x : Option Addr) (c : Nat) (x1 : Option Addr) (c1 : Nat) (x2 : Option Addr) (c2 : Nat) {y : Int} {w : World} {V : Value} {w0 : World} (hy : y = 259) (h : MoreR 3 1 [⟨256, 10, 7⟩] 1 [⟨1, 256, 13, x, 2, c, [⟨1, x1, 1, c1, [258]⟩, ⟨2, x2, 1, c2, [257]⟩]⟩] 1 2 w0 w V y) : ∃ x c x1 c1 x2 c2, NVo w w0.heap.size 3 V [⟨256, 10, 7⟩] [⟨1, 256, 13, x, 2, c, [⟨1, x1, 1, c1, [258]⟩, ⟨2, x2, 2, c2, [257, 259]⟩]⟩] := by
  obtain ⟨-, ts, i, j, x', c', ns, hF, -, hs, hp, hN⟩ := h
  obtain ⟨rfl, rfl⟩ := bg_at rfl rfl rfl hF
  obtain ⟨x4, c4, fs, ts', rfl, hf, ht⟩ := sameSs_cons hs
  obtain rfl := sameSs_nil ht
  obtain ⟨x5, c5, gs', rfl, hf'⟩ := sameFs_cons hf
  obtain ⟨x6, c6, gs'', rfl, hf''⟩ := sameFs_cons hf'
  obtain rfl := sameFs_nil hf''
  obtain ⟨p, hp1, hp2, hp3, rfl⟩ := hp
  subst hy
  obtain rfl : p = 1 := by
    have hp1' : p ≤ 1 := hp1
    rcases Nat.eq_zero_or_pos p with h | h
    · subst h; exact absurd (hp3 (show 0 < 1 by decide)) (show ¬ (259 : Int) < 257 by decide)
    · omega
  exact ⟨_, _, _, _, _, _, hN⟩
theorem bg_unsub (x : Option Addr) (c : Nat) (x1 : Option Addr) (c1 : Nat) (x2 : Option Addr) (c2 : Nat) : unsubE 3 1 [⟨256, 10, 7⟩] 1 [⟨1, 256, 13, x, 2, c, [⟨1, x1, 1, c1, [258]⟩, ⟨2, x2, 2, c2, [257, 259]⟩]⟩] 1 = 9 := by kernel_rfl
theorem bg_drop (x : Option Addr) (c : Nat) (x1 : Option Addr) (c1 : Nat) (x2 : Option Addr) (c2 : Nat) : dropE 3 1 [⟨256, 10, 7⟩] 1 [⟨1, 256, 13, x, 2, c, [⟨1, x1, 1, c1, [258]⟩, ⟨2, x2, 2, c2, [257, 259]⟩]⟩] 256 10 = 9 := by kernel_rfl
theorem bg_pl2 (x : Option Addr) (c : Nat) (x1 : Option Addr) (c1 : Nat) (x2 : Option Addr) (c2 : Nat) : plE 3 1 [⟨256, 10, 7⟩] 1 [⟨1, 256, 13, x, 2, c, [⟨1, x1, 1, c1, [258]⟩, ⟨2, x2, 2, c2, [257, 259]⟩]⟩] 1 2 = 0 := by kernel_rfl
theorem bg_unfaceR (x : Option Addr) (c : Nat) (x1 : Option Addr) (c1 : Nat) (x2 : Option Addr) (c2 : Nat) {w : World} {V : Value} (h : UnfaceR 3 [⟨256, 10, 7⟩] 1 [⟨1, 256, 13, x, 2, c, [⟨1, x1, 1, c1, [258]⟩, ⟨2, x2, 2, c2, [257, 259]⟩]⟩] 1 2 w V) : ∃ x c x1 c1, NV w 3 V [⟨256, 10, 7⟩] [⟨1, 256, 13, x, 1, c, [⟨1, x1, 1, c1, [258]⟩]⟩] := by
  obtain ⟨ts, i, j, x', n, c', hF, hs, hn, hN⟩ := h
  obtain ⟨rfl, rfl⟩ := bg_at rfl rfl rfl hF
  obtain ⟨x4, c4, fs, ts', rfl, hf, ht⟩ := sameSs_cons hs
  obtain rfl := sameSs_nil ht
  obtain ⟨x5, c5, gs', rfl, hf'⟩ := sameFs_cons hf
  obtain ⟨x6, c6, gs'', rfl, hf''⟩ := sameFs_cons hf'
  obtain rfl := sameFs_nil hf''
  subst hn
  exact ⟨_, _, _, _, hN⟩
theorem bg_sub (x : Option Addr) (c : Nat) (x1 : Option Addr) (c1 : Nat) : subE 3 1 [⟨256, 10, 7⟩] 1 [⟨1, 256, 13, x, 1, c, [⟨1, x1, 1, c1, [258]⟩]⟩] 4 264 13 = 0 := by kernel_rfl
theorem bg_subR (x : Option Addr) (c : Nat) (x1 : Option Addr) (c1 : Nat) {w : World} {V : Value} (h : SubR 3 [⟨256, 10, 7⟩] [⟨1, 256, 13, x, 1, c, [⟨1, x1, 1, c1, [258]⟩]⟩] 4 264 13 w V) : ∃ x c x1 c1, NV w 3 V [⟨256, 10, 7⟩] [⟨1, 256, 13, x, 1, c, [⟨1, x1, 1, c1, [258]⟩]⟩, ⟨4, 264, 13, none, 0, 0, []⟩] := by
  obtain ⟨ts, ss', hN, hs, p, hp1, hp2, hp3, rfl⟩ := h
  obtain ⟨x4, c4, fs, ts', rfl, hf, ht⟩ := sameSs_cons hs
  obtain rfl := sameSs_nil ht
  obtain ⟨x5, c5, gs', rfl, hf'⟩ := sameFs_cons hf
  obtain rfl := sameFs_nil hf'
  obtain rfl : p = 1 := by
    have hp1' : p ≤ 1 := hp1
    rcases Nat.eq_zero_or_pos p with h | h
    · subst h; exact absurd (hp3 (by simp)) (by simp [sbAt])
    · omega
  exact ⟨_, _, _, _, hN⟩
theorem bg_grow (x : Option Addr) (c : Nat) (x1 : Option Addr) (c1 : Nat) : growE 3 1 [⟨256, 10, 7⟩] 2 [⟨1, 256, 13, x, 1, c, [⟨1, x1, 1, c1, [258]⟩]⟩, ⟨4, 264, 13, none, 0, 0, []⟩] ⟨512, 16, 1⟩ = 0 := by kernel_rfl
theorem bg_growR (x : Option Addr) (c : Nat) (x1 : Option Addr) (c1 : Nat) {w : World} {V : Value} (h : ∃ rs' ss', NV w 3 V rs' ss' ∧ PutRg ⟨512, 16, 1⟩ [⟨256, 10, 7⟩] rs' ∧ sameSs [⟨1, 256, 13, x, 1, c, [⟨1, x1, 1, c1, [258]⟩]⟩, ⟨4, 264, 13, none, 0, 0, []⟩] ss') : ∃ rx rc sc b o y d, V = .agg #[.int .i64 3, .slice rx 2 rc, .slice (some ⟨b, o, none⟩) 2 sc] ∧ w.cell? ⟨b, o + 3, none⟩ = some (.slice y 1 d) := by
  obtain ⟨rs', ss', ⟨rx, rc, sx, sc, hV, hVp, -⟩, ⟨p, hp1, -, -, rfl⟩, hs⟩ := h
  obtain ⟨x4, c4, fs, ts', rfl, -, ht⟩ := sameSs_cons hs
  obtain ⟨x5, c5, gs, ts'', rfl, -, ht'⟩ := sameSs_cons ht
  obtain rfl := sameSs_nil ht'
  obtain ⟨b, o, rfl, -, -, -, h3⟩ := hVp.subs.cells 0 (by simp)
  have hlen : (List.take p ([⟨256, 10, 7⟩] : List Rg) ++ [(⟨512, 16, 1⟩ : Rg)] ++ List.drop p ([⟨256, 10, 7⟩] : List Rg)).length = 2 := by
    have hp1' : p ≤ 1 := hp1
    simp
    omega
  rw [hlen] at hV
  exact ⟨rx, rc, sc, b, o, x4, c4, hV, by simpa [sbAt] using h3⟩

theorem bgc_grow (x : Option Addr) (c : Nat) (x1 : Option Addr) (c1 : Nat) (V : Value) (w : World) (h : NV w 3 V [⟨256, 10, 7⟩] [⟨1, 256, 13, x, 1, c, [⟨1, x1, 1, c1, [258]⟩]⟩, ⟨4, 264, 13, none, 0, 0, []⟩]) :
    Calls Tryz.prog 29 #[V, .agg #[.int .i64 512, .int .i64 16, .int .i64 1]] w fun e w' => ∃ rx rc sc b o y d, e = .returned (.tuple #[.agg #[.int .i64 3, .slice rx 2 rc, .slice (some ⟨b, o, none⟩) 2 sc], .int .i64 0]) ∧ w'.cell? ⟨b, o + 3, none⟩ = some (.slice y 1 d) ∧ Below w.heap.size w w' := by
  obtain ⟨rx, rc, sx, sc, rfl, hv, h1, h2⟩ := h
  have hc := vgrow_any 3 rx 1 rc [⟨256, 10, 7⟩] sx 2 sc [⟨1, 256, 13, x, 1, c, [⟨1, x1, 1, c1, [258]⟩]⟩, ⟨4, 264, 13, none, 0, 0, []⟩] ⟨512, 16, 1⟩ w hv (by omega) (by omega) h1
  unfold GrowPost at hc
  rw [bg_grow] at hc
  refine hc.mono ?_
  rintro e w' ⟨V', rfl, hb, -, hR⟩
  obtain ⟨rx', rc', sc', b, o, y, d, rfl, h3⟩ := bg_growR x c x1 c1 (hR rfl)
  exact ⟨_, _, _, _, _, _, _, rfl, h3, hb⟩

/-- The boxes of the begun network that are read again. -/
structure TBg (W : World) (b : Nat) (v : Value) (vR vS : Value) : Prop where
  he : v = .agg #[.int .i64 3, vR, vS]
  hb : W.heap[b]? = some (vpB 3 vR vS)
theorem TBg.later {W W' : World} {b : Nat} {v vR vS : Value} (h : TBg W b v vR vS) (hb : Below W.heap.size W W') : TBg W' b v vR vS := ⟨h.he, heap_later hb h.hb⟩

end Go.Proofs.YtlalgkjollgcbaaGreat
/- What OwnVpc of the reference comes to: the same network in memory of the call's own. -/
namespace Go.Proofs.YtlalgkjollgcbaaGreat
open Go.RowKit Go.Shelf

theorem run_append_none_v {P : Program} {w : World} (base : Nat) (t ty e : TypeId) (i : TypeInfo) (size c : Nat) (ht : P.underlying t = some (.slice e)) (hi : P.info? e = some i)
    (v : Value) (n : Nat) (xs : List Value) (hown : w.ownsRow base e size v n xs) :
    (Builtin.append_ #[t, t] ty #[v, .slice none 0 c]).run P w = .ok v w := by
  rcases hown.2 with ⟨rfl, rfl⟩ | ⟨g, cap, cur, rfl, _, _, hnc, _⟩
  · simp [Builtin.append_, run_underlying ht, sizeOf, typeInfo, hi, Builtin.lenOf, Builtin.firstCells]
  · simp [Builtin.append_, run_underlying ht, sizeOf, typeInfo, hi, Builtin.lenOf, Builtin.firstCells, hnc, storeCells]
/-- append of a slice, nil or not, to a row of the call's own. -/
theorem wpList_append_RR {w : World} {ops : Array Oper} {rest : List Oper} {o : Oper} {a : Act} {Q : Exit → Act → World → Prop} (hgd : o.guard = none) (s x : Operand)
    (ho : o.op = .call { callee := .builtin .append, args := #[s, x], argTypes := #[49, 49] }) (base : Nat) (v : Value) (es : List Rg) (hs : a.eval s = v) (hO : OwnR w base v es)
    (ad : Option Addr) (m c : Nat) (fs : List Rg) (hx : a.eval x = .slice ad m c) (hl : RS w ad m fs)
    (hlen : es.length + m ≤ 1000000000) (hbase : base ≤ w.heap.size)
    (h : ∀ v' w', OwnR w' base v' (es ++ fs) → w.grownBy w' v.ownBlock → wpList Tryz.prog ops Q rest (a.put o.dst v') w') : wpList Tryz.prog ops Q (o :: rest) a w := by
  cases ad with
  | some ad => exact wpList_append_R hgd s x ho base v es hs hO ad m c fs hx hl.len hl.flat_cells hlen hbase h
  | none =>
    obtain ⟨i0, hi, hz0, hz1, hz2⟩ := info_R'
    have h0 : m = 0 := by
      rcases Nat.eq_zero_or_pos m with h | h
      · exact h
      · obtain ⟨b, o, h, -⟩ := hl.cells 0 h
        cases h
    obtain rfl : fs = [] := List.eq_nil_of_length_eq_zero (by rw [hl.len, h0])
    subst h0
    have h1 := h v w (by rw [List.append_nil]; exact hO) ⟨rfl, rfl, rfl, Nat.le_refl _, fun _ _ _ => rfl⟩
    refine wpList_plain hgd fun K hK => ?_
    have hrun := run_append_none_v (P := Tryz.prog) (w := w) base 49 o.type 29 i0 3 c under_R hi v es.length (flatR es) hO
    unfold Oper.wp
    simp [execOp, ho, resolve, invoke, builtin, hs, hx, hrun, Result.andThen]
    exact hK _ _ h1
/-- append of a slice, nil or not, to a row of the call's own. -/
theorem wpList_append_II {w : World} {ops : Array Oper} {rest : List Oper} {o : Oper} {a : Act} {Q : Exit → Act → World → Prop} (hgd : o.guard = none) (s x : Operand)
    (ho : o.op = .call { callee := .builtin .append, args := #[s, x], argTypes := #[30, 30] }) (base : Nat) (v : Value) (es : List Int) (hs : a.eval s = v) (hO : OwnI w base v es)
    (ad : Option Addr) (m c : Nat) (fs : List Int) (hx : a.eval x = .slice ad m c) (hl : IS w ad m fs)
    (hlen : es.length + m ≤ 1000000000) (hbase : base ≤ w.heap.size)
    (h : ∀ v' w', OwnI w' base v' (es ++ fs) → w.grownBy w' v.ownBlock → wpList Tryz.prog ops Q rest (a.put o.dst v') w') : wpList Tryz.prog ops Q (o :: rest) a w := by
  cases ad with
  | some ad => exact wpList_append_I hgd s x ho base v es hs hO ad m c fs hx hl.len hl.flat_cells hlen hbase h
  | none =>
    obtain ⟨i0, hi, hz0, hz1, hz2⟩ := info_I'
    have h0 : m = 0 := by
      rcases Nat.eq_zero_or_pos m with h | h
      · exact h
      · obtain ⟨b, o, h, -⟩ := hl.cells 0 h
        cases h
    obtain rfl : fs = [] := List.eq_nil_of_length_eq_zero (by rw [hl.len, h0])
    subst h0
    have h1 := h v w (by rw [List.append_nil]; exact hO) ⟨rfl, rfl, rfl, Nat.le_refl _, fun _ _ _ => rfl⟩
    refine wpList_plain hgd fun K hK => ?_
    have hrun := run_append_none_v (P := Tryz.prog) (w := w) base 30 o.type 3 i0 1 c under_I hi v es.length (flatI es) hO
    unfold Oper.wp
    simp [execOp, ho, resolve, invoke, builtin, hs, hx, hrun, Result.andThen]
    exact hK _ _ h1
theorem OwnR.keptr {w w' : World} {base : Nat} {r : Option Nat} {v : Value} {es : List Rg} (h : OwnR w base v es) (hg : w.grownBy w' r) (hne : ∀ k, v.ownBlock = some k → r ≠ some k) : OwnR w' base v es := by
  refine World.ownsRow.kept h hg ?_
  cases hv : v.ownBlock
  · exact .inl rfl
  · rename_i k
    exact .inr fun e => hne k hv e.symm
theorem OwnS.keptr {w w' : World} {base : Nat} {r : Option Nat} {v : Value} {es : List Sb} (h : OwnS w base v es) (hg : w.grownBy w' r) (hne : ∀ k, v.ownBlock = some k → r ≠ some k) : OwnS w' base v es := by
  refine World.ownsRow.kept h hg ?_
  cases hv : v.ownBlock
  · exact .inl rfl
  · rename_i k
    exact .inr fun e => hne k hv e.symm
theorem OwnF.keptr {w w' : World} {base : Nat} {r : Option Nat} {v : Value} {es : List Fc} (h : OwnF w base v es) (hg : w.grownBy w' r) (hne : ∀ k, v.ownBlock = some k → r ≠ some k) : OwnF w' base v es := by
  refine World.ownsRow.kept h hg ?_
  cases hv : v.ownBlock
  · exact .inl rfl
  · rename_i k
    exact .inr fun e => hne k hv e.symm
theorem OwnI.keptr {w w' : World} {base : Nat} {r : Option Nat} {v : Value} {es : List Int} (h : OwnI w base v es) (hg : w.grownBy w' r) (hne : ∀ k, v.ownBlock = some k → r ≠ some k) : OwnI w' base v es := by
  refine World.ownsRow.kept h hg ?_
  cases hv : v.ownBlock
  · exact .inl rfl
  · rename_i k
    exact .inr fun e => hne k hv e.symm
theorem grown_keep {w w' : World} {r : Option Nat} {b : Nat} {x : Obj} (hg : w.grownBy w' r) (hne : r ≠ some b) (hx : w.heap[b]? = some x) : w'.heap[b]? = some x :=
  (hg.block b (Array.getElem?_eq_some_iff.1 hx).1 (fun e => hne e.symm)).trans hx
theorem OSs.nil (w : World) (base : Nat) : OSs w base (.slice none 0 0) [] 0 :=
  ⟨⟨rfl, .inl ⟨rfl, rfl⟩⟩, fun _ hi => absurd hi (Nat.not_lt_zero _), fun _ _ hi => absurd hi (Nat.not_lt_zero _)⟩
theorem OFs.nil (w : World) (base : Nat) : OFs w base (.slice none 0 0) [] 0 :=
  ⟨⟨rfl, .inl ⟨rfl, rfl⟩⟩, fun _ hi => absurd hi (Nat.not_lt_zero _), fun _ _ hi => absurd hi (Nat.not_lt_zero _)⟩
/-- A row's block holds what its kind says. -/
theorem OwnF.kind {w : World} {base g : Nat} {v : Value} {fs : List Fc} (h : OwnF w base v fs) (hv : v.ownBlock = some g) : ∃ cur, w.heap[g]? = some (.cells cur 99) := by
  rcases h.2 with ⟨rfl, -⟩ | ⟨g', cap, cur, rfl, -, h3, -⟩
  · cases hv
  · obtain rfl : g' = g := by simpa [Value.ownBlock] using hv
    exact ⟨cur, h3⟩
theorem OwnS.kind {w : World} {base g : Nat} {v : Value} {fs : List Sb} (h : OwnS w base v fs) (hv : v.ownBlock = some g) : ∃ cur, w.heap[g]? = some (.cells cur 90) := by
  rcases h.2 with ⟨rfl, -⟩ | ⟨g', cap, cur, rfl, -, h3, -⟩
  · cases hv
  · obtain rfl : g' = g := by simpa [Value.ownBlock] using hv
    exact ⟨cur, h3⟩
theorem OFs.snoc {W W1 W2 : World} {base : Nat} {v v2 : Value} {gs : List Fc} {f : Fc} (h : OFs W base v gs gs.length) (hwb : base ≤ W.heap.size) (hb : Below W.heap.size W W1) (ho : OwnI W1 W.heap.size (.slice f.x f.n f.c) f.ns) (hg : W1.grownBy W2 v.ownBlock) (hr : OwnF W2 base v2 (gs ++ [f])) : OFs W2 base v2 (gs ++ [f]) (gs ++ [f]).length := by
  have keep : ∀ {vv : Value} {es : List Int}, OwnI W1 base vv es → OwnI W2 base vv es := fun {vv es} hO => hO.keptr hg (fun k hk e => by
    obtain ⟨cur, hc⟩ := (h.row.later hb).kind e
    exact hO.ne hc (by decide) hk)
  refine OFs.mk' hr (fun g hg' => ?_)
  rcases List.mem_append.1 hg' with h1 | h1
  · exact keep ((h.each g h1).later hb)
  · obtain rfl : g = f := by simpa using h1
    exact keep (ho.low hwb)
theorem sbAt_snoc {qs : List Sb} {q : Sb} {j : Nat} : sbAt (qs ++ [q]) j = if j < qs.length then sbAt qs j else if j = qs.length then q else sbZ := by
  unfold sbAt
  rw [List.getD_eq_getElem?_getD, List.getD_eq_getElem?_getD]
  by_cases h : j < qs.length
  · rw [if_pos h, List.getElem?_append_left h]
  · rw [if_neg h, List.getElem?_append_right (by omega)]
    by_cases h2 : j = qs.length
    · subst h2; simp
    · rw [if_neg h2]
      obtain ⟨m, hm⟩ : ∃ m, j - qs.length = m + 1 := ⟨j - qs.length - 1, by omega⟩
      rw [hm]
      rfl
theorem fcAt_snoc {qs : List Fc} {q : Fc} {j : Nat} : fcAt (qs ++ [q]) j = if j < qs.length then fcAt qs j else if j = qs.length then q else fcZ := by
  unfold fcAt
  rw [List.getD_eq_getElem?_getD, List.getD_eq_getElem?_getD]
  by_cases h : j < qs.length
  · rw [if_pos h, List.getElem?_append_left h]
  · rw [if_neg h, List.getElem?_append_right (by omega)]
    by_cases h2 : j = qs.length
    · subst h2; simp
    · rw [if_neg h2]
      obtain ⟨m, hm⟩ : ∃ m, j - qs.length = m + 1 := ⟨j - qs.length - 1, by omega⟩
      rw [hm]
      rfl
theorem OFs.keptr {W W' : World} {base : Nat} {r : Option Nat} {v : Value} {fs : List Fc} (h : OFs W base v fs fs.length) (hg : W.grownBy W' r) (ht : ∀ g, r = some g → ∃ cur, W.heap[g]? = some (.cells cur 90)) : OFs W' base v fs fs.length :=
  OFs.mk' (h.row.keptr hg (fun k hk e => by
    obtain ⟨cur, hc⟩ := ht k e
    exact h.row.ne hc (by decide) hk)) (fun f hf => (h.each f hf).keptr hg (fun k hk e => by
    obtain ⟨cur, hc⟩ := ht k e
    exact (h.each f hf).ne hc (by decide) hk))
theorem OSs.snoc {W W1 W2 : World} {base : Nat} {v v2 : Value} {qs : List Sb} {q : Sb} (h : OSs W base v qs qs.length) (hwb : base ≤ W.heap.size) (hb : Below W.heap.size W W1) (ho : OFs W1 W.heap.size (.slice q.x q.n q.c) q.fs q.fs.length)
    (hg : W1.grownBy W2 v.ownBlock) (hr : OwnS W2 base v2 (qs ++ [q])) : OSs W2 base v2 (qs ++ [q]) (qs ++ [q]).length := by
  have hl : (qs ++ [q]).length = qs.length + 1 := by simp
  have ht : ∀ g, v.ownBlock = some g → ∃ cur, W1.heap[g]? = some (.cells cur 90) := fun g hv => (h.row.later hb).kind hv
  refine ⟨hr, fun j hj => ?_, fun j k hj hk hjk b hbj hbk => ?_⟩
  · rw [sbAt_snoc]
    by_cases c1 : j < qs.length
    · rw [if_pos c1]; exact ((h.own j c1).later hb).keptr hg ht
    · rw [if_neg c1, if_pos (by omega)]
      exact (ho.low hwb).keptr hg ht
  · rw [sbAt_snoc] at hbj hbk
    by_cases c1 : j < qs.length
    · rw [if_pos c1] at hbj
      by_cases c2 : k < qs.length
      · rw [if_pos c2] at hbk
        exact h.apart j k c1 c2 hjk b hbj hbk
      · rw [if_neg c2, if_pos (by omega)] at hbk
        have h1 := ((h.own j c1).row.lt b hbj).2
        have h2 := (ho.row.lt b hbk).1
        omega
    · rw [if_neg c1, if_pos (by omega)] at hbj
      by_cases c2 : k < qs.length
      · rw [if_pos c2] at hbk
        have h1 := ((h.own k c2).row.lt b hbk).2
        have h2 := (ho.row.lt b hbj).1
        omega
      · omega
/-- No two faces have their addresses in one block. -/
def adK (f : Fc) : Option Nat := (Value.slice f.x f.n f.c).ownBlock
def ApF (fs : List Fc) : Prop := ∀ p q, p < fs.length → q < fs.length → p ≠ q → ∀ b, adK (fcAt fs p) = some b → adK (fcAt fs q) ≠ some b
def ApS (ts : List Sb) : Prop := (∀ i, i < ts.length → ApF (sbAt ts i).fs) ∧ ∀ i k, i < ts.length → k < ts.length → i ≠ k → ∀ p q, p < (sbAt ts i).fs.length → q < (sbAt ts k).fs.length → ∀ b, adK (fcAt (sbAt ts i).fs p) = some b → adK (fcAt (sbAt ts k).fs q) ≠ some b
theorem ApF.nil : ApF [] := fun _ _ hp => absurd hp (Nat.not_lt_zero _)
theorem ApS.nil : ApS [] := ⟨fun _ hi => absurd hi (Nat.not_lt_zero _), fun _ _ hi => absurd hi (Nat.not_lt_zero _)⟩
theorem ApF.snoc {gs : List Fc} {f : Fc} {m : Nat} (h : ApF gs) (hlt : ∀ p, p < gs.length → ∀ b, adK (fcAt gs p) = some b → b < m) (hf : ∀ b, adK f = some b → m ≤ b) : ApF (gs ++ [f]) := fun p q hp hq hpq b h1 h2 => by
  have hl : (gs ++ [f]).length = gs.length + 1 := by simp
  rw [hl] at hp hq
  rw [fcAt_snoc] at h1 h2
  by_cases c1 : p < gs.length
  · rw [if_pos c1] at h1
    by_cases c2 : q < gs.length
    · rw [if_pos c2] at h2
      exact h p q c1 c2 hpq b h1 h2
    · rw [if_neg c2, if_pos (by omega)] at h2
      have := hlt p c1 b h1
      have := hf b h2
      omega
  · rw [if_neg c1, if_pos (by omega)] at h1
    by_cases c2 : q < gs.length
    · rw [if_pos c2] at h2
      have := hlt q c2 b h2
      have := hf b h1
      omega
    · omega
theorem ApS.snoc {qs : List Sb} {q : Sb} {m : Nat} (h : ApS qs) (hq : ApF q.fs) (hlt : ∀ i, i < qs.length → ∀ p, p < (sbAt qs i).fs.length → ∀ b, adK (fcAt (sbAt qs i).fs p) = some b → b < m) (hf : ∀ p, p < q.fs.length → ∀ b, adK (fcAt q.fs p) = some b → m ≤ b) : ApS (qs ++ [q]) := by
  have hl : (qs ++ [q]).length = qs.length + 1 := by simp
  refine ⟨fun i hi => ?_, fun i k hi hk hik p r hp hr b h1 h2 => ?_⟩
  · rw [hl] at hi
    rw [sbAt_snoc]
    by_cases c1 : i < qs.length
    · rw [if_pos c1]; exact h.1 i c1
    · rw [if_neg c1, if_pos (by omega)]; exact hq
  · rw [hl] at hi hk
    rw [sbAt_snoc] at hp h1 hr h2
    by_cases c1 : i < qs.length
    · rw [if_pos c1] at hp h1
      by_cases c2 : k < qs.length
      · rw [if_pos c2] at hr h2
        exact h.2 i k c1 c2 hik p r hp hr b h1 h2
      · rw [if_neg c2, if_pos (by omega)] at hr h2
        have := hlt i c1 p hp b h1
        have := hf r hr b h2
        omega
    · rw [if_neg c1, if_pos (by omega)] at hp h1
      by_cases c2 : k < qs.length
      · rw [if_pos c2] at hr h2
        have := hlt k c2 r hr b h2
        have := hf p hp b h1
        omega
      · omega
/-- The same, and no two faces have their addresses in one block. -/
def Fv2Post (vid : Int) (rs : List Rg) (ss : List Sb) (w : World) (e : Ending) (w' : World) : Prop :=
  ∃ vR vS ts, e = .returned (.agg #[.int .i64 vid, vR, vS]) ∧ OwnR w' w.heap.size vR rs ∧ sameSs ss ts ∧ OSs w' w.heap.size vS ts ts.length ∧ Below w.heap.size w w' ∧ ApS ts
/-- The boxes: the network handed in, the result, and what is being made. -/
structure TW (w W : World) (vid : Int) (v0 u0 : Value) (bo : Nat) (vR v : Value) : Prop where
  hb : W.heap[w.heap.size]? = some (vpB vid v0 u0)
  hs : W.heap[w.heap.size + 1]? = some (vpB 0 (.slice none 0 0) (.slice none 0 0))
  ho : W.heap[bo]? = some (vpB vid vR v)
  below : Below w.heap.size w W
theorem TW.later {w W W' : World} {vid : Int} {v0 u0 : Value} {bo : Nat} {vR v : Value} (h : TW w W vid v0 u0 bo vR v) (hb : Below W.heap.size W W') : TW w W' vid v0 u0 bo vR v :=
  ⟨heap_later hb h.hb, heap_later hb h.hs, heap_later hb h.ho, h.below.trans (hb.mono h.below.size)⟩
theorem OwnS.grows {w w' : World} {base : Nat} {v : Value} {qs : List Sb} (h : OwnS w base v qs) (hg : w.grownBy w' v.ownBlock) {b : Nat} {cs : Array Value} {t : TypeId} (hb : w.heap[b]? = some (.cells cs t)) (ht : t ≠ 90) : w'.heap[b]? = some (.cells cs t) :=
  grown_keep hg (h.ne hb ht) hb

set_option maxRecDepth 100000 in
set_option maxHeartbeats 6400000 in
theorem ownVpc2_any (vid : Int) (rx : Option Addr) (rn rc : Nat) (rs : List Rg) (sx : Option Addr) (sn sc : Nat) (ss : List Sb) (w : World) (hv : Vp w rx rn rc rs sx sn sc ss) (hrn : rn ≤ 64) (hsn : sn ≤ 64) (hm : ∀ i, i < sn → (sbAt ss i).n ≤ 64) (hm2 : ∀ i, i < sn → ∀ j, j < (sbAt ss i).n → (fcAt (sbAt ss i).fs j).n ≤ 64) :
    Calls Tryz.prog 66 #[.agg #[.int .i64 vid, .slice rx rn rc, .slice sx sn sc]] w (Fv2Post vid rs ss w) := by
  have hsl : Hid (ss.length = sn) := hv.subs.len
  go_enter Tryz.func66, Tryz.ntmps66
  go_upto_region 1 with fail
  obtain ⟨w1, hw1⟩ : ∃ w1, w1 = (w.alloc (vpB vid (.slice rx rn rc) (.slice sx sn sc))).alloc (vpB 0 (.slice none 0 0) (.slice none 0 0)) := ⟨_, rfl⟩
  rw [← hw1]
  have hs1 : w1.heap.size = w.heap.size + 2 := by rw [hw1]; simp
  have hbb1 : w1.heap[w.heap.size]? = some (vpB vid (.slice rx rn rc) (.slice sx sn sc)) := by rw [hw1]; exact heap_old _ (heap_new _ rfl)
  have hss1 : w1.heap[w.heap.size + 1]? = some (vpB 0 (.slice none 0 0) (.slice none 0 0)) := by rw [hw1]; exact heap_new _ (by simp)
  have hB1 : Below w.heap.size w w1 := by rw [hw1]; exact bl2 w _ _
  have hs1' : Hid (w1.heap.size = w.heap.size + 2) := hs1
  have hRS1 := (hv.later hB1).ranges
  have b0 : ∀ u : Ws w1.heap.size w1, u.val.cell? ⟨w.heap.size, 0, none⟩ = some (.int .i64 vid) := Ws.cell (by omega) ((box_cells hbb1).1 0)
  have b1 : ∀ u : Ws w1.heap.size w1, u.val.cell? ⟨w.heap.size, 1, none⟩ = some (.slice rx rn rc) := Ws.cell (by omega) ((box_cells hbb1).1 1)
  clear hw1 hs1
  go_cut [3] (fun p wc => ∃ bo vR, p = .pointer (some ⟨bo, 0, none⟩) ∧ wc.heap[bo]? = some (vpB vid vR (.slice none 0 0)) ∧ w1.heap.size ≤ bo ∧ OwnR wc w1.heap.size vR rs ∧ Below w1.heap.size w1 wc)
  case first =>
    have hbd : Below w1.heap.size w1 w1.drew := (Below.refl _ _).drew
    refine wp_region_V (fun w' => ∃ u : Ws w1.heap.size w1, w' = u.val) (fun j => decide (j < 8)) 9 _ (by kernel_rfl) rfl rfl ?_
    refine wpV_takes 5 [0, 1, 3, 4] rfl _ rfl (by kernel_rfl) (fun d _ _ _ _ h => by cases d <;> exact h) ⟨⟨_, hbd⟩, rfl⟩ ?_
    simp only [List.map_cons, List.map_nil, List.getD_cons_zero, List.getD_cons_succ]
    repeat (go_big_quiet_step (fail))
    refine wpQuiet_nil ?_
    have hnil : ∀ W : World, w1.heap.size ≤ W.heap.size → OwnR (W.alloc (.cells #[] 29)) w1.heap.size (.slice (some ⟨W.heap.size, 0, none⟩) 0 0) [] := fun W hW => ⟨rfl, .inr ⟨W.heap.size, 0, #[], rfl, hW, heap_new _ rfl, by simp, by unfold maxLen; omega, by simp, rfl⟩⟩
    clear b0 b1
    refine wpV_two 2 7 _ _ _ _ (by kernel_rfl) (by kernel_rfl) rfl rfl rfl rfl ?_ ?_
    · intro K hK
      simp only [List.getD_cons_zero, List.getD_cons_succ]
      go_wp2_with fail
      have hba : Below w1.heap.size w1 (w1.alloc (.cells #[] 29)).drew := (bl1 w1 _).drew
      refine wildK_normal (hK.out _ _ ⟨⟨_, hba⟩, rfl⟩ ?_)
      clear hK K
      have hOa : OwnR (w1.alloc (.cells #[] 29)).drew w1.heap.size (.slice (some ⟨w1.heap.size, 0, none⟩) 0 0) [] := hnil w1 (Nat.le_refl _)
      refine wpV_two 5 7 _ _ _ _ (by kernel_rfl) (by kernel_rfl) rfl rfl rfl rfl ?_ ?_
      · intro K hK
        simp only [List.getD_cons_zero, List.getD_cons_succ]
        refine wpList_append_RR rfl _ _ rfl w1.heap.size _ [] rfl hOa rx rn rc rs rfl (hRS1.later hba) (by simp; omega) (by simp) ?_
        intro v5 w5 hO5 hg5
        rw [List.nil_append] at hO5
        have hb5 : Below w1.heap.size w1 w5 := below_grownr hba hg5 (fun k e => (hOa.lt k e).1)
        obtain ⟨x5, c5, hv5, -⟩ := hO5.rs
        subst hv5
        go_wp2_with fail
        refine wildK_normal (hK.out _ _ ⟨⟨_, hb5⟩, rfl⟩ ?_)
        clear hK K
        refine wpV_takes 2 [6] rfl _ rfl (by kernel_rfl) (fun d _ _ _ _ h => by cases d <;> exact h) ⟨⟨_, hb5⟩, rfl⟩ ?_
        simp only [List.map_cons, List.map_nil, List.getD_cons_zero, List.getD_cons_succ]
        repeat (go_big_quiet_step (fail))
        refine wpQuiet_nil ?_
        refine wpV_one 7 _ _ (by kernel_rfl) (by kernel_rfl) rfl rfl ?_
        intro K hK
        simp only [List.getD_cons_zero, List.getD_cons_succ]
        go_wp2_with fail
        refine wildK_normal (hK.out _ _ ⟨⟨_, hb5.trans ((bl1 w5 _).mono hb5.size)⟩, rfl⟩ ?_)
        clear hK K
        refine wpV_tail [8] rfl (by kernel_rfl) ?_
        simp only [List.map_cons, List.map_nil, List.getD_cons_zero, List.getD_cons_succ]
        go_wp2_with fail
        go_meet
        case rel => exact ⟨w5.heap.size, _, rfl, heap_new _ rfl, hb5.size, OwnR.later hO5 (bl1 w5 _), hb5.trans ((bl1 w5 _).mono hb5.size)⟩
      · intro K hK
        simp only [List.getD_cons_zero, List.getD_cons_succ]
        go_wp2_with fail
        have hbb : Below w1.heap.size w1 ((w1.alloc (.cells #[] 29)).alloc (.cells #[.int .i64 0, .slice none 0 0, .slice none 0 0] 52)).drew := (bl2 w1 _ _).drew
        refine wildK_normal (hK.out _ _ ⟨⟨_, hbb⟩, rfl⟩ ?_)
        clear hK K
        have hOb : OwnR ((w1.alloc (.cells #[] 29)).alloc (.cells #[.int .i64 0, .slice none 0 0, .slice none 0 0] 52)).drew w1.heap.size (.slice (some ⟨w1.heap.size, 0, none⟩) 0 0) [] := OwnR.later (hnil w1 (Nat.le_refl _)) (bl1 (w1.alloc (.cells #[] 29)) _).drew
        have hho : ((w1.alloc (.cells #[] 29)).alloc (.cells #[.int .i64 0, .slice none 0 0, .slice none 0 0] 52)).drew.heap[w1.heap.size + 1]? = some (.cells #[.int .i64 0, .slice none 0 0, .slice none 0 0] 52) := heap_new (W := w1.alloc (.cells #[] 29)) _ (by simp)
        generalize ((w1.alloc (.cells #[] 29)).alloc (.cells #[.int .i64 0, .slice none 0 0, .slice none 0 0] 52)).drew = wy at hbb hOb hho ⊢
        refine wpV_one 5 _ _ (by kernel_rfl) (by kernel_rfl) rfl rfl ?_
        intro K hK
        simp only [List.getD_cons_zero, List.getD_cons_succ]
        refine wpList_append_RR rfl _ _ rfl w1.heap.size _ [] rfl hOb rx rn rc rs rfl (hRS1.later hbb) (by simp; omega) hbb.size ?_
        intro v5 w5 hO5 hg5
        rw [List.nil_append] at hO5
        have hb5 : Below w1.heap.size w1 w5 := below_grownr hbb hg5 (fun k e => (hOb.lt k e).1)
        have hho5 := grown_keep hg5 (hOb.ne hho (by decide)) hho
        obtain ⟨x5, c5, hv5, -⟩ := hO5.rs
        subst hv5
        go_wp2_with fail
        refine wildK_normal (hK.out _ _ ⟨⟨_, hb5⟩, rfl⟩ ?_)
        clear hK K
        have m0 : w5.cell? ⟨w1.heap.size + 1, 0, none⟩ = some (.int .i64 0) := (box_cells hho5).1 0
        have m1 : w5.cell? ⟨w1.heap.size + 1, 1, none⟩ = some (.slice none 0 0) := (box_cells hho5).1 1
        have m2 : w5.cell? ⟨w1.heap.size + 1, 2, none⟩ = some (.slice none 0 0) := (box_cells hho5).1 2
        have z0 := (box_cells hho5).2 0
        have z1 := (box_cells hho5).2 1
        have z2 := (box_cells hho5).2 2
        refine wpV_takes 1 [6] rfl _ rfl (by kernel_rfl) (fun d _ _ _ _ h => by cases d <;> exact h) ⟨⟨_, hb5⟩, rfl⟩ ?_
        simp only [List.map_cons, List.map_nil, List.getD_cons_zero, List.getD_cons_succ]
        repeat (go_big_quiet_step (fail))
        refine wpQuiet_nil ?_
        refine wpV_tail [8] rfl (by kernel_rfl) ?_
        simp only [List.map_cons, List.map_nil, List.getD_cons_zero, List.getD_cons_succ]
        go_wp2_with fail
        go_meet
        case rel => exact ⟨w1.heap.size + 1, _, rfl, vpB_set hho5, by omega, ((hO5.putBox hho5 (by decide)).putBox (heap_setCell_same _ _ 0 _ _ _ hho5) (by decide)).putBox (heap_setCell_same _ _ 1 _ _ _ (heap_setCell_same _ _ 0 _ _ _ hho5)) (by decide), ((hb5.setCell (p := ⟨w1.heap.size + 1, 0, none⟩) (by simp) _).setCell (p := ⟨w1.heap.size + 1, 1, none⟩) (by simp) _).setCell (p := ⟨w1.heap.size + 1, 2, none⟩) (by simp) _⟩
    · intro K hK
      simp only [List.getD_cons_zero, List.getD_cons_succ]
      go_wp2_with fail
      have hba : Below w1.heap.size w1 (w1.alloc (.cells #[.int .i64 0, .slice none 0 0, .slice none 0 0] 52)).drew := (bl1 w1 _).drew
      refine wildK_normal (hK.out _ _ ⟨⟨_, hba⟩, rfl⟩ ?_)
      clear hK K
      refine wpV_one 2 _ _ (by kernel_rfl) (by kernel_rfl) rfl rfl ?_
      intro K hK
      simp only [List.getD_cons_zero, List.getD_cons_succ]
      go_wp2_with fail
      have hbb : Below w1.heap.size w1 ((w1.alloc (.cells #[.int .i64 0, .slice none 0 0, .slice none 0 0] 52)).alloc (.cells #[] 29)).drew := (bl2 w1 _ _).drew
      refine wildK_normal (hK.out _ _ ⟨⟨_, hbb⟩, rfl⟩ ?_)
      clear hK K
      have hOb : OwnR ((w1.alloc (.cells #[.int .i64 0, .slice none 0 0, .slice none 0 0] 52)).alloc (.cells #[] 29)).drew w1.heap.size (.slice (some ⟨w1.heap.size + 1, 0, none⟩) 0 0) [] := by
        have := hnil (w1.alloc (.cells #[.int .i64 0, .slice none 0 0, .slice none 0 0] 52)) (by simp)
        rw [World.size_alloc] at this
        exact this
      have hho : ((w1.alloc (.cells #[.int .i64 0, .slice none 0 0, .slice none 0 0] 52)).alloc (.cells #[] 29)).drew.heap[w1.heap.size]? = some (.cells #[.int .i64 0, .slice none 0 0, .slice none 0 0] 52) := heap_old _ (heap_new (W := w1) _ rfl)
      generalize ((w1.alloc (.cells #[.int .i64 0, .slice none 0 0, .slice none 0 0] 52)).alloc (.cells #[] 29)).drew = wy at hbb hOb hho ⊢
      refine wpV_one 5 _ _ (by kernel_rfl) (by kernel_rfl) rfl rfl ?_
      intro K hK
      simp only [List.getD_cons_zero, List.getD_cons_succ]
      refine wpList_append_RR rfl _ _ rfl w1.heap.size _ [] rfl hOb rx rn rc rs rfl (hRS1.later hbb) (by simp; omega) hbb.size ?_
      intro v5 w5 hO5 hg5
      rw [List.nil_append] at hO5
      have hb5 : Below w1.heap.size w1 w5 := below_grownr hbb hg5 (fun k e => (hOb.lt k e).1)
      have hho5 := grown_keep hg5 (hOb.ne hho (by decide)) hho
      obtain ⟨x5, c5, hv5, -⟩ := hO5.rs
      subst hv5
      go_wp2_with fail
      refine wildK_normal (hK.out _ _ ⟨⟨_, hb5⟩, rfl⟩ ?_)
      clear hK K
      have m0 : w5.cell? ⟨w1.heap.size, 0, none⟩ = some (.int .i64 0) := (box_cells hho5).1 0
      have m1 : w5.cell? ⟨w1.heap.size, 1, none⟩ = some (.slice none 0 0) := (box_cells hho5).1 1
      have m2 : w5.cell? ⟨w1.heap.size, 2, none⟩ = some (.slice none 0 0) := (box_cells hho5).1 2
      have z0 := (box_cells hho5).2 0
      have z1 := (box_cells hho5).2 1
      have z2 := (box_cells hho5).2 2
      refine wpV_takes 1 [6] rfl _ rfl (by kernel_rfl) (fun d _ _ _ _ h => by cases d <;> exact h) ⟨⟨_, hb5⟩, rfl⟩ ?_
      simp only [List.map_cons, List.map_nil, List.getD_cons_zero, List.getD_cons_succ]
      repeat (go_big_quiet_step (fail))
      refine wpQuiet_nil ?_
      refine wpV_tail [8] rfl (by kernel_rfl) ?_
      simp only [List.map_cons, List.map_nil, List.getD_cons_zero, List.getD_cons_succ]
      go_wp2_with fail
      go_meet
      case rel => exact ⟨w1.heap.size, _, rfl, vpB_set hho5, by omega, ((hO5.putBox hho5 (by decide)).putBox (heap_setCell_same _ _ 0 _ _ _ hho5) (by decide)).putBox (heap_setCell_same _ _ 1 _ _ _ (heap_setCell_same _ _ 0 _ _ _ hho5)) (by decide), ((hb5.setCell (p := ⟨w1.heap.size, 0, none⟩) (by simp) _).setCell (p := ⟨w1.heap.size, 1, none⟩) (by simp) _).setCell (p := ⟨w1.heap.size, 2, none⟩) (by simp) _⟩
  case rest =>
    obtain ⟨bo, vR, rfl, hbo, hbo1, hOR, hBc⟩ := hcut
    clear b0 b1
    have hT0 : TW w wc vid (.slice rx rn rc) (.slice sx sn sc) bo vR (.slice none 0 0) := ⟨heap_later hBc hbb1, heap_later hBc hss1, hbo, hB1.trans (hBc.mono hB1.size)⟩
    have hs0 : w1.heap.size ≤ wc.heap.size := hBc.size
    obtain ⟨base, hbase⟩ : ∃ base, base = w1.heap.size := ⟨_, rfl⟩
    rw [← hbase] at hOR hbo1 hs0
    have hsz : Hid (base = w.heap.size + 2) := by unfold Hid; rw [hbase]; exact hs1'.out
    clear hbb1 hss1 hB1 hs1' hRS1 hbo hBc hbase w1
    go_wp2
    go_loopw [4] (fun i wr => ∃ (k : Nat) (v : Value) (qs : List Sb), i = .int .i64 k ∧ k ≤ sn ∧ TW w wr vid (.slice rx rn rc) (.slice sx sn sc) bo vR v ∧ base ≤ wr.heap.size ∧ OwnR wr base vR rs ∧ OSs wr base v qs qs.length ∧ qs.length = k ∧ (∀ j, j < k → sameS (sbAt ss j) (sbAt qs j)) ∧ Hid (ApS qs)) (fun i _ => sn - (intOf i).toNat)
    case atStart => exact ⟨0, _, [], rfl, by omega, hT0, hs0, hOR, OSs.nil _ _, rfl, fun j hj => by omega, ApS.nil⟩
    case round =>
      clear hT0 hs0 hOR
      obtain ⟨k, v, qs, rfl, hkn, hTr, hsr, hOR, hq, hql, hsame, hApS⟩ := hrel
      have hql' : Hid (qs.length = k) := hql
      have hsame' : Hid (∀ j, j < k → sameS (sbAt ss j) (sbAt qs j)) := hsame
      clear hql hsame
      have b2 : wr.cell? ⟨w.heap.size, 2, none⟩ = some (.slice sx sn sc) := (box_cells hTr.hb).1 2
      by_cases hlt : k < sn
      · have hkw := hv.later hTr.below
        obtain ⟨b, o, rfl, c0, c1, c2, c3⟩ := hkw.subs.cells k hlt
        obtain ⟨hlc, hlm, hFS⟩ := hkw.subs.faces k hlt
        have hk0 : (0 : Int) ≤ k := by omega
        have hkn2 : (k : Int) < sn := by omega
        have hlth : Hid (k < sn) := hlt
        have hmk := hm k hlt
        have hmk2 := hm2 k hlt
        clear hlt
        have hblt : b < wr.heap.size := by
          unfold World.cell? at c0
          simp only at c0
          cases hh : wr.heap[b]? with
          | none => simp [hh] at c0
          | some x => exact (Array.getElem?_eq_some_iff.1 hh).1
        go_upto_region 5 with fail
        have hvlt : w.heap.size < wr.heap.size := (Array.getElem?_eq_some_iff.1 hTr.hb).1
        have e2 : ∀ u : Ws wr.heap.size wr, u.val.cell? ⟨w.heap.size, 2, none⟩ = some (.slice (some ⟨b, o, none⟩) sn sc) := Ws.cell hvlt b2
        have e4 : ∀ u : Ws wr.heap.size wr, u.val.cell? ⟨b, o + k * 4, none⟩ = some (.int .i64 (sbAt ss k).id) := Ws.cell hblt c0
        have e5 : ∀ u : Ws wr.heap.size wr, u.val.cell? ⟨b, o + k * 4 + 1, none⟩ = some (.int .i64 (sbAt ss k).a) := Ws.cell hblt c1
        have e6 : ∀ u : Ws wr.heap.size wr, u.val.cell? ⟨b, o + k * 4 + 2, none⟩ = some (.int .i64 (sbAt ss k).l) := Ws.cell hblt c2
        have hbd : Below wr.heap.size wr wr.drew := (Below.refl _ _).drew
        refine wp_region_V (fun w' => ∃ u : Ws wr.heap.size wr, w' = u.val) (fun j => decide (j < 14)) 15 _ (by kernel_rfl) rfl rfl ?_
        refine wpV_takes 2 [0, 1, 2, 3, 4, 5, 6, 7, 8, 9, 10, 11, 12] rfl _ rfl (by kernel_rfl) (fun d _ _ _ _ h => by cases d <;> exact h) ⟨⟨_, hbd⟩, rfl⟩ ?_
        simp only [List.map_cons, List.map_nil, List.getD_cons_zero, List.getD_cons_succ]
        repeat (go_big_quiet_step (fail))
        refine wpQuiet_nil ?_
        clear e2 e4 e5 e6
        refine wpV_one 13 _ _ (by kernel_rfl) (by kernel_rfl) rfl rfl ?_
        intro K hK
        simp only [List.getD_cons_zero, List.getD_cons_succ]
        go_wp2_with fail
        refine wildK_normal (hK.out _ _ ⟨⟨_, (bl1 wr _).drew⟩, rfl⟩ ?_)
        clear hK K
        refine wpV_tail [14] rfl (by kernel_rfl) ?_
        simp only [List.map_cons, List.map_nil, List.getD_cons_zero, List.getD_cons_succ]
        go_upto_region 6 with fail
        obtain ⟨w3, hw3⟩ : ∃ w3, w3 = (wr.alloc (.cells #[.int .i64 (sbAt ss k).id, .int .i64 (sbAt ss k).a, .int .i64 (sbAt ss k).l, .slice none 0 0] 90)).drew := ⟨_, rfl⟩
        rw [← hw3]
        have hB3 : Below wr.heap.size wr w3 := by rw [hw3]; exact (bl1 wr _).drew
        have hv3 : w3.heap[wr.heap.size]? = some (.cells #[.int .i64 (sbAt ss k).id, .int .i64 (sbAt ss k).a, .int .i64 (sbAt ss k).l, .slice none 0 0] 90) := by rw [hw3]; exact heap_new (W := wr) _ rfl
        clear hw3
        obtain ⟨wo, rfl⟩ : ∃ wo, wo = wr := ⟨_, rfl⟩
        go_wp2
        go_loopw [6] (fun i ws => ∃ (j : Nat) (vF : Value) (gs : List Fc), i = .int .i64 j ∧ j ≤ (sbAt ss k).n ∧ Below wo.heap.size wo ws ∧ ws.heap[wo.heap.size]? = some (.cells #[.int .i64 (sbAt ss k).id, .int .i64 (sbAt ss k).a, .int .i64 (sbAt ss k).l, vF] 90) ∧ OFs ws (wo.heap.size + 1) vF gs gs.length ∧ gs.length = j ∧ (∀ q, q < j → sameF (fcAt (sbAt ss k).fs q) (fcAt gs q)) ∧ Hid (ApF gs)) (fun i _ => (sbAt ss k).n - (intOf i).toNat)
        case atStart => exact ⟨0, _, [], rfl, by omega, hB3, hv3, OFs.nil _ _, rfl, fun j hj => by omega, ApF.nil⟩
        case round =>
          clear hB3 hv3
          obtain ⟨j, vF, gs, rfl, hjn, hBs, hvs, hg, hgl, hgsame, hApF⟩ := hrel
          have hgl' : Hid (gs.length = j) := hgl
          have hgsame' : Hid (∀ q, q < j → sameF (fcAt (sbAt ss k).fs q) (fcAt gs q)) := hgsame
          clear hgl hgsame
          have hTs := hTr.later hBs
          have d2 : wr.cell? ⟨w.heap.size, 2, none⟩ = some (.slice (some ⟨b, o, none⟩) sn sc) := (box_cells hTs.hb).1 2
          have hwos : wo.heap.size + 1 ≤ wr.heap.size := (Array.getElem?_eq_some_iff.1 hvs).1
          by_cases hltj : j < (sbAt ss k).n
          · obtain ⟨b3, o3, hx3, q0, q1⟩ := (hFS.later hBs).cells j hltj
            obtain ⟨hac, ham, hAS⟩ := (hFS.later hBs).addrs j hltj
            have d3 : wr.cell? ⟨b, o + k * 4 + 3, none⟩ = some (.slice (some ⟨b3, o3, none⟩) (sbAt ss k).n (sbAt ss k).c) := by rw [← hx3]; exact cell_later hBs c3
            have hj0 : (0 : Int) ≤ j := by omega
            have hjn2 : (j : Int) < (sbAt ss k).n := by omega
            have hltjh : Hid (j < (sbAt ss k).n) := hltj
            have hmj := hmk2 j hltj
            clear hltj hx3
            go_upto_region 10 with fail
            obtain ⟨w5, hw5⟩ : ∃ w5, w5 = wr.alloc (.cells #[.int .i64 (fcAt (sbAt ss k).fs j).id, .slice (fcAt (sbAt ss k).fs j).x (fcAt (sbAt ss k).fs j).n (fcAt (sbAt ss k).fs j).c] 99) := ⟨_, rfl⟩
            rw [← hw5]
            have hB5 : Below wr.heap.size wr w5 := by rw [hw5]; exact bl1 wr _
            have hf5 : w5.heap[wr.heap.size]? = some (.cells #[.int .i64 (fcAt (sbAt ss k).fs j).id, .slice (fcAt (sbAt ss k).fs j).x (fcAt (sbAt ss k).fs j).n (fcAt (sbAt ss k).fs j).c] 99) := by rw [hw5]; exact heap_new _ rfl
            have hs5 : wr.heap.size + 1 ≤ w5.heap.size := by rw [hw5]; simp
            clear hw5 d2 d3 q0 q1
            have hv5 := heap_later hB5 hvs
            have hAS5 := hAS.later hB5
            have e0 : ∀ u : Ws w5.heap.size w5, u.val.cell? ⟨wo.heap.size, 3, none⟩ = some vF := Ws.cell (by omega) ((box_cells hv5).1 3)
            have e1 : ∀ u : Ws w5.heap.size w5, u.val.cell? ⟨wr.heap.size, 0, none⟩ = some (.int .i64 (fcAt (sbAt ss k).fs j).id) := Ws.cell (by omega) ((box_cells hf5).1 0)
            have e2 : ∀ u : Ws w5.heap.size w5, u.val.cell? ⟨wr.heap.size, 1, none⟩ = some (.slice (fcAt (sbAt ss k).fs j).x (fcAt (sbAt ss k).fs j).n (fcAt (sbAt ss k).fs j).c) := Ws.cell (by omega) ((box_cells hf5).1 1)
            have hbd : Below w5.heap.size w5 w5.drew := (Below.refl _ _).drew
            refine wp_region_V (fun w' => ∃ u : Ws w5.heap.size w5, w' = u.val) (fun j => decide (j < 10)) 13 _ (by kernel_rfl) rfl rfl ?_
            refine wpV_takes 7 [0, 1, 2, 3, 5, 6] rfl _ rfl (by kernel_rfl) (fun d _ _ _ _ h => by cases d <;> exact h) ⟨⟨_, hbd⟩, rfl⟩ ?_
            simp only [List.map_cons, List.map_nil, List.getD_cons_zero, List.getD_cons_succ]
            repeat (go_big_quiet_step (fail))
            refine wpQuiet_nil ?_
            clear e0 e1 e2
            refine wpV_one 4 _ _ (by kernel_rfl) (by kernel_rfl) rfl rfl ?_
            intro K hK
            simp only [List.getD_cons_zero, List.getD_cons_succ]
            go_wp2_with fail
            have hba : Below w5.heap.size w5 (w5.alloc (.cells #[] 3)).drew := (bl1 w5 _).drew
            refine wildK_normal (hK.out _ _ ⟨⟨_, hba⟩, rfl⟩ ?_)
            clear hK K
            have hOa : OwnI (w5.alloc (.cells #[] 3)).drew w5.heap.size (.slice (some ⟨w5.heap.size, 0, none⟩) 0 0) [] := ⟨rfl, .inr ⟨w5.heap.size, 0, #[], rfl, Nat.le_refl _, heap_new (W := w5) _ rfl, by simp, by unfold maxLen; omega, by simp, rfl⟩⟩
            refine wpV_one 7 _ _ (by kernel_rfl) (by kernel_rfl) rfl rfl ?_
            intro K hK
            simp only [List.getD_cons_zero, List.getD_cons_succ]
            refine wpList_append_II rfl _ _ rfl w5.heap.size _ [] rfl hOa (fcAt (sbAt ss k).fs j).x (fcAt (sbAt ss k).fs j).n (fcAt (sbAt ss k).fs j).c (fcAt (sbAt ss k).fs j).ns rfl (hAS5.later hba) (by simp; omega) (by simp) ?_
            intro v7 w7 hO7 hg7
            rw [List.nil_append] at hO7
            have hb7 : Below w5.heap.size w5 w7 := below_grownr hba hg7 (fun k e => (hOa.lt k e).1)
            obtain ⟨x7, c7, hv7, -⟩ := hO7.mem
            subst hv7
            have hlen : Hid ((fcAt (sbAt ss k).fs j).ns.length = (fcAt (sbAt ss k).fs j).n) := hAS5.len
            clear hba hOa hg7
            go_wp2_with fail
            refine wildK_normal (hK.out _ _ ⟨⟨_, hb7⟩, rfl⟩ ?_)
            clear hK K
            refine wpV_takes 4 [8] rfl _ rfl (by kernel_rfl) (fun d _ _ _ _ h => by cases d <;> exact h) ⟨⟨_, hb7⟩, rfl⟩ ?_
            simp only [List.map_cons, List.map_nil, List.getD_cons_zero, List.getD_cons_succ]
            repeat (go_big_quiet_step (fail))
            refine wpQuiet_nil ?_
            refine wpV_one 9 _ _ (by kernel_rfl) (by kernel_rfl) rfl rfl ?_
            intro K hK
            simp only [List.getD_cons_zero, List.getD_cons_succ]
            go_wp2_with fail
            refine wildK_normal (hK.out _ _ ⟨⟨_, hb7.trans ((bl1 w7 _).mono hb7.size)⟩, rfl⟩ ?_)
            clear hK K
            obtain ⟨f', hf'⟩ : ∃ f', Hid (f' = (⟨(fcAt (sbAt ss k).fs j).id, x7, (fcAt (sbAt ss k).fs j).ns.length, c7, (fcAt (sbAt ss k).fs j).ns⟩ : Fc)) := ⟨_, rfl⟩
            have hB7 : Below wr.heap.size wr w7 := hB5.trans (hb7.mono (by omega))
            have hBa : Below wr.heap.size wr (w7.alloc (.cells #[.int .i64 (fcAt (sbAt ss k).fs j).id, .slice x7 (fcAt (sbAt ss k).fs j).ns.length c7] 99)) := hB7.trans ((bl1 w7 _).mono hB7.size)
            refine wpV_tail [10, 11, 12] rfl (by kernel_rfl) ?_
            simp only [List.map_cons, List.map_nil, List.getD_cons_zero, List.getD_cons_succ]
            refine wpList_append_F rfl _ _ rfl (wo.heap.size + 1) vF gs rfl (hg.row.later hBa) ⟨w7.heap.size, 0, none⟩ 1 1 [f'] rfl rfl ?_ (by have := hgl'.out; omega) (Nat.le_trans hwos hBa.size) ?_
            · intro q u hq
              have hn := heap_new (W := w7) (.cells #[.int .i64 (fcAt (sbAt ss k).fs j).id, .slice x7 (fcAt (sbAt ss k).fs j).ns.length c7] 99) rfl
              rw [addr_add, Nat.zero_add]
              rw [hf'.out] at hq
              exact ((box_cells hn).1 q).trans (by rw [List.getElem?_toArray]; exact hq)
            intro v9 w9 hF9 hg9
            have hOI : OwnI (w7.alloc (.cells #[.int .i64 (fcAt (sbAt ss k).fs j).id, .slice x7 (fcAt (sbAt ss k).fs j).ns.length c7] 99)) wr.heap.size (.slice f'.x f'.n f'.c) f'.ns := by
              rw [hf'.out]
              exact (OwnI.low hO7 (by omega)).later (bl1 w7 _)
            have hF9' := OFs.snoc hg hwos hBa hOI hg9 hF9
            have hApF2 : Hid (ApF (gs ++ [f'])) := hApF.out.snoc (m := wr.heap.size) (fun p hp b hb => ((hg.own p hp).lt b hb).2) (fun b hb => (hOI.lt b hb).1)
            have hva := heap_later hBa hvs
            have hrowa := hg.row.later hBa
            have hv9 := grown_keep hg9 (hrowa.ne hva (by decide)) hva
            have hB9 : Below wo.heap.size wo w9 := below_grownr (hBs.trans (hBa.mono hBs.size)) hg9 (fun q e => by have := (hrowa.lt q e).1; omega)
            obtain ⟨x9, c9, hv9', -⟩ := hF9.mem
            have hl9 : Hid ((gs ++ [f']).length = gs.length + 1) := by unfold Hid; simp
            rw [hl9.out] at hv9'
            subst hv9'
            have p3 : w9.cell? ⟨wo.heap.size, 3, none⟩ = some vF := (box_cells hv9).1 3
            have z3 := (box_cells hv9).2 3
            clear hg9 hOI hrowa hva hBa hB7 hO7
            go_wp2
            have hvA : (w9.setCell ⟨wo.heap.size, 3, none⟩ (.slice x9 (gs.length + 1) c9)).heap[wo.heap.size]? = some (.cells #[.int .i64 (sbAt ss k).id, .int .i64 (sbAt ss k).a, .int .i64 (sbAt ss k).l, .slice x9 (gs.length + 1) c9] 90) := by
              have := heap_setCell_same w9 wo.heap.size 3 _ 90 (.slice x9 (gs.length + 1) c9) hv9
              simpa using this
            have hFA : OFs (w9.setCell ⟨wo.heap.size, 3, none⟩ (.slice x9 (gs.length + 1) c9)) (wo.heap.size + 1) (.slice x9 (gs.length + 1) c9) (gs ++ [f']) (gs ++ [f']).length := hF9'.kept (set_grown _ _ _ _) (fun q hq => by have := (hF9'.row.lt q hq).1; omega) (fun i hi q hq => by have := ((hF9'.own i hi).lt q hq).1; omega)
            go_roundw
            case rel => exact ⟨j + 1, _, gs ++ [f'], by go_num, hltjh.out, hB9.setCell (p := ⟨wo.heap.size, 3, none⟩) (Nat.le_refl _) _, hvA, hFA, by rw [List.length_append, hgl'.out]; rfl, fun q hq => by
              rw [fcAt_snoc, hgl'.out]
              by_cases hq2 : q < j
              · rw [if_pos hq2]; exact hgsame'.out q hq2
              · obtain rfl : q = j := by omega
                rw [if_neg hq2, if_pos rfl, hf'.out]
                exact ⟨rfl, hlen.out.symm, rfl⟩, hApF2⟩
            case measure => have := hltjh.out; simp [intOf]; omega
          · have hnj : ¬ (j : Int) < (sbAt ss k).n := by omega
            have d3 : wr.cell? ⟨b, o + k * 4 + 3, none⟩ = some (.slice (sbAt ss k).x (sbAt ss k).n (sbAt ss k).c) := cell_later hBs c3
            obtain ⟨xF, cF', hvF, -⟩ := hg.row.mem
            subst hvF
            have hfl := hFS.len
            have hgs : Hid (sameFs (sbAt ss k).fs gs) := ⟨by rw [hfl, hgl'.out]; omega, fun q hq => hgsame'.out q (by rw [hfl] at hq; omega)⟩
            have hgn : Hid (gs.length = (sbAt ss k).n) := by unfold Hid; rw [hgl'.out]; omega
            have p0 : wr.cell? ⟨wo.heap.size, 0, none⟩ = some (.int .i64 (sbAt ss k).id) := (box_cells hvs).1 0
            have p1 : wr.cell? ⟨wo.heap.size, 1, none⟩ = some (.int .i64 (sbAt ss k).a) := (box_cells hvs).1 1
            have p2 : wr.cell? ⟨wo.heap.size, 2, none⟩ = some (.int .i64 (sbAt ss k).l) := (box_cells hvs).1 2
            have p3 : wr.cell? ⟨wo.heap.size, 3, none⟩ = some (.slice xF gs.length cF') := (box_cells hvs).1 3
            have o2 : wr.cell? ⟨bo, 2, none⟩ = some v := (box_cells hTs.ho).1 2
            clear hfl hFS
            go_wp2_with (at_builtin; refine Hid.out ?_)
            unfold Hid
            obtain ⟨q', hq'⟩ : ∃ q', Hid (q' = (⟨(sbAt ss k).id, (sbAt ss k).a, (sbAt ss k).l, xF, gs.length, cF', gs⟩ : Sb)) := ⟨_, rfl⟩
            have hBa : Below wo.heap.size wo (wr.alloc (.cells #[.int .i64 (sbAt ss k).id, .int .i64 (sbAt ss k).a, .int .i64 (sbAt ss k).l, .slice xF gs.length cF'] 90)) := hBs.trans ((bl1 wr _).mono hBs.size)
            refine wpList_append_S rfl _ _ rfl base v qs rfl (hq.row.later hBa) ⟨wr.heap.size, 0, none⟩ 1 1 [q'] rfl rfl ?_ (by have := hql'.out; omega) (Nat.le_trans hsr hBa.size) ?_
            · intro q u hq
              have hn := heap_new (W := wr) (.cells #[.int .i64 (sbAt ss k).id, .int .i64 (sbAt ss k).a, .int .i64 (sbAt ss k).l, .slice xF gs.length cF'] 90) rfl
              rw [addr_add, Nat.zero_add]
              rw [hq'.out] at hq
              exact ((box_cells hn).1 q).trans (by rw [List.getElem?_toArray]; exact hq)
            intro v6 w6 hS6 hg6
            have hOFq : OFs (wr.alloc (.cells #[.int .i64 (sbAt ss k).id, .int .i64 (sbAt ss k).a, .int .i64 (sbAt ss k).l, .slice xF gs.length cF'] 90)) wo.heap.size (.slice q'.x q'.n q'.c) q'.fs q'.fs.length := by
              rw [hq'.out]
              exact (OFs.low hg (Nat.le_succ _)).later (bl1 wr _)
            have hos6 := OSs.snoc hq hsr hBa hOFq hg6 hS6
            have hApS2 : Hid (ApS (qs ++ [q'])) := hApS.out.snoc (m := wo.heap.size) (by rw [hq'.out]; exact hApF.out) (fun i hi p hp b hb => (((hq.own i hi).own p hp).lt b hb).2) (fun p hp b hb => ((hOFq.own p hp).lt b hb).1)
            have hrowa := hq.row.later hBa
            have hTa := hTr.later hBa
            have hT6 : TW w w6 vid (.slice rx rn rc) (.slice (some ⟨b, o, none⟩) sn sc) bo vR v := ⟨hrowa.grows hg6 hTa.hb (by decide), hrowa.grows hg6 hTa.hs (by decide), hrowa.grows hg6 hTa.ho (by decide), below_grownr hTa.below hg6 (fun q e => by have := (hrowa.lt q e).1; have := hsz.out; omega)⟩
            have hOR6 : OwnR w6 base vR rs := (OwnR.later hOR hBa).keptr hg6 (fun q hq2 e => by
              obtain ⟨cur, hc⟩ := hrowa.kind e
              exact (OwnR.later hOR hBa).ne hc (by decide) hq2)
            have hs6 : base ≤ w6.heap.size := Nat.le_trans (Nat.le_trans hsr hBa.size) hg6.size
            obtain ⟨x6, c6, hv6, -⟩ := hS6.mem
            have hl6 : Hid ((qs ++ [q']).length = qs.length + 1) := by unfold Hid; simp
            rw [hl6.out] at hv6
            subst hv6
            have o2' : w6.cell? ⟨bo, 2, none⟩ = some v := (box_cells hT6.ho).1 2
            have z2 := (box_cells hT6.ho).2 2
            clear p0 p1 p2 p3 o2 hg6 d2 d3 hrowa hTa hBa hOFq
            go_wp2
            have hoA : (w6.setCell ⟨bo, 2, none⟩ (.slice x6 (qs.length + 1) c6)).heap[bo]? = some (vpB vid vR (.slice x6 (qs.length + 1) c6)) := by
              have := heap_setCell_same w6 bo 2 _ 52 (.slice x6 (qs.length + 1) c6) hT6.ho
              simpa using this
            have hbo0 : w.heap.size + 2 ≤ bo := by have := hsz.out; omega
            have hTA : TW w (w6.setCell ⟨bo, 2, none⟩ (.slice x6 (qs.length + 1) c6)) vid (.slice rx rn rc) (.slice (some ⟨b, o, none⟩) sn sc) bo vR (.slice x6 (qs.length + 1) c6) := ⟨(heap_setCell_other w6 ⟨bo, 2, none⟩ _ _ (by show w.heap.size ≠ bo; omega)).trans hT6.hb, (heap_setCell_other w6 ⟨bo, 2, none⟩ _ _ (by show w.heap.size + 1 ≠ bo; omega)).trans hT6.hs, hoA, hT6.below.setCell (p := ⟨bo, 2, none⟩) (by show w.heap.size ≤ bo; omega) _⟩
            go_roundw
            case rel => exact ⟨k + 1, _, qs ++ [q'], by go_num, hlth.out, hTA, by simpa using hs6, hOR6.putBox hT6.ho (by decide), hos6.putBox hT6.ho (by decide) (by decide) (by decide), by rw [List.length_append, hql'.out]; rfl, fun q hq2 => by
              rw [sbAt_snoc, hql'.out]
              by_cases hq3 : q < k
              · rw [if_pos hq3]; exact hsame'.out q hq3
              · obtain rfl : q = k := by omega
                rw [if_neg hq3, if_pos rfl, hq'.out]
                exact ⟨rfl, rfl, rfl, hgn.out.symm, hgs.out⟩, hApS2⟩
            case measure => have := hlth.out; simp [intOf]; omega
      · have hnk : ¬ (k : Int) < sn := by omega
        have hfin : Hid (sameSs ss qs) := ⟨by rw [hsl.out, hql'.out]; omega, fun j hj => hsame'.out j (by rw [hsl.out] at hj; omega)⟩
        obtain ⟨xv, cv, rfl, -⟩ := hq.row.mem
        obtain ⟨xr, cr, rfl, -⟩ := hOR.rs
        have s0 : wr.cell? ⟨w.heap.size + 1, 0, none⟩ = some (.int .i64 0) := (box_cells hTr.hs).1 0
        have s1 : wr.cell? ⟨w.heap.size + 1, 1, none⟩ = some (.slice none 0 0) := (box_cells hTr.hs).1 1
        have s2 : wr.cell? ⟨w.heap.size + 1, 2, none⟩ = some (.slice none 0 0) := (box_cells hTr.hs).1 2
        have z0 := (box_cells hTr.hs).2 0
        have z1 := (box_cells hTr.hs).2 1
        have z2 := (box_cells hTr.hs).2 2
        have o0 : wr.cell? ⟨bo, 0, none⟩ = some (.int .i64 vid) := (box_cells hTr.ho).1 0
        have o1 : wr.cell? ⟨bo, 1, none⟩ = some (.slice xr rs.length cr) := (box_cells hTr.ho).1 1
        have o2 : wr.cell? ⟨bo, 2, none⟩ = some (.slice xv qs.length cv) := (box_cells hTr.ho).1 2
        have hb1 : w.heap.size + 1 < base := by have := hsz.out; omega
        go_wp2
        refine bodyPost_ret (v := .agg #[.int .i64 vid, .slice xr rs.length cr, .slice xv qs.length cv]) (by simp [results, Tryz.results66, go_sem, s0, s1, s2]) rfl ?_
        exact ⟨_, _, qs, rfl, (((hOR.put hb1).put hb1).put hb1).low (by omega), hfin.out, (((hq.put hb1).put hb1).put hb1).low (by omega), ((hTr.below.setCell (p := ⟨w.heap.size + 1, 0, none⟩) (Nat.le_add_right _ _) _).setCell (p := ⟨w.heap.size + 1, 1, none⟩) (Nat.le_add_right _ _) _).setCell (p := ⟨w.heap.size + 1, 2, none⟩) (Nat.le_add_right _ _) _, hApS.out⟩
theorem ownVpc_any (vid : Int) (rx : Option Addr) (rn rc : Nat) (rs : List Rg) (sx : Option Addr) (sn sc : Nat) (ss : List Sb) (w : World) (hv : Vp w rx rn rc rs sx sn sc ss) (hrn : rn ≤ 64) (hsn : sn ≤ 64) (hm : ∀ i, i < sn → (sbAt ss i).n ≤ 64) (hm2 : ∀ i, i < sn → ∀ j, j < (sbAt ss i).n → (fcAt (sbAt ss i).fs j).n ≤ 64) :
    Calls Tryz.prog 66 #[.agg #[.int .i64 vid, .slice rx rn rc, .slice sx sn sc]] w (FvPost vid rs ss w) := by
  refine (ownVpc2_any vid rx rn rc rs sx sn sc ss w hv hrn hsn hm hm2).mono ?_
  rintro e w' ⟨vR, vS, ts, h1, h2, h3, h4, h5, -⟩
  exact ⟨vR, vS, ts, h1, h2, h3, h4, h5⟩
end Go.Proofs.YtlalgkjollgcbaaGreat
/- What GrowVpc of the reference comes to. -/
namespace Go.Proofs.YtlalgkjollgcbaaGreat
open Go.RowKit Go.Shelf

/-- The first k of xs, with e ahead of the first one that is greater, if there was one yet. -/
def InsG {α : Type} (e : α) (gt : Nat → Bool) (xs : List α) (k : Nat) (d : Bool) (qs : List α) : Prop :=
  (d = true → ∃ i, i < k ∧ (∀ j, j < i → gt j = false) ∧ gt i = true ∧ qs = xs.take i ++ [e] ++ (xs.take k).drop i) ∧ (d = false → (∀ j, j < k → gt j = false) ∧ qs = xs.take k)
theorem InsG.start {α : Type} (e : α) (gt : Nat → Bool) (xs : List α) : InsG e gt xs 0 false [] := ⟨fun h => (by cases h), fun _ => ⟨fun j hj => (by omega), rfl⟩⟩
theorem take_one {α : Type} {xs : List α} {k : Nat} {x : α} (hx : xs[k]? = some x) : xs.take (k + 1) = xs.take k ++ [x] := by
  rw [List.take_add_one, hx]; rfl
theorem InsG.skip {α : Type} {e x : α} {gt : Nat → Bool} {xs qs : List α} {k : Nat} (h : InsG e gt xs k false qs) (hx : xs[k]? = some x) (hg : gt k = false) : InsG e gt xs (k + 1) false (qs ++ [x]) := by
  obtain ⟨h1, h2⟩ := h.2 rfl
  refine ⟨fun h => (by cases h), fun _ => ⟨fun j hj => ?_, by rw [h2, take_one hx]⟩⟩
  by_cases hj2 : j < k
  · exact h1 j hj2
  · obtain rfl : j = k := by omega
    exact hg
theorem InsG.put {α : Type} {e x : α} {gt : Nat → Bool} {xs qs : List α} {k : Nat} (h : InsG e gt xs k false qs) (hx : xs[k]? = some x) (hg : gt k = true) : InsG e gt xs (k + 1) true (qs ++ [e] ++ [x]) := by
  obtain ⟨h1, h2⟩ := h.2 rfl
  refine ⟨fun _ => ⟨k, by omega, h1, hg, ?_⟩, fun h => (by cases h)⟩
  have hk : k < xs.length := (List.getElem?_eq_some_iff.1 hx).1
  rw [h2, take_one hx, List.drop_append, List.length_take, Nat.min_eq_left (by omega), Nat.sub_self, List.drop_eq_nil_of_le (by simp; omega)]
  simp
theorem InsG.more {α : Type} {e x : α} {gt : Nat → Bool} {xs qs : List α} {k : Nat} (h : InsG e gt xs k true qs) (hx : xs[k]? = some x) : InsG e gt xs (k + 1) true (qs ++ [x]) := by
  obtain ⟨i, h1, h2, h3, h4⟩ := h.1 rfl
  refine ⟨fun _ => ⟨i, by omega, h2, h3, ?_⟩, fun h => (by cases h)⟩
  have hk : k < xs.length := (List.getElem?_eq_some_iff.1 hx).1
  rw [h4, take_one hx, List.drop_append, List.length_take, Nat.min_eq_left (by omega), show i - k = 0 by omega]
  simp
theorem InsG.len {α : Type} {e : α} {gt : Nat → Bool} {xs qs : List α} {k : Nat} {d : Bool} (h : InsG e gt xs k d qs) (hk : k ≤ xs.length) : qs.length = k + d.toNat := by
  cases d with
  | true =>
    obtain ⟨i, h1, h2, h3, h4⟩ := h.1 rfl
    rw [h4]
    simp
    omega
  | false =>
    rw [(h.2 rfl).2]
    simp
    omega
/-- The whole list with e at its place. -/
def PutG {α : Type} (e : α) (gt : Nat → Bool) (xs ys : List α) : Prop := ∃ i, i ≤ xs.length ∧ (∀ j, j < i → gt j = false) ∧ (i < xs.length → gt i = true) ∧ ys = xs.take i ++ [e] ++ xs.drop i
theorem InsG.all {α : Type} {e : α} {gt : Nat → Bool} {xs qs : List α} (h : InsG e gt xs xs.length true qs) : PutG e gt xs qs := by
  obtain ⟨i, h1, h2, h3, h4⟩ := h.1 rfl
  exact ⟨i, by omega, h2, fun _ => h3, by rw [h4, List.take_length]⟩
theorem InsG.last {α : Type} {e : α} {gt : Nat → Bool} {xs qs : List α} (h : InsG e gt xs xs.length false qs) : PutG e gt xs (qs ++ [e]) := by
  obtain ⟨h1, h2⟩ := h.2 rfl
  exact ⟨xs.length, by omega, h1, fun h => by omega, by rw [h2]; simp⟩
theorem PutG.one {α : Type} {e : α} {gt : Nat → Bool} {xs ys zs : List α} (h : PutG e gt xs ys) (g : PutG e gt xs zs) : ys = zs := by
  obtain ⟨i, h1, h2, h3, h4⟩ := h
  obtain ⟨j, g1, g2, g3, g4⟩ := g
  obtain rfl : i = j := by
    rcases Nat.lt_trichotomy i j with hij | hij | hij
    · have := g2 i hij; rw [h3 (by omega)] at this; cases this
    · exact hij
    · have := h2 j hij; rw [g3 (by omega)] at this; cases this
  rw [h4, g4]
theorem putRg_is {e : Rg} {qs rs : List Rg} : PutRg e qs rs ↔ PutG e (fun j => decide (e.a < (rgAt qs j).a)) qs rs := by
  unfold PutRg PutG
  simp
theorem rgAt_some {rs : List Rg} {k : Nat} (h : k < rs.length) : rs[k]? = some (rgAt rs k) := by
  unfold rgAt
  rw [List.getD_eq_getElem?_getD, List.getElem?_eq_getElem h]
  rfl
/-- The boxes of GrowVpc, from the call of OwnVpc on. -/
structure TGo (w5 W : World) (vid : Int) (vX vS : Value) : Prop where
  ho : W.heap[w5.heap.size]? = some (vpB vid vX vS)
  below : Below w5.heap.size w5 W
theorem TGo.put {w5 W : World} {vid : Int} {vX vS u : Value} (h : TGo w5 W vid vX vS) : TGo w5 (W.setCell ⟨w5.heap.size, 1, none⟩ u) vid u vS := by
  refine ⟨?_, h.below.setCell (p := ⟨w5.heap.size, 1, none⟩) (Nat.le_refl _) _⟩
  have := heap_setCell_same W w5.heap.size 1 _ 52 u h.ho
  simpa using this
theorem TGo.later {w5 W W' : World} {vid : Int} {vX vS : Value} (h : TGo w5 W vid vX vS) (hb : Below W.heap.size W W') : TGo w5 W' vid vX vS := ⟨heap_later hb h.ho, h.below.trans (hb.mono h.below.size)⟩
/-- Behind an append to the row that is being made. -/
theorem TGo.grown {w5 W W' : World} {vid : Int} {vX vS : Value} {qs : List Rg} (h : TGo w5 W vid vX vS) (hq : OwnR W (w5.heap.size + 1) vX qs) (hg : W.grownBy W' vX.ownBlock) : TGo w5 W' vid vX vS :=
  ⟨grown_keep hg (hq.ne h.ho (by decide)) h.ho, below_grownr h.below hg (fun q e => by have := (hq.lt q e).1; omega)⟩
theorem rgs_cells (W : World) (r : Rg) : ∀ j u, (flatR [r])[j]? = some u → (W.alloc (.cells #[.int .i64 r.a, .int .i64 r.l, .int .i64 r.p] 29)).cell? (Addr.add ⟨W.heap.size, 0, none⟩ j) = some u := fun j u hj => by
  have hn := heap_new (W := W) (.cells #[.int .i64 r.a, .int .i64 r.l, .int .i64 r.p] 29) rfl
  rw [addr_add, Nat.zero_add]
  exact ((box_cells hn).1 j).trans (by rw [List.getElem?_toArray]; exact hj)

set_option maxRecDepth 100000 in
set_option maxHeartbeats 6400000 in
theorem growVpc_any (vid : Int) (rx : Option Addr) (rn rc : Nat) (rs : List Rg) (sx : Option Addr) (sn sc : Nat) (ss : List Sb) (r : Rg) (w : World) (hv : Vp w rx rn rc rs sx sn sc ss) (hrn : rn ≤ 9223372036854775807) (hsn : sn ≤ 9223372036854775807) :
    Calls Tryz.prog 36 #[.agg #[.int .i64 vid, .slice rx rn rc, .slice sx sn sc], .agg #[.int .i64 r.a, .int .i64 r.l, .int .i64 r.p]] w (GrowPost vid rn rs sn ss r w) := by
  have hrl : Hid (rs.length = rn) := hv.ranges.len
  go_enter Tryz.func36, Tryz.ntmps36
  go_upto_region 1 with fail
  obtain ⟨w0, hw0⟩ : ∃ w0, w0 = ((w.alloc (vpB vid (.slice rx rn rc) (.slice sx sn sc))).alloc (.cells #[.int .i64 r.a, .int .i64 r.l, .int .i64 r.p] 29)).alloc (vpB 0 (.slice none 0 0) (.slice none 0 0)) := ⟨_, rfl⟩
  rw [← hw0]
  have hT0 : TG w w0 vid (.slice rx rn rc) (.slice sx sn sc) r := by
    rw [hw0]
    exact ⟨heap_old _ (heap_old _ (heap_new _ rfl)), heap_old _ (heap_new _ (by simp)), heap_new _ (by simp), (bl2 w _ _).alloc (by simp; omega) _⟩
  clear hw0
  have b0 : w0.cell? ⟨w.heap.size, 0, none⟩ = some (.int .i64 vid) := (box_cells hT0.hb).1 0
  have b1 : w0.cell? ⟨w.heap.size, 1, none⟩ = some (.slice rx rn rc) := (box_cells hT0.hb).1 1
  have b2 : w0.cell? ⟨w.heap.size, 2, none⟩ = some (.slice sx sn sc) := (box_cells hT0.hb).1 2
  have p0 : w0.cell? ⟨w.heap.size + 1, 0, none⟩ = some (.int .i64 r.a) := (box_cells hT0.hp).1 0
  have p1 : w0.cell? ⟨w.heap.size + 1, 1, none⟩ = some (.int .i64 r.l) := (box_cells hT0.hp).1 1
  have p2 : w0.cell? ⟨w.heap.size + 1, 2, none⟩ = some (.int .i64 r.p) := (box_cells hT0.hp).1 2
  have s0 : w0.cell? ⟨w.heap.size + 2, 0, none⟩ = some (.int .i64 0) := (box_cells hT0.hs).1 0
  have zs0 : w0.frozen? ⟨w.heap.size + 2, 0, none⟩ = false := (box_cells hT0.hs).2 0
  have s1 : w0.cell? ⟨w.heap.size + 2, 1, none⟩ = some (.slice none 0 0) := (box_cells hT0.hs).1 1
  have zs1 : w0.frozen? ⟨w.heap.size + 2, 1, none⟩ = false := (box_cells hT0.hs).2 1
  have s2 : w0.cell? ⟨w.heap.size + 2, 2, none⟩ = some (.slice none 0 0) := (box_cells hT0.hs).1 2
  have zs2 : w0.frozen? ⟨w.heap.size + 2, 2, none⟩ = false := (box_cells hT0.hs).2 2
  by_cases hc0 : chkV vid rn rs sn ss = 0
  · have hck := checkVpc_is vid rx rn rc rs sx sn sc ss 0 hc0 w0 (hv.later hT0.below) hrn hsn
    obtain ⟨f1, f2, f3, f4⟩ := chkV_few hc0
    have hE1 : Hid (growE vid rn rs sn ss r = if rgB r = false then 1 else if anyAt rn (rmB rs r.a r.l) = true then 6 else if rn = 4 then 2 else 0) := if_neg (c := chkV vid rn rs sn ss ≠ 0) (by simp [hc0])
    clear hc0
    go_wp2_with fail
    refine (hck).mono ?_
    rintro e w1 ⟨rfl, hbw1⟩
    have hT1 := hT0.later hbw1
    clear b0 b1 b2 p0 p1 p2 s0 zs0 s1 zs1 s2 zs2
    have b0 : w1.cell? ⟨w.heap.size, 0, none⟩ = some (.int .i64 vid) := (box_cells hT1.hb).1 0
    have b1 : w1.cell? ⟨w.heap.size, 1, none⟩ = some (.slice rx rn rc) := (box_cells hT1.hb).1 1
    have b2 : w1.cell? ⟨w.heap.size, 2, none⟩ = some (.slice sx sn sc) := (box_cells hT1.hb).1 2
    have p0 : w1.cell? ⟨w.heap.size + 1, 0, none⟩ = some (.int .i64 r.a) := (box_cells hT1.hp).1 0
    have p1 : w1.cell? ⟨w.heap.size + 1, 1, none⟩ = some (.int .i64 r.l) := (box_cells hT1.hp).1 1
    have p2 : w1.cell? ⟨w.heap.size + 1, 2, none⟩ = some (.int .i64 r.p) := (box_cells hT1.hp).1 2
    have s0 : w1.cell? ⟨w.heap.size + 2, 0, none⟩ = some (.int .i64 0) := (box_cells hT1.hs).1 0
    have zs0 : w1.frozen? ⟨w.heap.size + 2, 0, none⟩ = false := (box_cells hT1.hs).2 0
    have s1 : w1.cell? ⟨w.heap.size + 2, 1, none⟩ = some (.slice none 0 0) := (box_cells hT1.hs).1 1
    have zs1 : w1.frozen? ⟨w.heap.size + 2, 1, none⟩ = false := (box_cells hT1.hs).2 1
    have s2 : w1.cell? ⟨w.heap.size + 2, 2, none⟩ = some (.slice none 0 0) := (box_cells hT1.hs).1 2
    have zs2 : w1.frozen? ⟨w.heap.size + 2, 2, none⟩ = false := (box_cells hT1.hs).2 2
    cases hrt : rt r.a r.l with
    | false =>
      have hne : Hid (growE vid rn rs sn ss r = 1 ∧ (1 : Int) ≠ 0) := ⟨hE1.out.trans (if_pos (by unfold rgB; rw [hrt]; rfl)), by decide⟩
      have hri := rightR_is r.a r.l false hrt
      clear hrt
      go_wp2_with fail
      refine (hri _).mono ?_
      rintro e w2 ⟨rfl, hbw2⟩
      have hT2 := hT1.later hbw2
      clear b0 b1 b2 p0 p1 p2 s0 zs0 s1 zs1 s2 zs2
      have b0 : w2.cell? ⟨w.heap.size, 0, none⟩ = some (.int .i64 vid) := (box_cells hT2.hb).1 0
      have b1 : w2.cell? ⟨w.heap.size, 1, none⟩ = some (.slice rx rn rc) := (box_cells hT2.hb).1 1
      have b2 : w2.cell? ⟨w.heap.size, 2, none⟩ = some (.slice sx sn sc) := (box_cells hT2.hb).1 2
      have p0 : w2.cell? ⟨w.heap.size + 1, 0, none⟩ = some (.int .i64 r.a) := (box_cells hT2.hp).1 0
      have p1 : w2.cell? ⟨w.heap.size + 1, 1, none⟩ = some (.int .i64 r.l) := (box_cells hT2.hp).1 1
      have p2 : w2.cell? ⟨w.heap.size + 1, 2, none⟩ = some (.int .i64 r.p) := (box_cells hT2.hp).1 2
      have s0 : w2.cell? ⟨w.heap.size + 2, 0, none⟩ = some (.int .i64 0) := (box_cells hT2.hs).1 0
      have zs0 : w2.frozen? ⟨w.heap.size + 2, 0, none⟩ = false := (box_cells hT2.hs).2 0
      have s1 : w2.cell? ⟨w.heap.size + 2, 1, none⟩ = some (.slice none 0 0) := (box_cells hT2.hs).1 1
      have zs1 : w2.frozen? ⟨w.heap.size + 2, 1, none⟩ = false := (box_cells hT2.hs).2 1
      have s2 : w2.cell? ⟨w.heap.size + 2, 2, none⟩ = some (.slice none 0 0) := (box_cells hT2.hs).1 2
      have zs2 : w2.frozen? ⟨w.heap.size + 2, 2, none⟩ = false := (box_cells hT2.hs).2 2
      go_wp2
      refine bodyPost_ret (v := .tuple #[.agg #[.int .i64 0, .slice none 0 0, .slice none 0 0], .int .i64 1]) (by simp [results, Tryz.results36, go_sem, s0, s1, s2]) rfl ?_
      exact GrowPost.err hne.out (((hT2.below.setCell (p := ⟨w.heap.size + 2, 0, none⟩) (Nat.le_add_right _ _) _).setCell (p := ⟨w.heap.size + 2, 1, none⟩) (Nat.le_add_right _ _) _).setCell (p := ⟨w.heap.size + 2, 2, none⟩) (Nat.le_add_right _ _) _)
    | true =>
      have hri := rightR_is r.a r.l true hrt
      go_wp2_with fail
      refine (hri _).mono ?_
      rintro e w2 ⟨rfl, hbw2⟩
      have hT2 := hT1.later hbw2
      clear b0 b1 b2 p0 p1 p2 s0 zs0 s1 zs1 s2 zs2
      have b0 : w2.cell? ⟨w.heap.size, 0, none⟩ = some (.int .i64 vid) := (box_cells hT2.hb).1 0
      have b1 : w2.cell? ⟨w.heap.size, 1, none⟩ = some (.slice rx rn rc) := (box_cells hT2.hb).1 1
      have b2 : w2.cell? ⟨w.heap.size, 2, none⟩ = some (.slice sx sn sc) := (box_cells hT2.hb).1 2
      have p0 : w2.cell? ⟨w.heap.size + 1, 0, none⟩ = some (.int .i64 r.a) := (box_cells hT2.hp).1 0
      have p1 : w2.cell? ⟨w.heap.size + 1, 1, none⟩ = some (.int .i64 r.l) := (box_cells hT2.hp).1 1
      have p2 : w2.cell? ⟨w.heap.size + 1, 2, none⟩ = some (.int .i64 r.p) := (box_cells hT2.hp).1 2
      have s0 : w2.cell? ⟨w.heap.size + 2, 0, none⟩ = some (.int .i64 0) := (box_cells hT2.hs).1 0
      have zs0 : w2.frozen? ⟨w.heap.size + 2, 0, none⟩ = false := (box_cells hT2.hs).2 0
      have s1 : w2.cell? ⟨w.heap.size + 2, 1, none⟩ = some (.slice none 0 0) := (box_cells hT2.hs).1 1
      have zs1 : w2.frozen? ⟨w.heap.size + 2, 1, none⟩ = false := (box_cells hT2.hs).2 1
      have s2 : w2.cell? ⟨w.heap.size + 2, 2, none⟩ = some (.slice none 0 0) := (box_cells hT2.hs).1 2
      have zs2 : w2.frozen? ⟨w.heap.size + 2, 2, none⟩ = false := (box_cells hT2.hs).2 2
      clear hri
      cases hwp : wth r.p 1 65536 with
      | false =>
        have hne : Hid (growE vid rn rs sn ss r = 1 ∧ (1 : Int) ≠ 0) := ⟨hE1.out.trans (if_pos (by unfold rgB; rw [hrt, hwp]; rfl)), by decide⟩
        have hwi := within_at r.p 1 65536 false hwp w2
        clear hwp hrt
        go_wp2_with fail
        refine hwi.mono ?_
        rintro e w3 ⟨rfl, rfl⟩
        go_wp2
        refine bodyPost_ret (v := .tuple #[.agg #[.int .i64 0, .slice none 0 0, .slice none 0 0], .int .i64 1]) (by simp [results, Tryz.results36, go_sem, s0, s1, s2]) rfl ?_
        exact GrowPost.err hne.out (((hT2.below.setCell (p := ⟨w.heap.size + 2, 0, none⟩) (Nat.le_add_right _ _) _).setCell (p := ⟨w.heap.size + 2, 1, none⟩) (Nat.le_add_right _ _) _).setCell (p := ⟨w.heap.size + 2, 2, none⟩) (Nat.le_add_right _ _) _)
      | true =>
        have hE2 : Hid (growE vid rn rs sn ss r = if anyAt rn (rmB rs r.a r.l) = true then 6 else if rn = 4 then 2 else 0) := hE1.out.trans (if_neg (by unfold rgB; rw [hrt, hwp]; decide))
        have hwi := within_at r.p 1 65536 true hwp w2
        clear hwp hrt hE1
        go_wp2_with fail
        refine hwi.mono ?_
        rintro e w3 ⟨rfl, rfl⟩
        clear hwi
        have hown := ownVpc_any vid rx rn rc rs sx sn sc ss w3 (hv.later hT2.below) (by omega) (by omega) (fun i hi => by have := f3 i hi; omega) (fun i hi j hj => by have := f4 i hi j hj; omega)
        go_wp2_with fail
        refine hown.mono ?_
        rintro e w5 ⟨vR, vS, ts, rfl, hOR, hss, hOS, hb5⟩
        clear hown f2 f3 f4
        have hT5 := hT2.later hb5
        obtain ⟨xr, cr, rfl, -⟩ := hOR.rs
        obtain ⟨xt, ct, rfl, -⟩ := hOS.subs
        have hsz3 : w.heap.size + 2 < w3.heap.size := (Array.getElem?_eq_some_iff.1 hT2.hs).1
        have hsz5 : w.heap.size + 2 < w5.heap.size := Nat.lt_of_lt_of_le hsz3 hb5.size
        clear b0 b1 b2 p0 p1 p2 s0 zs0 s1 zs1 s2 zs2
        go_upto_region 7 with fail
        obtain ⟨w6, hw6⟩ : ∃ w6, w6 = w5.alloc (vpB vid (.slice xr rs.length cr) (.slice xt ts.length ct)) := ⟨_, rfl⟩
        rw [← hw6]
        have hb56 : Below w5.heap.size w5 w6 := by rw [hw6]; exact bl1 _ _
        have hn6 : w6.heap[w5.heap.size]? = some (vpB vid (.slice xr rs.length cr) (.slice xt ts.length ct)) := by rw [hw6]; exact heap_new _ rfl
        clear hw6
        have m1 : w6.cell? ⟨w5.heap.size, 1, none⟩ = some (.slice xr rs.length cr) := (box_cells hn6).1 1
        have z1 := (box_cells hn6).2 1
        go_upto_region 8 with fail
        obtain ⟨w7, hw7⟩ : ∃ w7, w7 = w6.setCell ⟨w5.heap.size, 1, none⟩ (.slice none 0 0) := ⟨_, rfl⟩
        rw [← hw7]
        have hTo7 : TGo w5 w7 vid (.slice none 0 0) (.slice xt ts.length ct) := by
          rw [hw7]
          refine ⟨?_, hb56.setCell (p := ⟨w5.heap.size, 1, none⟩) (Nat.le_refl _) _⟩
          have := heap_setCell_same w6 w5.heap.size 1 _ 52 (.slice none 0 0) hn6
          simpa using this
        have hs7 : w5.heap.size + 1 ≤ w7.heap.size := (Array.getElem?_eq_some_iff.1 hTo7.ho).1
        clear hw7 m1 z1 hn6 hb56
        go_wp2
        go_loopw [8, 9] (fun d i wr => ∃ (k : Nat) (t : Bool) (vX : Value) (qs : List Rg), d = .bool t ∧ i = .int .i64 k ∧ k ≤ rn ∧ TGo w5 wr vid vX (.slice xt ts.length ct) ∧ OwnR wr (w5.heap.size + 1) vX qs ∧ Hid (InsG r (fun j => decide (r.a < (rgAt rs j).a)) rs k t qs) ∧ Hid (∀ j, j < k → rmB rs r.a r.l j = false)) (fun _ i _ => rn - (intOf i).toNat)
        case atStart => exact ⟨0, false, _, [], rfl, rfl, by omega, hTo7, ⟨rfl, .inl ⟨rfl, rfl⟩⟩, InsG.start _ _ _, fun j hj => by omega⟩
        case round =>
          clear hTo7 hs7 w7
          obtain ⟨k, t, vX, qs, rfl, rfl, hkn, hTo, hq, hins, hno⟩ := hrel
          have hTr := hT5.later hTo.below
          have hsr : w5.heap.size + 1 ≤ wr.heap.size := (Array.getElem?_eq_some_iff.1 hTo.ho).1
          have hqlen : Hid (qs.length ≤ 5) := by
            unfold Hid
            have h1 := hins.out.len (by rw [hrl.out]; exact hkn)
            have h2 : t.toNat ≤ 1 := by cases t <;> decide
            omega
          have b0 : wr.cell? ⟨w.heap.size, 0, none⟩ = some (.int .i64 vid) := (box_cells hTr.hb).1 0
          have b1 : wr.cell? ⟨w.heap.size, 1, none⟩ = some (.slice rx rn rc) := (box_cells hTr.hb).1 1
          have b2 : wr.cell? ⟨w.heap.size, 2, none⟩ = some (.slice sx sn sc) := (box_cells hTr.hb).1 2
          have p0 : wr.cell? ⟨w.heap.size + 1, 0, none⟩ = some (.int .i64 r.a) := (box_cells hTr.hp).1 0
          have p1 : wr.cell? ⟨w.heap.size + 1, 1, none⟩ = some (.int .i64 r.l) := (box_cells hTr.hp).1 1
          have p2 : wr.cell? ⟨w.heap.size + 1, 2, none⟩ = some (.int .i64 r.p) := (box_cells hTr.hp).1 2
          have s0 : wr.cell? ⟨w.heap.size + 2, 0, none⟩ = some (.int .i64 0) := (box_cells hTr.hs).1 0
          have zs0 : wr.frozen? ⟨w.heap.size + 2, 0, none⟩ = false := (box_cells hTr.hs).2 0
          have s1 : wr.cell? ⟨w.heap.size + 2, 1, none⟩ = some (.slice none 0 0) := (box_cells hTr.hs).1 1
          have zs1 : wr.frozen? ⟨w.heap.size + 2, 1, none⟩ = false := (box_cells hTr.hs).2 1
          have s2 : wr.cell? ⟨w.heap.size + 2, 2, none⟩ = some (.slice none 0 0) := (box_cells hTr.hs).1 2
          have zs2 : wr.frozen? ⟨w.heap.size + 2, 2, none⟩ = false := (box_cells hTr.hs).2 2
          by_cases hlt : k < rn
          · have hkw := hv.later hTr.below
            have hlth : Hid (k < rn) := hlt
            have hget : Hid (rs[k]? = some (rgAt rs k)) := rgAt_some (by rw [hrl.out]; exact hlt)
            obtain ⟨b, o, rfl, c0, c1, c2⟩ := hkw.ranges.cells k hlt
            have hk0 : (0 : Int) ≤ k := by omega
            have hkn2 : (k : Int) < rn := by omega
            clear hlt
            have a1 := Ws.here b1
            have a3 := Ws.here p0
            have a4 := Ws.here p1
            have a5 := Ws.here c0
            have a6 := Ws.here c1
            have hkeep : Hid (RS wr (some ⟨b, o, none⟩) rn rs) := hkw.ranges
            cases hmt : rmB rs r.a r.l k with
            | true =>
              have hany : anyAt rn (rmB rs r.a r.l) = true := List.any_eq_true.2 ⟨k, List.mem_range.2 hlth.out, hmt⟩
              have hne : Hid (growE vid rn rs sn ss r = 6 ∧ (6 : Int) ≠ 0) := ⟨hE2.out.trans (if_pos hany), by decide⟩
              have hmt' : mts (rgAt rs k).a (rgAt rs k).l r.a r.l = true := hmt
              clear hmt hany
              go_upto_region 12 with fail
              refine wp_region_ws wr.heap.size (by kernel_rfl) (by kernel_rfl) ?_
              repeat (go_big_quiet_step (first | (go_at_call 63; exact Calls.in_ws (Nat.le_refl _) (meetR_is _ _ _ _ _ hmt' _))))
              refine wpQuiet_nil ?_
              rintro _ ⟨u, rfl⟩
              have hTu := hTr.later u.property
              generalize u.val = wu at hTu ⊢
              clear u a1 a3 a4 a5 a6 c0 c1 c2
              clear b0 b1 b2 p0 p1 p2 s0 zs0 s1 zs1 s2 zs2
              have b0 : wu.cell? ⟨w.heap.size, 0, none⟩ = some (.int .i64 vid) := (box_cells hTu.hb).1 0
              have b1 : wu.cell? ⟨w.heap.size, 1, none⟩ = some (.slice (some ⟨b, o, none⟩) rn rc) := (box_cells hTu.hb).1 1
              have b2 : wu.cell? ⟨w.heap.size, 2, none⟩ = some (.slice sx sn sc) := (box_cells hTu.hb).1 2
              have p0 : wu.cell? ⟨w.heap.size + 1, 0, none⟩ = some (.int .i64 r.a) := (box_cells hTu.hp).1 0
              have p1 : wu.cell? ⟨w.heap.size + 1, 1, none⟩ = some (.int .i64 r.l) := (box_cells hTu.hp).1 1
              have p2 : wu.cell? ⟨w.heap.size + 1, 2, none⟩ = some (.int .i64 r.p) := (box_cells hTu.hp).1 2
              have s0 : wu.cell? ⟨w.heap.size + 2, 0, none⟩ = some (.int .i64 0) := (box_cells hTu.hs).1 0
              have zs0 : wu.frozen? ⟨w.heap.size + 2, 0, none⟩ = false := (box_cells hTu.hs).2 0
              have s1 : wu.cell? ⟨w.heap.size + 2, 1, none⟩ = some (.slice none 0 0) := (box_cells hTu.hs).1 1
              have zs1 : wu.frozen? ⟨w.heap.size + 2, 1, none⟩ = false := (box_cells hTu.hs).2 1
              have s2 : wu.cell? ⟨w.heap.size + 2, 2, none⟩ = some (.slice none 0 0) := (box_cells hTu.hs).1 2
              have zs2 : wu.frozen? ⟨w.heap.size + 2, 2, none⟩ = false := (box_cells hTu.hs).2 2
              go_wp2
              refine bodyPost_ret (v := .tuple #[.agg #[.int .i64 0, .slice none 0 0, .slice none 0 0], .int .i64 6]) (by simp [results, Tryz.results36, go_sem, s0, s1, s2]) rfl ?_
              exact GrowPost.err hne.out (((hTu.below.setCell (p := ⟨w.heap.size + 2, 0, none⟩) (Nat.le_add_right _ _) _).setCell (p := ⟨w.heap.size + 2, 1, none⟩) (Nat.le_add_right _ _) _).setCell (p := ⟨w.heap.size + 2, 2, none⟩) (Nat.le_add_right _ _) _)
            | false =>
              have hno' : Hid (∀ j, j < k + 1 → rmB rs r.a r.l j = false) := fun j hj => by
                by_cases hj2 : j < k
                · exact hno.out j hj2
                · obtain rfl : j = k := by omega
                  exact hmt
              have hmt' : mts (rgAt rs k).a (rgAt rs k).l r.a r.l = false := hmt
              clear hmt hno
              go_upto_region 12 with fail
              refine wp_region_ws wr.heap.size (by kernel_rfl) (by kernel_rfl) ?_
              repeat (go_big_quiet_step (first | (go_at_call 63; exact Calls.in_ws (Nat.le_refl _) (meetR_is _ _ _ _ _ hmt' _))))
              refine wpQuiet_nil ?_
              rintro _ ⟨u, rfl⟩
              have hbu := u.property
              generalize u.val = wu at hbu ⊢
              clear u a1 a3 a4 a5 a6 c0 c1 c2 hmt'
              have hTu := hTr.later hbu
              have hTou : TGo w5 wu vid vX (.slice xt ts.length ct) := ⟨heap_later hbu hTo.ho, hTo.below.trans (hbu.mono hTo.below.size)⟩
              have hqu := OwnR.later hq hbu
              have hku := hkeep.out.later hbu
              clear hbu hTo hq hTr hsr hkeep
              have hsr : w5.heap.size + 1 ≤ wu.heap.size := (Array.getElem?_eq_some_iff.1 hTou.ho).1
              clear b0 b1 b2 p0 p1 p2 s0 zs0 s1 zs1 s2 zs2
              have b0 : wu.cell? ⟨w.heap.size, 0, none⟩ = some (.int .i64 vid) := (box_cells hTu.hb).1 0
              have b1 : wu.cell? ⟨w.heap.size, 1, none⟩ = some (.slice (some ⟨b, o, none⟩) rn rc) := (box_cells hTu.hb).1 1
              have b2 : wu.cell? ⟨w.heap.size, 2, none⟩ = some (.slice sx sn sc) := (box_cells hTu.hb).1 2
              have p0 : wu.cell? ⟨w.heap.size + 1, 0, none⟩ = some (.int .i64 r.a) := (box_cells hTu.hp).1 0
              have p1 : wu.cell? ⟨w.heap.size + 1, 1, none⟩ = some (.int .i64 r.l) := (box_cells hTu.hp).1 1
              have p2 : wu.cell? ⟨w.heap.size + 1, 2, none⟩ = some (.int .i64 r.p) := (box_cells hTu.hp).1 2
              have s0 : wu.cell? ⟨w.heap.size + 2, 0, none⟩ = some (.int .i64 0) := (box_cells hTu.hs).1 0
              have zs0 : wu.frozen? ⟨w.heap.size + 2, 0, none⟩ = false := (box_cells hTu.hs).2 0
              have s1 : wu.cell? ⟨w.heap.size + 2, 1, none⟩ = some (.slice none 0 0) := (box_cells hTu.hs).1 1
              have zs1 : wu.frozen? ⟨w.heap.size + 2, 1, none⟩ = false := (box_cells hTu.hs).2 1
              have s2 : wu.cell? ⟨w.heap.size + 2, 2, none⟩ = some (.slice none 0 0) := (box_cells hTu.hs).1 2
              have zs2 : wu.frozen? ⟨w.heap.size + 2, 2, none⟩ = false := (box_cells hTu.hs).2 2
              obtain ⟨b', o', hbo, c0, c1, c2⟩ := hku.cells k hlth.out
              simp only [Option.some.injEq, Addr.mk.injEq, and_true] at hbo
              obtain ⟨rfl, rfl⟩ := hbo
              have a1 := Ws.here b1
              have a3 := Ws.here p0
              have a5 := Ws.here c0
              go_upto_region 14 with fail
              go_cut [61] (fun s wc => s = .bool (!t && decide (r.a < (rgAt rs k).a)) ∧ Below wu.heap.size wu wc)
              case first =>
                by_cases hgt : r.a < (rgAt rs k).a
                all_goals cases t
                all_goals refine wp_region_ws wu.heap.size (by kernel_rfl) (by kernel_rfl) ?_
                all_goals repeat (go_big_quiet_step (fail))
                all_goals refine wpQuiet_nil ?_
                all_goals rintro _ ⟨u, rfl⟩
                all_goals have hbu := u.property
                all_goals generalize u.val = wz at hbu ⊢
                all_goals clear u
                · go_wp2
                  go_meet
                  case rel => exact ⟨by simp [hgt], hbu⟩
                · go_wp2
                  go_meet
                  case rel => exact ⟨by simp, hbu⟩
                · go_wp2
                  go_meet
                  case rel => exact ⟨by simp [hgt], hbu⟩
                · go_wp2
                  go_meet
                  case rel => exact ⟨by simp, hbu⟩
              case rest =>
              obtain ⟨rfl, hbu⟩ := hcut
              obtain ⟨wz, rfl⟩ : ∃ wz, wz = wc := ⟨_, rfl⟩
              clear a1 a3 a5 c0 c1 c2
              have hTz := hTu.later hbu
              have hToz := hTou.later hbu
              have hqz := OwnR.later hqu hbu
              have hsz : w5.heap.size + 1 ≤ wz.heap.size := (Array.getElem?_eq_some_iff.1 hToz.ho).1
              have hq6 : Hid (qs.length ≤ 6) := by unfold Hid; have := hqlen.out; omega
              clear b0 b1 b2 p0 p1 p2 s0 zs0 s1 zs1 s2 zs2
              have b0 : wz.cell? ⟨w.heap.size, 0, none⟩ = some (.int .i64 vid) := (box_cells hTz.hb).1 0
              have b1 : wz.cell? ⟨w.heap.size, 1, none⟩ = some (.slice (some ⟨b, o, none⟩) rn rc) := (box_cells hTz.hb).1 1
              have b2 : wz.cell? ⟨w.heap.size, 2, none⟩ = some (.slice sx sn sc) := (box_cells hTz.hb).1 2
              have p0 : wz.cell? ⟨w.heap.size + 1, 0, none⟩ = some (.int .i64 r.a) := (box_cells hTz.hp).1 0
              have p1 : wz.cell? ⟨w.heap.size + 1, 1, none⟩ = some (.int .i64 r.l) := (box_cells hTz.hp).1 1
              have p2 : wz.cell? ⟨w.heap.size + 1, 2, none⟩ = some (.int .i64 r.p) := (box_cells hTz.hp).1 2
              have s0 : wz.cell? ⟨w.heap.size + 2, 0, none⟩ = some (.int .i64 0) := (box_cells hTz.hs).1 0
              have zs0 : wz.frozen? ⟨w.heap.size + 2, 0, none⟩ = false := (box_cells hTz.hs).2 0
              have s1 : wz.cell? ⟨w.heap.size + 2, 1, none⟩ = some (.slice none 0 0) := (box_cells hTz.hs).1 1
              have zs1 : wz.frozen? ⟨w.heap.size + 2, 1, none⟩ = false := (box_cells hTz.hs).2 1
              have s2 : wz.cell? ⟨w.heap.size + 2, 2, none⟩ = some (.slice none 0 0) := (box_cells hTz.hs).1 2
              have zs2 : wz.frozen? ⟨w.heap.size + 2, 2, none⟩ = false := (box_cells hTz.hs).2 2
              obtain ⟨cc, hcc⟩ : ∃ cc, Hid ((!t && decide (r.a < (rgAt rs k).a)) = cc) := ⟨_, rfl⟩
              rw [hcc.out]
              go_upto_if 61 with fail
              go_cut [8] (fun d wc => ∃ (t' : Bool) (vX' : Value) (qs' : List Rg), d = .bool t' ∧ TGo w5 wc vid vX' (.slice xt ts.length ct) ∧ OwnR wc (w5.heap.size + 1) vX' qs' ∧ Hid (qs'.length ≤ 6) ∧ Hid (InsG r (fun j => decide (r.a < (rgAt rs j).a)) rs (k + 1) t' (qs' ++ [rgAt rs k])))
              case first =>
                cases cc with
                | true =>
                  have hi2 : Hid (InsG r (fun j => decide (r.a < (rgAt rs j).a)) rs (k + 1) true (qs ++ [r] ++ [rgAt rs k])) := by
                    have h := hcc.out
                    simp only [Bool.and_eq_true, Bool.not_eq_true', decide_eq_true_eq] at h
                    have h2 := hins.out
                    rw [h.1] at h2
                    exact h2.put hget.out (by simpa using h.2)
                  have o1 : wz.cell? ⟨w5.heap.size, 1, none⟩ = some vX := (box_cells hToz.ho).1 1
                  go_wp2_with (at_builtin; refine Hid.out ?_)
                  unfold Hid
                  refine wpList_append_R rfl _ _ rfl (w5.heap.size + 1) vX qs rfl (OwnR.later hqz (bl1 wz _)) ⟨wz.heap.size, 0, none⟩ 1 1 [r] rfl rfl (rgs_cells wz r) (by have := hqlen.out; omega) (by simp; omega) ?_
                  intro v9 w9 hR9 hg9
                  have hTo9 := (hToz.later (bl1 wz _)).grown (OwnR.later hqz (bl1 wz _)) hg9
                  have hl9 : Hid ((qs ++ [r]).length = qs.length + 1) := by unfold Hid; simp
                  obtain ⟨x9, c9, hv9, -⟩ := hR9.rs
                  rw [hl9.out] at hv9
                  subst hv9
                  have o1' : w9.cell? ⟨w5.heap.size, 1, none⟩ = some vX := (box_cells hTo9.ho).1 1
                  have oz1 := (box_cells hTo9.ho).2 1
                  clear o1 hg9
                  go_wp2
                  go_meet
                  case rel => exact ⟨true, _, qs ++ [r], rfl, hTo9.put, hR9.put (by omega), by unfold Hid; rw [hl9.out]; have := hqlen.out; omega, hi2⟩
                | false =>
                  have hi2 : Hid (InsG r (fun j => decide (r.a < (rgAt rs j).a)) rs (k + 1) t (qs ++ [rgAt rs k])) := by
                    have h := hcc.out
                    have h2 := hins.out
                    cases t with
                    | true => exact h2.more hget.out
                    | false => exact h2.skip hget.out (by simpa using h)
                  go_wp2
                  go_meet
                  case rel => exact ⟨t, vX, qs, rfl, hToz, hqz, hq6, hi2⟩
              case rest =>
                obtain ⟨t', vX', qs', rfl, hToc, hqc, hq6, hi2⟩ := hcut
                clear hTou hqu hTu hqlen hins hToz hqz hTz
                clear b0 b1 b2 p0 p1 p2 s0 zs0 s1 zs1 s2 zs2
                have hTc := hT5.later hToc.below
                have hkc := (hv.later hTc.below).ranges
                obtain ⟨b', o', hbo, c0, c1, c2⟩ := hkc.cells k hlth.out
                simp only [Option.some.injEq, Addr.mk.injEq, and_true] at hbo
                obtain ⟨rfl, rfl⟩ := hbo
                have hsc : w5.heap.size + 1 ≤ wc.heap.size := (Array.getElem?_eq_some_iff.1 hToc.ho).1
                have a0 := Ws.here (show wc.cell? ⟨w.heap.size, 1, none⟩ = some (.slice (some ⟨b, o, none⟩) rn rc) from (box_cells hTc.hb).1 1)
                have a1 := Ws.here (show wc.cell? ⟨w5.heap.size, 1, none⟩ = some vX' from (box_cells hToc.ho).1 1)
                have a2 := Ws.here c0
                have a3 := Ws.here c1
                have a4 := Ws.here c2
                go_upto_region 17 with fail
                have hbd : Below wc.heap.size wc wc.drew := (Below.refl _ _).drew
                refine wp_region_V (fun w' => ∃ u : Ws wc.heap.size wc, w' = u.val) (fun j => decide (j < 8)) 11 _ (by kernel_rfl) rfl rfl ?_
                refine wpV_takes 4 [0, 1, 2, 3, 4, 5, 6] rfl _ rfl (by kernel_rfl) (fun d _ _ _ _ h => by cases d <;> exact h) ⟨⟨_, hbd⟩, rfl⟩ ?_
                simp only [List.map_cons, List.map_nil, List.getD_cons_zero, List.getD_cons_succ]
                repeat (go_big_quiet_step (fail))
                refine wpQuiet_nil ?_
                clear a0 a1 a2 a3 a4 c0 c1 c2
                refine wpV_one 7 _ _ (by kernel_rfl) (by kernel_rfl) rfl rfl ?_
                intro K hK
                simp only [List.getD_cons_zero, List.getD_cons_succ]
                go_wp2_with fail
                have hba : Below wc.heap.size wc (wc.alloc (.cells #[.int .i64 (rgAt rs k).a, .int .i64 (rgAt rs k).l, .int .i64 (rgAt rs k).p] 29)).drew := (bl1 wc _).drew
                refine wildK_normal (hK.out _ _ ⟨⟨_, hba⟩, rfl⟩ ?_)
                clear hK K
                refine wpV_tail [8, 9, 10] rfl (by kernel_rfl) ?_
                simp only [List.map_cons, List.map_nil, List.getD_cons_zero, List.getD_cons_succ]
                refine wpList_append_R rfl _ _ rfl (w5.heap.size + 1) vX' qs' rfl (OwnR.later hqc hba) ⟨wc.heap.size, 0, none⟩ 1 1 [rgAt rs k] rfl rfl (rgs_cells wc (rgAt rs k)) (by have := hq6.out; omega) (Nat.le_trans hsc hba.size) ?_
                intro v9 w9 hR9 hg9
                have hTo9 := (hToc.later hba).grown (OwnR.later hqc hba) hg9
                have hl9 : Hid ((qs' ++ [rgAt rs k]).length = qs'.length + 1) := by unfold Hid; simp
                obtain ⟨x9, c9, hv9, -⟩ := hR9.rs
                rw [hl9.out] at hv9
                subst hv9
                have o1' : w9.cell? ⟨w5.heap.size, 1, none⟩ = some vX' := (box_cells hTo9.ho).1 1
                have oz1 := (box_cells hTo9.ho).2 1
                clear hg9
                go_wp2
                go_roundw
                case rel => exact ⟨k + 1, t', _, qs' ++ [rgAt rs k], rfl, by go_num, hlth.out, hTo9.put, hR9.put (by omega), hi2, hno'⟩
                case measure => have := hlth.out; simp [intOf]; omega
          · have hnk : ¬ (k : Int) < rn := by omega
            obtain rfl : k = rn := by omega
            have hany : Hid (anyAt k (rmB rs r.a r.l) = false) := by
              unfold Hid
              unfold anyAt
              rw [List.any_eq_false]
              intro j hj
              rw [hno.out j (List.mem_range.1 hj)]
              decide
            have hE3 : Hid (growE vid k rs sn ss r = if k = 4 then 2 else 0) := hE2.out.trans (if_neg (by rw [hany.out]; decide))
            have hlenq : Hid (qs.length = k + t.toNat) := hins.out.len (by rw [hrl.out]; exact Nat.le_refl _)
            cases t with
            | true =>
              have hput : Hid (PutRg r rs qs) := putRg_is.2 (by have := hins.out; rw [← hrl.out] at this; exact this.all)
              obtain ⟨xq, cq, rfl, -⟩ := hq.rs
              have hTe := hT5.later hTo.below
              have e0 : wr.cell? ⟨w5.heap.size, 0, none⟩ = some (.int .i64 vid) := (box_cells hTo.ho).1 0
              have e1 : wr.cell? ⟨w5.heap.size, 1, none⟩ = some (.slice xq qs.length cq) := (box_cells hTo.ho).1 1
              have e2 : wr.cell? ⟨w5.heap.size, 2, none⟩ = some (.slice xt ts.length ct) := (box_cells hTo.ho).1 2
              clear b0 b1 b2 p0 p1 p2 s0 zs0 s1 zs1 s2 zs2
              have b0 : wr.cell? ⟨w.heap.size, 0, none⟩ = some (.int .i64 vid) := (box_cells hTe.hb).1 0
              have b1 : wr.cell? ⟨w.heap.size, 1, none⟩ = some (.slice rx k rc) := (box_cells hTe.hb).1 1
              have b2 : wr.cell? ⟨w.heap.size, 2, none⟩ = some (.slice sx sn sc) := (box_cells hTe.hb).1 2
              have p0 : wr.cell? ⟨w.heap.size + 1, 0, none⟩ = some (.int .i64 r.a) := (box_cells hTe.hp).1 0
              have p1 : wr.cell? ⟨w.heap.size + 1, 1, none⟩ = some (.int .i64 r.l) := (box_cells hTe.hp).1 1
              have p2 : wr.cell? ⟨w.heap.size + 1, 2, none⟩ = some (.int .i64 r.p) := (box_cells hTe.hp).1 2
              have s0 : wr.cell? ⟨w.heap.size + 2, 0, none⟩ = some (.int .i64 0) := (box_cells hTe.hs).1 0
              have zs0 : wr.frozen? ⟨w.heap.size + 2, 0, none⟩ = false := (box_cells hTe.hs).2 0
              have s1 : wr.cell? ⟨w.heap.size + 2, 1, none⟩ = some (.slice none 0 0) := (box_cells hTe.hs).1 1
              have zs1 : wr.frozen? ⟨w.heap.size + 2, 1, none⟩ = false := (box_cells hTe.hs).2 1
              have s2 : wr.cell? ⟨w.heap.size + 2, 2, none⟩ = some (.slice none 0 0) := (box_cells hTe.hs).1 2
              have zs2 : wr.frozen? ⟨w.heap.size + 2, 2, none⟩ = false := (box_cells hTe.hs).2 2
              by_cases h4 : k = 4
              · have hgt : (4 : Int) < qs.length := by have := hlenq.out; simp at this; omega
                have hne : Hid (growE vid k rs sn ss r = 2 ∧ (2 : Int) ≠ 0) := ⟨hE3.out.trans (if_pos h4), by decide⟩
                clear h4
                go_wp2
                refine bodyPost_ret (v := .tuple #[.agg #[.int .i64 0, .slice none 0 0, .slice none 0 0], .int .i64 2]) (by simp [results, Tryz.results36, go_sem, s0, s1, s2]) rfl ?_
                exact GrowPost.err hne.out (((hTe.below.setCell (p := ⟨w.heap.size + 2, 0, none⟩) (Nat.le_add_right _ _) _).setCell (p := ⟨w.heap.size + 2, 1, none⟩) (Nat.le_add_right _ _) _).setCell (p := ⟨w.heap.size + 2, 2, none⟩) (Nat.le_add_right _ _) _)
              · have hgt : ¬ (4 : Int) < qs.length := by have := hlenq.out; simp at this; omega
                have hE0 : Hid (growE vid k rs sn ss r = 0) := hE3.out.trans (if_neg h4)
                clear h4
                go_wp2
                refine bodyPost_ret (v := .tuple #[.agg #[.int .i64 vid, .slice xq qs.length cq, .slice xt ts.length ct], .int .i64 0]) (by simp [results, Tryz.results36, go_sem, s0, s1, s2]) rfl ?_
                have hOSe := OSs.later hOS hTo.below
                exact ⟨_, by rw [hE0.out], (((hTe.below.setCell (p := ⟨w.heap.size + 2, 0, none⟩) (Nat.le_add_right _ _) _).setCell (p := ⟨w.heap.size + 2, 1, none⟩) (Nat.le_add_right _ _) _).setCell (p := ⟨w.heap.size + 2, 2, none⟩) (Nat.le_add_right _ _) _), fun h => absurd hE0.out h, fun _ => ⟨_, ts, NV.of ((((hq).put (by omega)).put (by omega)).put (by omega)) (((hOSe.put hsz3).put hsz3).put hsz3), hput.out, hss⟩⟩
            | false =>
              have hput : Hid (PutRg r rs (qs ++ [r])) := putRg_is.2 (by have := hins.out; rw [← hrl.out] at this; exact this.last)
              have o1 : wr.cell? ⟨w5.heap.size, 1, none⟩ = some vX := (box_cells hTo.ho).1 1
              go_wp2_with (at_builtin; refine Hid.out ?_)
              unfold Hid
              refine wpList_append_R rfl _ _ rfl (w5.heap.size + 1) vX qs rfl (OwnR.later hq (bl1 wr _)) ⟨wr.heap.size, 0, none⟩ 1 1 [r] rfl rfl (rgs_cells wr r) (by have := hqlen.out; omega) (by simp; omega) ?_
              intro v9 w9 hR9 hg9
              have hTo9 := (hTo.later (bl1 wr _)).grown (OwnR.later hq (bl1 wr _)) hg9
              have hl9 : Hid ((qs ++ [r]).length = qs.length + 1) := by unfold Hid; simp
              obtain ⟨x9, c9, hv9, -⟩ := hR9.rs
              rw [hl9.out] at hv9
              subst hv9
              have o1' : w9.cell? ⟨w5.heap.size, 1, none⟩ = some vX := (box_cells hTo9.ho).1 1
              have oz1 := (box_cells hTo9.ho).2 1
              clear o1 hg9
              have hR10 := hR9.put (b := w5.heap.size) (o := 1) (u := .slice x9 (qs.length + 1) c9) (by omega)
              have hTo10 := hTo9.put (u := .slice x9 (qs.length + 1) c9)
              go_upto_region 20 with fail
              obtain ⟨we, hwe⟩ : ∃ we, we = w9.setCell ⟨w5.heap.size, 1, none⟩ (.slice x9 (qs.length + 1) c9) := ⟨_, rfl⟩
              rw [← hwe] at hR10 hTo10 ⊢
              clear hwe o1' oz1
              have hTe := hT5.later hTo10.below
              have e0 : we.cell? ⟨w5.heap.size, 0, none⟩ = some (.int .i64 vid) := (box_cells hTo10.ho).1 0
              have e1 : we.cell? ⟨w5.heap.size, 1, none⟩ = some (.slice x9 (qs.length + 1) c9) := (box_cells hTo10.ho).1 1
              have e2 : we.cell? ⟨w5.heap.size, 2, none⟩ = some (.slice xt ts.length ct) := (box_cells hTo10.ho).1 2
              clear b0 b1 b2 p0 p1 p2 s0 zs0 s1 zs1 s2 zs2
              have b0 : we.cell? ⟨w.heap.size, 0, none⟩ = some (.int .i64 vid) := (box_cells hTe.hb).1 0
              have b1 : we.cell? ⟨w.heap.size, 1, none⟩ = some (.slice rx k rc) := (box_cells hTe.hb).1 1
              have b2 : we.cell? ⟨w.heap.size, 2, none⟩ = some (.slice sx sn sc) := (box_cells hTe.hb).1 2
              have p0 : we.cell? ⟨w.heap.size + 1, 0, none⟩ = some (.int .i64 r.a) := (box_cells hTe.hp).1 0
              have p1 : we.cell? ⟨w.heap.size + 1, 1, none⟩ = some (.int .i64 r.l) := (box_cells hTe.hp).1 1
              have p2 : we.cell? ⟨w.heap.size + 1, 2, none⟩ = some (.int .i64 r.p) := (box_cells hTe.hp).1 2
              have s0 : we.cell? ⟨w.heap.size + 2, 0, none⟩ = some (.int .i64 0) := (box_cells hTe.hs).1 0
              have zs0 : we.frozen? ⟨w.heap.size + 2, 0, none⟩ = false := (box_cells hTe.hs).2 0
              have s1 : we.cell? ⟨w.heap.size + 2, 1, none⟩ = some (.slice none 0 0) := (box_cells hTe.hs).1 1
              have zs1 : we.frozen? ⟨w.heap.size + 2, 1, none⟩ = false := (box_cells hTe.hs).2 1
              have s2 : we.cell? ⟨w.heap.size + 2, 2, none⟩ = some (.slice none 0 0) := (box_cells hTe.hs).1 2
              have zs2 : we.frozen? ⟨w.heap.size + 2, 2, none⟩ = false := (box_cells hTe.hs).2 2
              by_cases h4 : k = 4
              · have hgt : (4 : Int) < (qs.length + 1) := by have := hlenq.out; simp at this; omega
                have hne : Hid (growE vid k rs sn ss r = 2 ∧ (2 : Int) ≠ 0) := ⟨hE3.out.trans (if_pos h4), by decide⟩
                clear h4
                go_wp2
                refine bodyPost_ret (v := .tuple #[.agg #[.int .i64 0, .slice none 0 0, .slice none 0 0], .int .i64 2]) (by simp [results, Tryz.results36, go_sem, s0, s1, s2]) rfl ?_
                exact GrowPost.err hne.out (((hTe.below.setCell (p := ⟨w.heap.size + 2, 0, none⟩) (Nat.le_add_right _ _) _).setCell (p := ⟨w.heap.size + 2, 1, none⟩) (Nat.le_add_right _ _) _).setCell (p := ⟨w.heap.size + 2, 2, none⟩) (Nat.le_add_right _ _) _)
              · have hgt : ¬ (4 : Int) < (qs.length + 1) := by have := hlenq.out; simp at this; omega
                have hE0 : Hid (growE vid k rs sn ss r = 0) := hE3.out.trans (if_neg h4)
                clear h4
                go_wp2
                refine bodyPost_ret (v := .tuple #[.agg #[.int .i64 vid, .slice x9 (qs.length + 1) c9, .slice xt ts.length ct], .int .i64 0]) (by simp [results, Tryz.results36, go_sem, s0, s1, s2]) rfl ?_
                have hOSe := OSs.later hOS hTo10.below
                exact ⟨_, by rw [hE0.out], (((hTe.below.setCell (p := ⟨w.heap.size + 2, 0, none⟩) (Nat.le_add_right _ _) _).setCell (p := ⟨w.heap.size + 2, 1, none⟩) (Nat.le_add_right _ _) _).setCell (p := ⟨w.heap.size + 2, 2, none⟩) (Nat.le_add_right _ _) _), fun h => absurd hE0.out h, fun _ => ⟨_, ts, NV.of ((((hR10).put (by omega)).put (by omega)).put (by omega)) (((hOSe.put hsz3).put hsz3).put hsz3), hput.out, hss⟩⟩
  · have hck := checkVpc_is vid rx rn rc rs sx sn sc ss _ rfl w0 (hv.later hT0.below) hrn hsn
    have hne : growE vid rn rs sn ss r = chkV vid rn rs sn ss ∧ chkV vid rn rs sn ss ≠ 0 := ⟨if_pos hc0, hc0⟩
    go_wp2_with fail
    refine (hck).mono ?_
    rintro e w1 ⟨rfl, hbw1⟩
    have hT1 := hT0.later hbw1
    clear b0 b1 b2 p0 p1 p2 s0 zs0 s1 zs1 s2 zs2
    have b0 : w1.cell? ⟨w.heap.size, 0, none⟩ = some (.int .i64 vid) := (box_cells hT1.hb).1 0
    have b1 : w1.cell? ⟨w.heap.size, 1, none⟩ = some (.slice rx rn rc) := (box_cells hT1.hb).1 1
    have b2 : w1.cell? ⟨w.heap.size, 2, none⟩ = some (.slice sx sn sc) := (box_cells hT1.hb).1 2
    have p0 : w1.cell? ⟨w.heap.size + 1, 0, none⟩ = some (.int .i64 r.a) := (box_cells hT1.hp).1 0
    have p1 : w1.cell? ⟨w.heap.size + 1, 1, none⟩ = some (.int .i64 r.l) := (box_cells hT1.hp).1 1
    have p2 : w1.cell? ⟨w.heap.size + 1, 2, none⟩ = some (.int .i64 r.p) := (box_cells hT1.hp).1 2
    have s0 : w1.cell? ⟨w.heap.size + 2, 0, none⟩ = some (.int .i64 0) := (box_cells hT1.hs).1 0
    have zs0 : w1.frozen? ⟨w.heap.size + 2, 0, none⟩ = false := (box_cells hT1.hs).2 0
    have s1 : w1.cell? ⟨w.heap.size + 2, 1, none⟩ = some (.slice none 0 0) := (box_cells hT1.hs).1 1
    have zs1 : w1.frozen? ⟨w.heap.size + 2, 1, none⟩ = false := (box_cells hT1.hs).2 1
    have s2 : w1.cell? ⟨w.heap.size + 2, 2, none⟩ = some (.slice none 0 0) := (box_cells hT1.hs).1 2
    have zs2 : w1.frozen? ⟨w.heap.size + 2, 2, none⟩ = false := (box_cells hT1.hs).2 2
    go_wp2
    refine bodyPost_ret (v := .tuple #[.agg #[.int .i64 0, .slice none 0 0, .slice none 0 0], .int .i64 (chkV vid rn rs sn ss)]) (by simp [results, Tryz.results36, go_sem, s0, s1, s2]) rfl ?_
    exact GrowPost.err hne (((hT1.below.setCell (p := ⟨w.heap.size + 2, 0, none⟩) (Nat.le_add_right _ _) _).setCell (p := ⟨w.heap.size + 2, 1, none⟩) (Nat.le_add_right _ _) _).setCell (p := ⟨w.heap.size + 2, 2, none⟩) (Nat.le_add_right _ _) _)
end Go.Proofs.YtlalgkjollgcbaaGreat
/- Networks and links in memory of the call's own; slices.Clone of these. -/
namespace Go.Proofs.YtlalgkjollgcbaaGreat
open Go.RowKit Go.Shelf

def lkAt (ls : List (Int × Int)) (i : Nat) : Int × Int := ls.getD i (0, 0)
/-- The cells of networks. -/
def cV (e : Vn) : List Value := [.int .i64 e.id, .slice e.rx e.rn e.rc, .slice e.sx e.sn e.sc]
def flatV (es : List Vn) : List Value := es.flatMap cV
theorem cV_len (e : Vn) : (cV e).length = 3 := rfl
theorem flatV_len : ∀ es : List Vn, (flatV es).length = es.length * 3
  | [] => rfl
  | e :: es => by
    have := flatV_len es
    unfold flatV at this ⊢
    rw [List.flatMap_cons, List.length_append, this, cV_len, List.length_cons]
    omega
theorem flatV_snoc (es : List Vn) (e : Vn) : flatV (es ++ [e]) = flatV es ++ cV e := by simp [flatV]
theorem flatV_app (es fs : List Vn) : flatV (es ++ fs) = flatV es ++ flatV fs := by simp [flatV]
theorem flatV_at : ∀ (es : List Vn) (i j : Nat), i < es.length → j < 3 → (flatV es)[i * 3 + j]? = (cV (vnAt es i))[j]?
  | [], i, j, hi, _ => by simp at hi
  | e :: es, 0, j, _, hj => by
    unfold flatV
    rw [List.flatMap_cons, List.getElem?_append_left (by rw [cV_len]; omega)]
    simp [vnAt]
  | e :: es, i + 1, j, hi, hj => by
    have := flatV_at es i j (by simpa using hi) hj
    unfold flatV at this ⊢
    rw [List.flatMap_cons, List.getElem?_append_right (by rw [cV_len]; omega), cV_len, show (i + 1) * 3 + j - 3 = i * 3 + j by omega, this]
    simp [vnAt]
theorem flatV_split {es : List Vn} {j : Nat} {u : Value} (h : (flatV es)[j]? = some u) : ∃ i q, j = i * 3 + q ∧ q < 3 ∧ i < es.length := by
  have hl : j < (flatV es).length := by
    by_cases h2 : j < (flatV es).length
    · exact h2
    · rw [List.getElem?_eq_none (by omega)] at h; cases h
  rw [flatV_len] at hl
  exact ⟨j / 3, j % 3, by omega, by omega, by omega⟩
theorem flatV_one (es : List Vn) : ∀ u ∈ flatV es, u.oneCell' = true := fun u hu => by
  obtain ⟨e, -, hu⟩ := List.mem_flatMap.1 hu
  simp only [cV, List.mem_cons, List.not_mem_nil, or_false] at hu
  rcases hu with rfl | rfl | rfl <;> rfl
/-- networks that lie in memory of the call's own. -/
def OwnV (w : World) (base : Nat) (v : Value) (es : List Vn) : Prop := w.ownsRow base 52 3 v es.length (flatV es)
theorem OwnV.later {w w' : World} {base : Nat} {v : Value} {es : List Vn} (h : OwnV w base v es) (hb : Below w.heap.size w w') : OwnV w' base v es := by
  refine World.ownsRow.kept h (grown_of_below hb) ?_
  cases hv : v.ownBlock
  · exact .inl rfl
  · exact .inr (by simp)
theorem OwnV.kept {w w' : World} {base g : Nat} {v : Value} {es : List Vn} (h : OwnV w base v es) (hg : w.grownBy w' (some g)) (hne : ∀ k, v.ownBlock = some k → k ≠ g) : OwnV w' base v es := by
  refine World.ownsRow.kept h hg ?_
  cases hv : v.ownBlock
  · exact .inl rfl
  · rename_i k
    exact .inr fun e => hne k hv (Option.some.inj e)
theorem OwnV.low {w : World} {base base' : Nat} {v : Value} {es : List Vn} (h : OwnV w base v es) (hb : base' ≤ base) : OwnV w base' v es := by
  refine ⟨h.1, ?_⟩
  rcases h.2 with h | ⟨g, cap, cur, h1, h2, h3⟩
  · exact .inl h
  · exact .inr ⟨g, cap, cur, h1, Nat.le_trans hb h2, h3⟩
theorem OwnV.lt {w : World} {base : Nat} {v : Value} {es : List Vn} (h : OwnV w base v es) : ∀ k, v.ownBlock = some k → base ≤ k ∧ k < w.heap.size := World.ownsRow.lt h
theorem OwnV.ne {w : World} {base b : Nat} {v : Value} {es : List Vn} {cs : Array Value} {t : TypeId} {fr : Nat × Nat} (h : OwnV w base v es) (hb : w.heap[b]? = some (.cells cs t fr)) (ht : t ≠ 52) : v.ownBlock ≠ some b := by
  rcases h.2 with ⟨rfl, -⟩ | ⟨g, cap, cur, rfl, -, h2, -⟩
  · simp [Value.ownBlock]
  · intro e
    simp only [Value.ownBlock, Option.some.injEq] at e
    rw [e, hb] at h2
    simp only [Option.some.injEq, Obj.cells.injEq] at h2
    exact ht h2.2.1
theorem info_V : (Tryz.prog.info? 52).map (fun i => (i.zero, i.size, i.bytes)) = some (some (.agg #[.int .i64 0, .slice none 0 0, .slice none 0 0]), 3, 56) := by kernel_rfl
theorem info_V' : ∃ i, Tryz.prog.info? 52 = some i ∧ i.zero = some (.agg #[.int .i64 0, .slice none 0 0, .slice none 0 0]) ∧ i.size = 3 ∧ i.bytes = 56 := by
  obtain ⟨i, hi, h⟩ := Option.map_eq_some_iff.1 info_V
  simp only [Prod.mk.injEq] at h
  exact ⟨i, hi, h.1, h.2.1, h.2.2⟩
theorem under_V : Tryz.prog.underlying 22 = some (.slice 52) := by kernel_rfl
theorem VS.flatV_cells {w : World} {ad : Addr} {n : Nat} {es : List Vn} (h : VS w (some ad) n es) : ∀ j u, (flatV es)[j]? = some u → w.cell? (ad.add j) = some u := by
  intro j u hj
  obtain ⟨i, q, rfl, hq, hi⟩ := flatV_split hj
  rw [flatV_at es i q hi hq] at hj
  obtain ⟨b, o, hx, d0, d1, d2⟩ := h.cells i (by rw [← h.len]; exact hi)
  simp only [Option.some.injEq] at hx
  subst hx
  rw [addr_add, ← Nat.add_assoc]
  rcases q with _ | _ | _ | q
  case succ.succ.succ => omega
  all_goals simp only [cV, List.getElem?_cons_zero, List.getElem?_cons_succ, Option.some.injEq] at hj
  all_goals rw [← hj]
  all_goals assumption
/-- append of a whole slice to a row of the call's own. -/
theorem wpList_append_V {w : World} {ops : Array Oper} {rest : List Oper} {o : Oper} {a : Act} {Q : Exit → Act → World → Prop} (hgd : o.guard = none) (s x : Operand)
    (ho : o.op = .call { callee := .builtin .append, args := #[s, x], argTypes := #[22, 22] }) (base : Nat) (v : Value) (es : List Vn) (hs : a.eval s = v) (hO : OwnV w base v es)
    (ad : Addr) (m c : Nat) (fs : List Vn) (hx : a.eval x = .slice (some ad) m c) (hm : fs.length = m) (hy : ∀ j u, (flatV fs)[j]? = some u → w.cell? (ad.add j) = some u)
    (hlen : es.length + m ≤ 1000000000) (hbase : base ≤ w.heap.size)
    (h : ∀ v' w', OwnV w' base v' (es ++ fs) → w.grownBy w' v.ownBlock → wpList Tryz.prog ops Q rest (a.put o.dst v') w') : wpList Tryz.prog ops Q (o :: rest) a w := by
  obtain ⟨i0, hi, hz0, hz1, hz2⟩ := info_V'
  subst hm
  refine wpList_append_own w hgd s x 22 ho base 52 i0 _ 3 56 under_V hi hz0 hz1 hz2 rfl (by decide) v es.length (flatV es) hs hO ad fs.length c (flatV fs) hx (flatV_len fs) hy (flatV_one fs) (by unfold maxLen; omega) (by omega) hbase ?_
  intro v' w' h1 h2 _
  refine h v' w' ?_ h2
  unfold OwnV
  rw [flatV_app, List.length_append]
  exact h1
theorem OwnV.mem {w : World} {base : Nat} {v : Value} {es : List Vn} (h : OwnV w base v es) : ∃ x c, v = .slice x es.length c ∧ es.length ≤ c ∧ c ≤ 9223372036854775807 ∧ (x = none → es.length = 0 ∧ c = 0) ∧ ∀ i, i < es.length → ∃ b o, x = some ⟨b, o, none⟩ ∧ w.cell? ⟨b, o + i * 3, none⟩ = some (.int .i64 (vnAt es i).id) ∧ w.cell? ⟨b, o + i * 3 + 1, none⟩ = some (.slice (vnAt es i).rx (vnAt es i).rn (vnAt es i).rc) ∧ w.cell? ⟨b, o + i * 3 + 2, none⟩ = some (.slice (vnAt es i).sx (vnAt es i).sn (vnAt es i).sc) := by
  rcases h.2 with ⟨rfl, h0⟩ | ⟨g, cap, cur, rfl, -, -, h4, h5, -⟩
  · exact ⟨none, 0, by rw [h0], by omega, by omega, fun _ => ⟨h0, rfl⟩, fun i hi => by omega⟩
  · refine ⟨some ⟨g, 0, none⟩, cap, rfl, h4, by unfold maxLen at h5; omega, fun e => by simp at e, fun i hi => ⟨g, 0, rfl, ?_⟩⟩
    have e : ∀ j, j < 3 → ∀ u, (cV (vnAt es i))[j]? = some u → w.cell? ⟨g, 0 + i * 3 + j, none⟩ = some u := fun j hj u hu => by
      have := World.ownsRow.cells h (g := g) rfl (i * 3 + j) u ((flatV_at es i j hi hj).trans hu)
      rw [Addr.add_lit] at this
      rw [Nat.add_assoc]
      exact this
    exact ⟨e 0 (by omega) _ rfl, e 1 (by omega) _ rfl, e 2 (by omega) _ rfl⟩
/-- The cells of links. -/
def cK (e : (Int × Int)) : List Value := [.int .i64 e.1, .int .i64 e.2]
def flatK (es : List (Int × Int)) : List Value := es.flatMap cK
theorem cK_len (e : (Int × Int)) : (cK e).length = 2 := rfl
theorem flatK_len : ∀ es : List (Int × Int), (flatK es).length = es.length * 2
  | [] => rfl
  | e :: es => by
    have := flatK_len es
    unfold flatK at this ⊢
    rw [List.flatMap_cons, List.length_append, this, cK_len, List.length_cons]
    omega
theorem flatK_snoc (es : List (Int × Int)) (e : (Int × Int)) : flatK (es ++ [e]) = flatK es ++ cK e := by simp [flatK]
theorem flatK_app (es fs : List (Int × Int)) : flatK (es ++ fs) = flatK es ++ flatK fs := by simp [flatK]
theorem flatK_at : ∀ (es : List (Int × Int)) (i j : Nat), i < es.length → j < 2 → (flatK es)[i * 2 + j]? = (cK (lkAt es i))[j]?
  | [], i, j, hi, _ => by simp at hi
  | e :: es, 0, j, _, hj => by
    unfold flatK
    rw [List.flatMap_cons, List.getElem?_append_left (by rw [cK_len]; omega)]
    simp [lkAt]
  | e :: es, i + 1, j, hi, hj => by
    have := flatK_at es i j (by simpa using hi) hj
    unfold flatK at this ⊢
    rw [List.flatMap_cons, List.getElem?_append_right (by rw [cK_len]; omega), cK_len, show (i + 1) * 2 + j - 2 = i * 2 + j by omega, this]
    simp [lkAt]
theorem flatK_split {es : List (Int × Int)} {j : Nat} {u : Value} (h : (flatK es)[j]? = some u) : ∃ i q, j = i * 2 + q ∧ q < 2 ∧ i < es.length := by
  have hl : j < (flatK es).length := by
    by_cases h2 : j < (flatK es).length
    · exact h2
    · rw [List.getElem?_eq_none (by omega)] at h; cases h
  rw [flatK_len] at hl
  exact ⟨j / 2, j % 2, by omega, by omega, by omega⟩
theorem flatK_one (es : List (Int × Int)) : ∀ u ∈ flatK es, u.oneCell' = true := fun u hu => by
  obtain ⟨e, -, hu⟩ := List.mem_flatMap.1 hu
  simp only [cK, List.mem_cons, List.not_mem_nil, or_false] at hu
  rcases hu with rfl | rfl <;> rfl
/-- links that lie in memory of the call's own. -/
def OwnK (w : World) (base : Nat) (v : Value) (es : List (Int × Int)) : Prop := w.ownsRow base 63 2 v es.length (flatK es)
theorem OwnK.later {w w' : World} {base : Nat} {v : Value} {es : List (Int × Int)} (h : OwnK w base v es) (hb : Below w.heap.size w w') : OwnK w' base v es := by
  refine World.ownsRow.kept h (grown_of_below hb) ?_
  cases hv : v.ownBlock
  · exact .inl rfl
  · exact .inr (by simp)
theorem OwnK.kept {w w' : World} {base g : Nat} {v : Value} {es : List (Int × Int)} (h : OwnK w base v es) (hg : w.grownBy w' (some g)) (hne : ∀ k, v.ownBlock = some k → k ≠ g) : OwnK w' base v es := by
  refine World.ownsRow.kept h hg ?_
  cases hv : v.ownBlock
  · exact .inl rfl
  · rename_i k
    exact .inr fun e => hne k hv (Option.some.inj e)
theorem OwnK.low {w : World} {base base' : Nat} {v : Value} {es : List (Int × Int)} (h : OwnK w base v es) (hb : base' ≤ base) : OwnK w base' v es := by
  refine ⟨h.1, ?_⟩
  rcases h.2 with h | ⟨g, cap, cur, h1, h2, h3⟩
  · exact .inl h
  · exact .inr ⟨g, cap, cur, h1, Nat.le_trans hb h2, h3⟩
theorem OwnK.lt {w : World} {base : Nat} {v : Value} {es : List (Int × Int)} (h : OwnK w base v es) : ∀ k, v.ownBlock = some k → base ≤ k ∧ k < w.heap.size := World.ownsRow.lt h
theorem OwnK.ne {w : World} {base b : Nat} {v : Value} {es : List (Int × Int)} {cs : Array Value} {t : TypeId} {fr : Nat × Nat} (h : OwnK w base v es) (hb : w.heap[b]? = some (.cells cs t fr)) (ht : t ≠ 63) : v.ownBlock ≠ some b := by
  rcases h.2 with ⟨rfl, -⟩ | ⟨g, cap, cur, rfl, -, h2, -⟩
  · simp [Value.ownBlock]
  · intro e
    simp only [Value.ownBlock, Option.some.injEq] at e
    rw [e, hb] at h2
    simp only [Option.some.injEq, Obj.cells.injEq] at h2
    exact ht h2.2.1
theorem info_K : (Tryz.prog.info? 63).map (fun i => (i.zero, i.size, i.bytes)) = some (some (.agg #[.int .i64 0, .int .i64 0]), 2, 16) := by kernel_rfl
theorem info_K' : ∃ i, Tryz.prog.info? 63 = some i ∧ i.zero = some (.agg #[.int .i64 0, .int .i64 0]) ∧ i.size = 2 ∧ i.bytes = 16 := by
  obtain ⟨i, hi, h⟩ := Option.map_eq_some_iff.1 info_K
  simp only [Prod.mk.injEq] at h
  exact ⟨i, hi, h.1, h.2.1, h.2.2⟩
theorem under_K : Tryz.prog.underlying 23 = some (.slice 63) := by kernel_rfl
theorem PS.flatK_cells {w : World} {ad : Addr} {n : Nat} {es : List (Int × Int)} (h : PS w (some ad) n es) : ∀ j u, (flatK es)[j]? = some u → w.cell? (ad.add j) = some u := by
  intro j u hj
  obtain ⟨i, q, rfl, hq, hi⟩ := flatK_split hj
  rw [flatK_at es i q hi hq] at hj
  obtain ⟨b, o, hx, d0, d1⟩ := h.cells i (by rw [← h.len]; exact hi)
  simp only [Option.some.injEq] at hx
  subst hx
  rw [addr_add, ← Nat.add_assoc]
  rcases q with _ | _ | q
  case succ.succ => omega
  all_goals simp only [cK, List.getElem?_cons_zero, List.getElem?_cons_succ, Option.some.injEq] at hj
  all_goals rw [← hj]
  all_goals assumption
/-- append of a whole slice to a row of the call's own. -/
theorem wpList_append_K {w : World} {ops : Array Oper} {rest : List Oper} {o : Oper} {a : Act} {Q : Exit → Act → World → Prop} (hgd : o.guard = none) (s x : Operand)
    (ho : o.op = .call { callee := .builtin .append, args := #[s, x], argTypes := #[23, 23] }) (base : Nat) (v : Value) (es : List (Int × Int)) (hs : a.eval s = v) (hO : OwnK w base v es)
    (ad : Addr) (m c : Nat) (fs : List (Int × Int)) (hx : a.eval x = .slice (some ad) m c) (hm : fs.length = m) (hy : ∀ j u, (flatK fs)[j]? = some u → w.cell? (ad.add j) = some u)
    (hlen : es.length + m ≤ 1000000000) (hbase : base ≤ w.heap.size)
    (h : ∀ v' w', OwnK w' base v' (es ++ fs) → w.grownBy w' v.ownBlock → wpList Tryz.prog ops Q rest (a.put o.dst v') w') : wpList Tryz.prog ops Q (o :: rest) a w := by
  obtain ⟨i0, hi, hz0, hz1, hz2⟩ := info_K'
  subst hm
  refine wpList_append_own w hgd s x 23 ho base 63 i0 _ 2 16 under_K hi hz0 hz1 hz2 rfl (by decide) v es.length (flatK es) hs hO ad fs.length c (flatK fs) hx (flatK_len fs) hy (flatK_one fs) (by unfold maxLen; omega) (by omega) hbase ?_
  intro v' w' h1 h2 _
  refine h v' w' ?_ h2
  unfold OwnK
  rw [flatK_app, List.length_append]
  exact h1
theorem OwnK.mem {w : World} {base : Nat} {v : Value} {es : List (Int × Int)} (h : OwnK w base v es) : ∃ x c, v = .slice x es.length c ∧ es.length ≤ c ∧ c ≤ 9223372036854775807 ∧ (x = none → es.length = 0 ∧ c = 0) ∧ ∀ i, i < es.length → ∃ b o, x = some ⟨b, o, none⟩ ∧ w.cell? ⟨b, o + i * 2, none⟩ = some (.int .i64 (lkAt es i).1) ∧ w.cell? ⟨b, o + i * 2 + 1, none⟩ = some (.int .i64 (lkAt es i).2) := by
  rcases h.2 with ⟨rfl, h0⟩ | ⟨g, cap, cur, rfl, -, -, h4, h5, -⟩
  · exact ⟨none, 0, by rw [h0], by omega, by omega, fun _ => ⟨h0, rfl⟩, fun i hi => by omega⟩
  · refine ⟨some ⟨g, 0, none⟩, cap, rfl, h4, by unfold maxLen at h5; omega, fun e => by simp at e, fun i hi => ⟨g, 0, rfl, ?_⟩⟩
    have e : ∀ j, j < 2 → ∀ u, (cK (lkAt es i))[j]? = some u → w.cell? ⟨g, 0 + i * 2 + j, none⟩ = some u := fun j hj u hu => by
      have := World.ownsRow.cells h (g := g) rfl (i * 2 + j) u ((flatK_at es i j hi hj).trans hu)
      rw [Addr.add_lit] at this
      rw [Nat.add_assoc]
      exact this
    exact ⟨e 0 (by omega) _ rfl, e 1 (by omega) _ rfl⟩
set_option maxRecDepth 20000 in
set_option maxHeartbeats 800000 in
theorem cloneV_any (x : Option Addr) (n c : Nat) (es : List Vn) (w : World) (hl : VS w x n es) (hn : n ≤ 1048576) :
    Calls Tryz.prog 49 #[.slice x n c] w fun e w' => ∃ v, e = .returned v ∧ OwnV w' w.heap.size v es ∧ Below w.heap.size w w' := by
  have hq := fun W => Lib.run_eql_slice_nil (P := Tryz.prog) W 22 52 x n c 0 0 under_V
  cases x with
  | none =>
    have h0 : n = 0 := by
      rcases Nat.eq_zero_or_pos n with h | h
      · exact h
      · obtain ⟨b, o, h, -⟩ := hl.cells 0 h
        cases h
    obtain rfl : es = [] := List.eq_nil_of_length_eq_zero (by rw [hl.len, h0])
    subst h0
    simp only [Option.isNone_none] at hq
    go_enter Tryz.func49, Tryz.ntmps49
    go_wp2
    go_ret
    exact ⟨_, rfl, World.ownsRow_nil _ _ _ _, Below.refl _ _⟩
  | some ad =>
    simp only [Option.isNone_some] at hq
    have hlen := hl.len
    go_enter Tryz.func49, Tryz.ntmps49
    go_wp2_with (at_builtin; refine Hid.out ?_)
    unfold Hid
    have hO : OwnV (w.alloc (.cells #[] 52)) w.heap.size (.slice (some ⟨w.heap.size, 0, none⟩) 0 0) [] := ⟨rfl, .inr ⟨w.heap.size, 0, #[], rfl, Nat.le_refl _, heap_new _ rfl, by simp, by unfold maxLen; omega, by simp, rfl⟩⟩
    refine wpList_append_V rfl _ _ rfl w.heap.size _ [] rfl hO ad n c es rfl hlen (fun j u hj => cell_later_add (bl1 w _) (hl.flatV_cells j u hj)) (by simp; omega) (by simp) ?_
    intro v' w' hO' hg
    have hB := below_grownr (bl1 w _) hg (fun k e => (hO.lt k e).1)
    go_wp2
    go_ret
    exact ⟨_, rfl, hO', hB⟩

set_option maxRecDepth 20000 in
set_option maxHeartbeats 800000 in
theorem cloneK_any (x : Option Addr) (n c : Nat) (es : List (Int × Int)) (w : World) (hl : PS w x n es) (hn : n ≤ 1048576) :
    Calls Tryz.prog 50 #[.slice x n c] w fun e w' => ∃ v, e = .returned v ∧ OwnK w' w.heap.size v es ∧ Below w.heap.size w w' := by
  have hq := fun W => Lib.run_eql_slice_nil (P := Tryz.prog) W 23 63 x n c 0 0 under_K
  cases x with
  | none =>
    have h0 : n = 0 := by
      rcases Nat.eq_zero_or_pos n with h | h
      · exact h
      · obtain ⟨b, o, h, -⟩ := hl.cells 0 h
        cases h
    obtain rfl : es = [] := List.eq_nil_of_length_eq_zero (by rw [hl.len, h0])
    subst h0
    simp only [Option.isNone_none] at hq
    go_enter Tryz.func50, Tryz.ntmps50
    go_wp2
    go_ret
    exact ⟨_, rfl, World.ownsRow_nil _ _ _ _, Below.refl _ _⟩
  | some ad =>
    simp only [Option.isNone_some] at hq
    have hlen := hl.len
    go_enter Tryz.func50, Tryz.ntmps50
    go_wp2_with (at_builtin; refine Hid.out ?_)
    unfold Hid
    have hO : OwnK (w.alloc (.cells #[] 63)) w.heap.size (.slice (some ⟨w.heap.size, 0, none⟩) 0 0) [] := ⟨rfl, .inr ⟨w.heap.size, 0, #[], rfl, Nat.le_refl _, heap_new _ rfl, by simp, by unfold maxLen; omega, by simp, rfl⟩⟩
    refine wpList_append_K rfl _ _ rfl w.heap.size _ [] rfl hO ad n c es rfl hlen (fun j u hj => cell_later_add (bl1 w _) (hl.flatK_cells j u hj)) (by simp; omega) (by simp) ?_
    intro v' w' hO' hg
    have hB := below_grownr (bl1 w _) hg (fun k e => (hO.lt k e).1)
    go_wp2
    go_ret
    exact ⟨_, rfl, hO', hB⟩

end Go.Proofs.YtlalgkjollgcbaaGreat
/- Grow, Concat and Put at networks. -/
namespace Go.Proofs.YtlalgkjollgcbaaGreat
open Go.RowKit Go.Shelf

/-- These lie one behind the other from there on. -/
def RunV (w : World) (x : Option Addr) (n : Nat) (es : List Vn) : Prop := es.length = n ∧ (0 < n → x ≠ none) ∧ ∀ ad, x = some ad → ∀ j u, (flatV es)[j]? = some u → w.cell? (ad.add j) = some u
theorem RunV.later {w w' : World} {x : Option Addr} {n : Nat} {es : List Vn} (h : RunV w x n es) (hb : Below w.heap.size w w') : RunV w' x n es :=
  ⟨h.1, h.2.1, fun ad hx j u hj => cell_later_add hb (h.2.2 ad hx j u hj)⟩
theorem RunV.empty (w : World) (x : Option Addr) : RunV w x 0 [] := ⟨rfl, fun h => by omega, fun _ _ j u hj => by simp [flatV] at hj⟩
theorem VS.run {w : World} {x : Option Addr} {n : Nat} {es : List Vn} (h : VS w x n es) : RunV w x n es :=
  ⟨h.len, (fun h0 e => by obtain ⟨b, o, hx, -⟩ := h.cells 0 h0; rw [e] at hx; cases hx), fun ad hx => by subst hx; exact h.flatV_cells⟩
theorem RunV.take {w : World} {x : Option Addr} {n i : Nat} {es : List Vn} (h : RunV w x n es) (hi : i ≤ n) : RunV w x i (es.take i) := by
  refine ⟨by rw [List.length_take, h.1]; omega, fun h0 => h.2.1 (by omega), fun ad hx j u hj => h.2.2 ad hx j u ?_⟩
  conv => lhs; rw [← List.take_append_drop i es]
  rw [flatV_app, List.getElem?_append_left (List.getElem?_eq_some_iff.1 hj).1]
  exact hj
theorem RunV.drop {w : World} {b o n i c : Nat} {es : List Vn} (h : RunV w (some ⟨b, o, none⟩) n es) (hi : i ≤ n) (hnc : n ≤ c) : RunV w (if c = i then some ⟨b, o, none⟩ else some ⟨b, o + i * 3, none⟩) (n - i) (es.drop i) := by
  refine ⟨by rw [List.length_drop, h.1], fun _ => by split <;> simp, fun ad hx j u hj => ?_⟩
  have hlt : i < n := by
    by_cases e : i < n
    · exact e
    · rw [List.drop_eq_nil_of_le (by rw [h.1]; omega)] at hj
      simp [flatV] at hj
  rw [if_neg (by omega)] at hx
  cases hx
  have h2 := h.2.2 _ rfl (i * 3 + j) u (by
    conv => lhs; rw [← List.take_append_drop i es]
    have hm : (flatV (es.take i)).length = i * 3 := by rw [flatV_len, List.length_take, h.1, show min i n = i by omega]
    rw [flatV_app, List.getElem?_append_right (by rw [hm]; omega), hm, show i * 3 + j - i * 3 = j by omega]
    exact hj)
  rw [addr_add] at h2 ⊢
  rw [show o + i * 3 + j = o + (i * 3 + j) by omega]
  exact h2

set_option maxRecDepth 20000 in
set_option maxHeartbeats 800000 in
theorem growV_nil (n : Nat) (w : World) (h0 : 0 < n) (hn : n ≤ 1000) :
    Calls Tryz.prog 81 #[.slice none 0 0, .int .i64 n] w fun e w' => ∃ v, e = .returned v ∧ Below w.heap.size w w' ∧ OwnV w' w.heap.size v [] := by
  obtain ⟨i0, hi, hz0, hz1, hz2⟩ := info_V'
  have hold : (Builtin.firstCells i0.size 0 (.slice none 0 0)).run Tryz.prog w.drew = .ok ([] : List Value).toArray w.drew := run_firstCells_none w.drew i0.size 0 0 0
  have hrz : ∀ ty, (Builtin.append_ #[22, 3] ty #[.slice none 0 0, .int .i64 (n : Int)]).run Tryz.prog w = _ := fun ty =>
    Lib.run_append_grow_zeros w 22 3 ty 52 i0 _ .i64 .i64 under_V under_int hi hz0 none 0 0 [] hold n (by omega) (by omega) (by omega) (by omega) (by rw [hz2]; omega) (by rw [hz2]; exact growslice_fits (by omega) (by omega))
  have hG := grownCap_le_maxLen w (0 + n) 0 52 (by unfold maxLen; omega)
  have hGn := grownCap_ge w (0 + n) 0 52
  generalize grownCap w (0 + n) 0 52 = G at hrz hG hGn
  have h1 : ¬ ((n : Int) < 0) := by omega
  have h4 : (n : Int) > 0 := by omega
  have hG63 : G ≤ 9223372036854775807 := by unfold maxLen at hG; omega
  go_enter Tryz.func81, Tryz.ntmps81
  go_wp2_with (at_builtin; refine Lib.wpList_append_run _ rfl _ _ _ _ rfl _ _ rfl rfl _ _ (hrz _) ?_)
  go_ret
  refine ⟨_, rfl, (bl1 w _).drew, (World.ownsRow_made w _ G (Nat.le_refl _) hG ?_).drew⟩
  simp only [Array.size_append, size_zeroCells, List.size_toArray, List.length_cons, List.length_nil]
  omega
theorem growV_zero (w : World) :
    Calls Tryz.prog 81 #[.slice none 0 0, .int .i64 0] w fun e w' => e = .returned (.slice none 0 0) ∧ w' = w := by
  go_enter Tryz.func81, Tryz.ntmps81
  go_wp2
  go_ret
  exact ⟨rfl, rfl⟩
theorem growV_any (n : Nat) (w : World) (hn : n ≤ 1000) :
    Calls Tryz.prog 81 #[.slice none 0 0, .int .i64 n] w fun e w' => ∃ v, e = .returned v ∧ Below w.heap.size w w' ∧ OwnV w' w.heap.size v [] := by
  by_cases h : n = 0
  · subst h
    exact (growV_zero w).mono fun _ _ ⟨he, hw⟩ => ⟨_, he, by rw [hw]; exact Below.refl _ _, World.ownsRow_nil _ _ _ _⟩
  · exact growV_nil n w (by omega) hn
def catVTo (ql : Nat → List Vn) : Nat → List Vn
  | 0 => []
  | j + 1 => catVTo ql j ++ ql j

set_option maxRecDepth 20000 in
set_option maxHeartbeats 1600000 in
theorem concatV_any (B k k' : Nat) (xl : Nat → Option Addr) (nl cl : Nat → Nat) (ql : Nat → List Vn) (w : World) (hk : k ≤ 3)
    (hc : ∀ j, j < k → w.cell? ⟨B, j, none⟩ = some (.slice (xl j) (nl j) (cl j))) (hp : ∀ j, j < k → RunV w (xl j) (nl j) (ql j)) (hn : ∀ j, j < k → nl j ≤ 64) (h0 : ∀ j, j < k → xl j = none → nl j = 0 ∧ cl j = 0) :
    Calls Tryz.prog 54 #[.slice (some ⟨B, 0, none⟩) k k'] w fun e w' => ∃ v, e = .returned v ∧ Below w.heap.size w w' ∧ OwnV w' w.heap.size v (catVTo ql k) := by
  obtain ⟨i0, hi, hz0, hz1, hz2⟩ := info_V'
  have hlen : ∀ j, j ≤ k → (catVTo ql j).length ≤ 64 * j := by
    intro j
    induction j with
    | zero => intro _; simp [catVTo]
    | succ j ih =>
      intro hj
      have h1 := ih (by omega)
      have h2 := (hp j (by omega)).1
      have h3 := hn j (by omega)
      simp only [catVTo, List.length_append]
      omega
  go_enter Tryz.func54, Tryz.ntmps54
  go_wp2
  go_loopw [11, 3] (fun i t wr => ∃ j : Nat, j ≤ k ∧ i = .int .i64 j ∧ t = .int .i64 ((catVTo ql j).length : Nat) ∧ wr = w) (fun i _ _ => k - (intOf i).toNat)
  case atStart => exact ⟨0, by omega, rfl, rfl, rfl⟩
  case round =>
    obtain ⟨j, hj, rfl, rfl, hw⟩ := hrel
    have hw' := hw.symm
    subst hw'
    clear hw
    have hl := hlen j hj
    by_cases hlt : j < k
    · have hcj := hc j hlt
      have hl2 := hlen (j + 1) hlt
      have hpl := (hp j hlt).1
      have hnj := hn j hlt
      have hlt' := hlt
      have hcat : (catVTo ql (j + 1)).length = (catVTo ql j).length + nl j := by simp only [catVTo, List.length_append, hpl]
      have hneg : ¬ (((catVTo ql j).length : Int) + (nl j : Int) < 0) := by omega
      go_wp2
      go_roundw
      case rel => exact ⟨j + 1, hlt', by go_num, by rw [hcat]; go_num, trivial⟩
      case measure => simp [intOf]; omega
    · obtain rfl : j = k := by omega
      go_wp2_with fail
      refine (growV_any _ w (by omega)).mono ?_
      rintro e w1 ⟨v0, rfl, hb1, hown1⟩
      go_wp2
      go_loopw [27, 6] (fun i v wq => ∃ q : Nat, q ≤ j ∧ i = .int .i64 q ∧ Below w.heap.size w wq ∧ OwnV wq w.heap.size v (catVTo ql q)) (fun i _ _ => j - (intOf i).toNat)
      case atStart => exact ⟨0, by omega, rfl, hb1, hown1⟩
      case round =>
        obtain ⟨q, hq, rfl, hB, hown⟩ := hrel
        by_cases hlt2 : q < j
        · have hcq := cell_later hB (hc q hlt2)
          have hpq := (hp q hlt2).later hB
          have hlq := hlen q hq
          have hnq := hn q hlt2
          have hlt3 := hlt2
          have hsz := hB.size
          cases hxq : xl q with
          | none =>
            obtain ⟨hn0, hc0⟩ := h0 q hlt2 hxq
            rw [hxq, hn0, hc0] at hcq
            have hq0 : ql q = [] := List.eq_nil_of_length_eq_zero (by rw [hpq.1]; exact hn0)
            go_wp2_with (at_builtin; refine wpList_append_own_none rfl _ _ 22 rfl w.heap.size 52 i0 3 under_V hi _ _ _ rfl hown rfl ?_)
            go_roundw
            case rel => exact ⟨q + 1, hlt3, by go_num, hB, by simp only [catVTo, hq0, List.append_nil]; exact hown⟩
            case measure => simp [intOf]; omega
          | some ad =>
            rw [hxq] at hcq hpq
            go_wp2_with (at_builtin; refine Hid.out ?_)
            unfold Hid
            refine wpList_append_V rfl _ _ rfl w.heap.size _ _ rfl hown ad (nl q) (cl q) (ql q) rfl hpq.1 (hpq.2.2 ad rfl) (by omega) (by omega) ?_
            intro v' w2 hown2 hgrow'
            have hgrow : wr.grownBy w2 u6.ownBlock := hgrow'
            clear hgrow'
            have hB2 : Below w.heap.size w w2 := ⟨hgrow.os.trans hB.os, hgrow.tape.trans hB.tape, hgrow.output.trans hB.output, Nat.le_trans hsz hgrow.size, fun k hk => (hgrow.block k (by omega) (fun e => by have := (hown.lt _ e.symm).1; omega)).trans (hB.block k hk)⟩
            have hown3 : OwnV w2 w.heap.size v' (catVTo ql (q + 1)) := hown2
            clear hown2
            go_wp2
            go_roundw
            case rel => exact ⟨q + 1, hlt3, by go_num, hB2, hown3⟩
            case measure => simp [intOf]; omega
        · obtain rfl : q = j := by omega
          go_wp2
          go_ret
          exact ⟨_, rfl, hB, hown⟩
set_option maxRecDepth 20000 in
set_option maxHeartbeats 800000 in
theorem put1V_any (p r : Vn) (bp bb bf k : Nat) (w : World) (h10 : w.cell? ⟨bp, 0, none⟩ = some (.int .i64 p.id)) (h11 : w.cell? ⟨bp, 1, none⟩ = some (.slice p.rx p.rn p.rc)) (h12 : w.cell? ⟨bp, 2, none⟩ = some (.slice p.sx p.sn p.sc))
    (h2 : w.cell? ⟨bb, 0, none⟩ = some (.slice (some ⟨bf, 0, none⟩) 1 k)) (h3 : w.cell? ⟨bf, 0, none⟩ = some (.func (.func 28) #[] #[])) :
    Calls Tryz.prog 52 #[.agg #[.int .i64 r.id, .slice r.rx r.rn r.rc, .slice r.sx r.sn r.sc], .pointer (some ⟨bp, 0, none⟩), .pointer (some ⟨bb, 0, none⟩)] w fun e w' => e = .returned (.bool (decide (p.id < r.id))) ∧ Below w.heap.size w w' := by
  have k10 : ∀ q, (w.alloc q).cell? ⟨bp, 0, none⟩ = some (.int .i64 p.id) := fun q => cell_later (bl1 w q) h10
  have k11 : ∀ q, (w.alloc q).cell? ⟨bp, 1, none⟩ = some (.slice p.rx p.rn p.rc) := fun q => cell_later (bl1 w q) h11
  have k12 : ∀ q, (w.alloc q).cell? ⟨bp, 2, none⟩ = some (.slice p.sx p.sn p.sc) := fun q => cell_later (bl1 w q) h12
  have k2 : ∀ q, (w.alloc q).cell? ⟨bb, 0, none⟩ = some (.slice (some ⟨bf, 0, none⟩) 1 k) := fun q => cell_later (bl1 w q) h2
  have hv : ∃ v, Cmp p.id r.id v ∧ (decide (p.id < r.id) = decide (v < 0)) := by
    rcases Int.lt_trichotomy p.id r.id with h | h | h
    · exact ⟨-1, .inl ⟨h, rfl⟩, by simp [h]⟩
    · exact ⟨0, .inr (.inl ⟨h, rfl⟩), by simp [h]⟩
    · exact ⟨1, .inr (.inr ⟨h, rfl⟩), by simp; omega⟩
  obtain ⟨v, hv, hd⟩ := hv
  rw [hd]
  go_enter Tryz.func52, Tryz.ntmps52
  go_wp2_with (go_at_call 53; refine (compareV_is p r v hv bf k _ (cell_later (bl1 w _) h3)).mono ?_; rintro e w1 ⟨rfl, hb1⟩)
  go_ret
  exact ⟨rfl, (bl1 w _).trans (hb1.mono (by simp))⟩
theorem call_put1V (args : Array Value) (W : World) : (callFunc 52 args).run Tryz.prog W = .ok (.enter 52 args) W := by simp [go_sem]

set_option maxHeartbeats 800000 in
theorem concatV3 (x1 x3 : Option Addr) (n1 c1 n3 c3 : Nat) (q1 q3 : List Vn) (e : Vn) (w : World) (h1 : RunV w x1 n1 q1) (h3 : RunV w x3 n3 q3) (b1 : n1 ≤ 64) (b3 : n3 ≤ 64) (z1 : x1 = none → n1 = 0 ∧ c1 = 0) (z3 : x3 = none → n3 = 0 ∧ c3 = 0) :
    Calls Tryz.prog 54 #[.slice (some ⟨w.heap.size + 1, 0, none⟩) 3 3] ((w.alloc (.cells #[.int .i64 e.id, .slice e.rx e.rn e.rc, .slice e.sx e.sn e.sc] 52)).alloc (.cells #[.slice x1 n1 c1, .slice (some ⟨w.heap.size, 0, none⟩) 1 1, .slice x3 n3 c3] 22)).drew fun r w' =>
      ∃ v, r = .returned v ∧ Below w.heap.size w w' ∧ OwnV w' (w.heap.size + 2) v (q1 ++ [e] ++ q3) := by
  obtain ⟨W, hW⟩ : ∃ W, W = ((w.alloc (.cells #[.int .i64 e.id, .slice e.rx e.rn e.rc, .slice e.sx e.sn e.sc] 52)).alloc (.cells #[.slice x1 n1 c1, .slice (some ⟨w.heap.size, 0, none⟩) 1 1, .slice x3 n3 c3] 22)).drew := ⟨_, rfl⟩
  have hB : Below w.heap.size w W := by rw [hW]; exact (bl2 w _ _).drew
  have g0 : W.heap[w.heap.size]? = some (.cells #[.int .i64 e.id, .slice e.rx e.rn e.rc, .slice e.sx e.sn e.sc] 52) := by rw [hW]; exact heap_old _ (heap_new _ rfl)
  have g1 : W.heap[w.heap.size + 1]? = some (.cells #[.slice x1 n1 c1, .slice (some ⟨w.heap.size, 0, none⟩) 1 1, .slice x3 n3 c3] 22) := by rw [hW]; exact heap_new _ (by simp)
  have hs : W.heap.size = w.heap.size + 2 := by rw [hW]; simp
  rw [← hW]
  clear hW
  have hp2 : RunV W (some ⟨w.heap.size, 0, none⟩) 1 [e] := ⟨rfl, fun _ => by simp, fun ad hx j u hj => by
    cases hx
    rw [addr_add, Nat.zero_add]
    simp only [flatV, List.flatMap_cons, List.flatMap_nil, List.append_nil] at hj
    simpa [World.cell?, g0, cV] using hj⟩
  have hcat : catVTo (fun j => if j = 0 then q1 else if j = 1 then [e] else q3) 3 = q1 ++ [e] ++ q3 := by simp [catVTo]
  refine (concatV_any (w.heap.size + 1) 3 3 (fun j => if j = 0 then x1 else if j = 1 then some ⟨w.heap.size, 0, none⟩ else x3) (fun j => if j = 0 then n1 else if j = 1 then 1 else n3) (fun j => if j = 0 then c1 else if j = 1 then 1 else c3) (fun j => if j = 0 then q1 else if j = 1 then [e] else q3) W (by omega) ?_ ?_ ?_ ?_).mono ?_
  · intro j hj
    rcases j with _ | _ | _ | j
    · simp [World.cell?, g1]
    · simp [World.cell?, g1]
    · simp [World.cell?, g1]
    · omega
  · intro j hj
    rcases j with _ | _ | _ | j
    · simpa using h1.later hB
    · simpa using hp2
    · simpa using h3.later hB
    · omega
  · intro j hj
    rcases j with _ | _ | _ | j
    · simpa using b1
    · simp
    · simpa using b3
    · omega
  · intro j hj
    rcases j with _ | _ | _ | j
    · simpa using z1
    · simp
    · simpa using z3
    · omega
  · rintro r w' ⟨v, rfl, hb, hown⟩
    rw [hcat, hs] at hown
    exact ⟨v, rfl, hB.trans (hb.mono (by omega)), hown⟩
/-- What Put answers: it stands ahead of the first one whose number is greater. -/
def PutVPost (e : Vn) (n : Nat) (ps : List Vn) (w : World) (r : Ending) (w' : World) : Prop :=
  ∃ v, r = .returned v ∧ Below w.heap.size w w' ∧ ∃ i, i ≤ n ∧ (∀ j, j < i → ¬ e.id < (vnAt ps j).id) ∧ (i < n → e.id < (vnAt ps i).id) ∧ OwnV w' w.heap.size v (ps.take i ++ [e] ++ ps.drop i)

set_option maxRecDepth 20000 in
set_option maxHeartbeats 1600000 in
theorem putV_any (e : Vn) (x : Option Addr) (n c : Nat) (ps : List Vn) (bf k : Nat) (w : World) (hp : VS w x n ps) (hn : n ≤ 32) (hnc : n ≤ c) (hc63 : c ≤ 9223372036854775807) (hx : (x = none ∧ c = 0) ∨ ∃ b o, x = some ⟨b, o, none⟩)
    (hby : w.cell? ⟨bf, 0, none⟩ = some (.func (.func 28) #[] #[])) :
    Calls Tryz.prog 27 #[.slice x n c, .agg #[.int .i64 e.id, .slice e.rx e.rn e.rc, .slice e.sx e.sn e.sc], .slice (some ⟨bf, 0, none⟩) 1 k] w (PutVPost e n ps w) := by
  have hB2 := bl2 w (.cells #[.int .i64 e.id, .slice e.rx e.rn e.rc, .slice e.sx e.sn e.sc] 52) (.cells #[.slice (some ⟨bf, 0, none⟩) 1 k] 79)
  go_enter Tryz.func27, Tryz.ntmps27
  go_wp2_with fail
  have hF : FnVnAt 52 #[.pointer (some ⟨w.heap.size, 0, none⟩), .pointer (some ⟨w.heap.size + 1, 0, none⟩)] n ps (fun i => decide (e.id < (vnAt ps i).id)) ((w.alloc (.cells #[.int .i64 e.id, .slice e.rx e.rn e.rc, .slice e.sx e.sn e.sc] 52)).alloc (.cells #[.slice (some ⟨bf, 0, none⟩) 1 k] 79)) := fun i hi W hW =>
    put1V_any e (vnAt ps i) w.heap.size (w.heap.size + 1) bf k W (cell_later hW (by simp)) (cell_later hW (by simp)) (cell_later hW (by simp)) (cell_later hW (by simp)) (cell_later hW (cell_later hB2 hby))
  refine (indexFuncVn_any _ _ x n c ps _ _ (hp.later hB2) (by omega) hF call_put1V).mono ?_
  rintro e' w1 ⟨⟨r, rfl, hr⟩, hb1⟩
  have hB := hB2.trans (hb1.mono (by simp; omega))
  have e0 : w1.cell? ⟨w.heap.size, 0, none⟩ = some (.int .i64 e.id) := (hb1.cell (p := ⟨w.heap.size, 0, none⟩) (by show w.heap.size < _; simp; omega)).trans (by simp)
  have e1 : w1.cell? ⟨w.heap.size, 1, none⟩ = some (.slice e.rx e.rn e.rc) := (hb1.cell (p := ⟨w.heap.size, 1, none⟩) (by show w.heap.size < _; simp; omega)).trans (by simp)
  have e2 : w1.cell? ⟨w.heap.size, 2, none⟩ = some (.slice e.sx e.sn e.sc) := (hb1.cell (p := ⟨w.heap.size, 2, none⟩) (by show w.heap.size < _; simp; omega)).trans (by simp)
  have hi : ∃ i : Nat, i ≤ n ∧ (∀ j, j < i → ¬ e.id < (vnAt ps j).id) ∧ (i < n → e.id < (vnAt ps i).id) ∧ ((r = i ∧ ¬ r < 0) ∨ (r = -1 ∧ i = n)) := by
    rcases hr with ⟨i, hi, hf, hno, rfl⟩ | ⟨hno, rfl⟩
    · exact ⟨i, by omega, fun j hj => by have := hno j hj; simpa using this, fun _ => by simpa using hf, .inl ⟨rfl, by omega⟩⟩
    · exact ⟨n, by omega, fun j hj => by have := hno j hj; simpa using this, fun h => by omega, .inr ⟨rfl, rfl⟩⟩
  obtain ⟨i, hin, hlow, hup, hri⟩ := hi
  have hrun := hp.run
  rcases hx with ⟨rfl, rfl⟩ | ⟨b, o, rfl⟩
  · obtain rfl : n = 0 := by omega
    obtain rfl : i = 0 := by omega
    have hps0 := List.eq_nil_of_length_eq_zero hp.len
    rcases hri with ⟨rfl, hneg⟩ | ⟨rfl, hi2⟩
    · go_wp2_with fail
      have hpw := hrun.later hB
      go_region_held3 (fun w' => w'.cell? ⟨w.heap.size, 0, none⟩ = some (.int .i64 e.id) ∧ w'.cell? ⟨w.heap.size, 1, none⟩ = some (.slice e.rx e.rn e.rc) ∧ w'.cell? ⟨w.heap.size, 2, none⟩ = some (.slice e.sx e.sn e.sc)) (first | (go_keep; done) | (exact ⟨cell_later (bl1 _ _) (by assumption), cell_later (bl1 _ _) (by assumption), cell_later (bl1 _ _) (by assumption)⟩) | (exact ⟨cell_later hb2 e0, cell_later hb2 e1, cell_later hb2 e2⟩)) (first | (go_at_call 54; refine (concatV3 none none 0 0 0 0 [] [] e w1 (RunV.empty _ _) (RunV.empty _ _) (by omega) (by omega) (fun _ => ⟨rfl, rfl⟩) (fun _ => ⟨rfl, rfl⟩)).mono ?_; rintro e' w2 ⟨v2, rfl, hb2, hps⟩) | fail)
      all_goals go_wp2
      all_goals go_ret
      all_goals unfold PutVPost
      all_goals exact ⟨_, rfl, hB.trans (hb2.mono hB.size), 0, by omega, fun j hj => by omega, fun h => by omega, by rw [hps0]; exact OwnV.low hps (by have := hB.size; omega)⟩
    · go_wp2_with fail
      have hpw := hrun.later hB
      go_region_held3 (fun w' => w'.cell? ⟨w.heap.size, 0, none⟩ = some (.int .i64 e.id) ∧ w'.cell? ⟨w.heap.size, 1, none⟩ = some (.slice e.rx e.rn e.rc) ∧ w'.cell? ⟨w.heap.size, 2, none⟩ = some (.slice e.sx e.sn e.sc)) (first | (go_keep; done) | (exact ⟨cell_later (bl1 _ _) (by assumption), cell_later (bl1 _ _) (by assumption), cell_later (bl1 _ _) (by assumption)⟩) | (exact ⟨cell_later hb2 e0, cell_later hb2 e1, cell_later hb2 e2⟩)) (first | (go_at_call 54; refine (concatV3 none none 0 0 0 0 [] [] e w1 (RunV.empty _ _) (RunV.empty _ _) (by omega) (by omega) (fun _ => ⟨rfl, rfl⟩) (fun _ => ⟨rfl, rfl⟩)).mono ?_; rintro e' w2 ⟨v2, rfl, hb2, hps⟩) | fail)
      all_goals go_wp2
      all_goals go_ret
      all_goals unfold PutVPost
      all_goals exact ⟨_, rfl, hB.trans (hb2.mono hB.size), 0, by omega, fun j hj => by omega, fun h => by omega, by rw [hps0]; exact OwnV.low hps (by have := hB.size; omega)⟩
  · rcases hri with ⟨rfl, hneg⟩ | ⟨rfl, hi2⟩
    · go_wp2_with fail
      have hic : i ≤ c := by omega
      have hpw := hrun.later hB
      go_region_held3 (fun w' => w'.cell? ⟨w.heap.size, 0, none⟩ = some (.int .i64 e.id) ∧ w'.cell? ⟨w.heap.size, 1, none⟩ = some (.slice e.rx e.rn e.rc) ∧ w'.cell? ⟨w.heap.size, 2, none⟩ = some (.slice e.sx e.sn e.sc)) (first | (go_keep; done) | (exact ⟨cell_later (bl1 _ _) (by assumption), cell_later (bl1 _ _) (by assumption), cell_later (bl1 _ _) (by assumption)⟩) | (exact ⟨cell_later hb2 e0, cell_later hb2 e1, cell_later hb2 e2⟩)) (first | (go_at_call 54; refine (concatV3 (some ⟨b, o, none⟩) (if c = i then some ⟨b, o, none⟩ else some ⟨b, o + i * 3, none⟩) i c (n - i) (c - i) (ps.take i) (ps.drop i) e w1 (hpw.take (by omega)) (hpw.drop (by omega) hnc) (by omega) (by omega) (fun h => by cases h) (fun h => by split at h <;> cases h)).mono ?_; rintro e' w2 ⟨v2, rfl, hb2, hps⟩) | fail)
      all_goals go_wp2
      all_goals go_ret
      all_goals unfold PutVPost
      all_goals exact ⟨_, rfl, hB.trans (hb2.mono hB.size), i, by omega, fun j hj => by have := hlow j hj; omega, hup, OwnV.low hps (by have := hB.size; omega)⟩
    · have hi3 := hi2.symm
      subst hi3
      clear hi2
      by_cases hcn : n = c
      · subst hcn
        go_wp2_with fail
        have hpw := hrun.later hB
        go_region_held3 (fun w' => w'.cell? ⟨w.heap.size, 0, none⟩ = some (.int .i64 e.id) ∧ w'.cell? ⟨w.heap.size, 1, none⟩ = some (.slice e.rx e.rn e.rc) ∧ w'.cell? ⟨w.heap.size, 2, none⟩ = some (.slice e.sx e.sn e.sc)) (first | (go_keep; done) | (exact ⟨cell_later (bl1 _ _) (by assumption), cell_later (bl1 _ _) (by assumption), cell_later (bl1 _ _) (by assumption)⟩) | (exact ⟨cell_later hb2 e0, cell_later hb2 e1, cell_later hb2 e2⟩)) (first | (go_at_call 54; refine (concatV3 (some ⟨b, o, none⟩) (some ⟨b, o, none⟩) n n 0 0 ps [] e w1 hpw (RunV.empty _ _) (by omega) (by omega) (fun h => by cases h) (fun h => by cases h)).mono ?_; rintro e' w2 ⟨v2, rfl, hb2, hps⟩) | fail)
        all_goals go_wp2
        all_goals go_ret
        all_goals unfold PutVPost
        all_goals exact ⟨_, rfl, hB.trans (hb2.mono hB.size), n, by omega, fun j hj => by have := hlow j hj; omega, fun h => by omega, by rw [List.take_of_length_le (by rw [hp.len]; omega), List.drop_eq_nil_of_le (by rw [hp.len]; omega)]; exact OwnV.low hps (by have := hB.size; omega)⟩
      · have hcn' : ¬ c = n := fun h => hcn h.symm
        go_wp2_with fail
        have hpw := hrun.later hB
        go_region_held3 (fun w' => w'.cell? ⟨w.heap.size, 0, none⟩ = some (.int .i64 e.id) ∧ w'.cell? ⟨w.heap.size, 1, none⟩ = some (.slice e.rx e.rn e.rc) ∧ w'.cell? ⟨w.heap.size, 2, none⟩ = some (.slice e.sx e.sn e.sc)) (first | (go_keep; done) | (exact ⟨cell_later (bl1 _ _) (by assumption), cell_later (bl1 _ _) (by assumption), cell_later (bl1 _ _) (by assumption)⟩) | (exact ⟨cell_later hb2 e0, cell_later hb2 e1, cell_later hb2 e2⟩)) (first | (go_at_call 54; refine (concatV3 (some ⟨b, o, none⟩) (some ⟨b, o + n * 3, none⟩) n c 0 (c - n) ps [] e w1 hpw (RunV.empty _ _) (by omega) (by omega) (fun h => by cases h) (fun h => by cases h)).mono ?_; rintro e' w2 ⟨v2, rfl, hb2, hps⟩) | fail)
        all_goals go_wp2
        all_goals go_ret
        all_goals unfold PutVPost
        all_goals exact ⟨_, rfl, hB.trans (hb2.mono hB.size), n, by omega, fun j hj => by have := hlow j hj; omega, fun h => by omega, by rw [List.take_of_length_le (by rw [hp.len]; omega), List.drop_eq_nil_of_le (by rw [hp.len]; omega)]; exact OwnV.low hps (by have := hB.size; omega)⟩
end Go.Proofs.YtlalgkjollgcbaaGreat
