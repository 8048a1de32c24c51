/- A law of my own: a region that draws its order, whose head reads and makes memory above a mark, and whose tail waits for all of the head. -/
import Derived.Test.YtpdhipjeobchfaaMV11
import Derived.StillTail
import Derived.Lib.SliceRun
import Derived.Deep.DeepCutAuto
import Derived.Deep.RegionHeld3
namespace Go.Proofs.Ytpdhipjeobchfaa
open Go.RowKit

/-- The head's orders: so many operations, all of the first n, each quiet; then L. -/
def headQ (P : Program) (md : Region.Mode) (ops : Array Oper) (C : World → Prop) (n : Nat) (L : Array Bool → Act → Prop) : Nat → Array Bool → Act → Prop
  | 0, listed, a => L listed a
  | f + 1, listed, a => Region.ready md ops listed ≠ [] ∧ ∀ i ∈ Region.ready md ops listed, i < n ∧ qOp P ops C i (headQ P md ops C n L f (listed.setIfInBounds i true)) a
theorem headQ_sound {P : Program} {md : Region.Mode} {ops : Array Oper} {C : World → Prop} {n g : Nat} {L : Array Bool → Act → Prop} {Q : Exit → Act → World → Prop} (hL : ∀ listed a w, C w → L listed a → wpAny P md ops Q g listed a w) (f : Nat) :
    ∀ (listed : Array Bool) (a : Act) (w : World), C w → headQ P md ops C n L f listed a → wpAny P md ops Q (f + g) listed a w := by
  induction f with
  | zero => intro listed a w hw h; rw [Nat.zero_add]; exact hL _ _ _ hw h
  | succ f ih =>
    intro listed a w hw h
    rw [Nat.succ_add]
    refine ⟨fun h0 => absurd h0 h.1, fun i hi => ?_⟩
    exact wpOp_of_qOp hw (fun a' w' hw' h' => ih _ a' w' hw' h') (h.2 i hi).2
/-- What may come up now, and yields in every world of the class, may be taken first. -/
theorem headQ_first {P : Program} {md : Region.Mode} {ops : Array Oper} {C : World → Prop} {n i : Nat} {oi : Oper} {v : Value} {L : Array Bool → Act → Prop} (hi : ops[i]? = some oi) (hsel : ∀ (j : Nat) (o : Oper) cs b, ops[j]? = some o → o.op ≠ .select cs b)
    (hs : Region.sinkB md ops n = true) (hc : Region.chainB md ops n = true) (hn : n < ops.size) (hin : i < n) (hL : ∀ listed a, L listed a → ∀ j ∈ Region.ready md ops listed, n ≤ j) (f : Nat) :
    ∀ (listed : Array Bool) (a : Act), HeadInv md ops n listed → (∀ j oj, ops[j]? = some oj → j ≠ i → listed.getD j true = false → (∀ e ∈ oj.after, Region.binds md e = true → e.on ≠ i) → oi.apart ops oj = true) →
      i ∈ Region.ready md ops listed → YieldsIn P ops C oi v a → headQ P md ops C n L f (listed.setIfInBounds i true) (a.put oi.dst v) → headQ P md ops C n L (f + 1) listed a := by
  induction f with
  | zero =>
    intro listed a inv hfree hr hy H
    refine ⟨List.ne_nil_of_mem hr, fun j hj => ?_⟩
    have hjn : j < n := Nat.lt_of_not_le fun h => tail_waits hs hc hn inv _ i rfl hin (mem_ready.1 hr).1 j h hj
    refine ⟨hjn, ?_⟩
    by_cases e : j = i
    · subst e; exact hy.qOp hi H
    · exact absurd (hL _ _ H j (ready_mono hj e)) (by omega)
  | succ f ih =>
    intro listed a inv hfree hr hy H
    refine ⟨List.ne_nil_of_mem hr, fun j hj => ?_⟩
    have hjn : j < n := Nat.lt_of_not_le fun h => tail_waits hs hc hn inv _ i rfl hin (mem_ready.1 hr).1 j h hj
    refine ⟨hjn, ?_⟩
    by_cases e : j = i
    · subst e; exact hy.qOp hi H
    obtain ⟨hun, oj, hoj, hall⟩ := mem_ready.1 hj
    have hno : ∀ x ∈ oj.after, Region.binds md x = true → x.on ≠ i := fun x hx hb he => by
      have h1 := hall x hx hb
      rw [he, getD_both (mem_ready.1 hr).1] at h1
      cases h1
    have h2 := qOp_put hoj (hfree j oj hoj e hun hno) (fun cs b => hsel i oi cs b hi) (fun cs b => hsel j oj cs b hoj) hy (H.2 j (ready_mono hj e)).2
    refine qOp_mono (fun a' h3 => ih _ a' (inv.set hj hjn) (fun k ok hk hki hku => ?_) (ready_mono hr (Ne.symm e)) h3.1 ?_) h2
    · refine hfree k ok hk hki ?_
      by_cases hjk : j = k
      · subst hjk; exact hun
      · rw [getD_set_ne true hjk] at hku; exact hku
    · rw [Array.setIfInBounds_comm _ _ e]
      exact h3.2
theorem headQ_lex {P : Program} {md : Region.Mode} {ops : Array Oper} {C : World → Prop} {n g : Nat} {K : Act → Prop} (hsel : Region.noSelect ops = true) (hs : Region.sinkB md ops n = true) (hc : Region.chainB md ops n = true) (hn : n < ops.size) (l : List Oper) :
    ∀ (k : Nat) (listed : Array Bool) (a : Act), (∀ j, j < l.length → l[j]? = ops[k + j]?) → k + l.length = n → HeadInv md ops n listed → Region.lexHead md ops g l.length k listed = true → wpQuiet P ops C K l a →
      headQ P md ops C n (fun listed' a' => Region.seqB md ops g n listed' = true ∧ K a') l.length listed a := by
  induction l with
  | nil =>
    intro k listed a _ hk _ hB h
    obtain rfl : k = n := by simpa using hk
    exact ⟨by simpa [Region.lexHead] using hB, h⟩
  | cons o l ih =>
    intro k listed a hl hk inv hB h
    have h0 : ops[k]? = some o := by simpa using (hl 0 (by simp)).symm
    simp only [List.length_cons, Region.lexHead, Bool.and_eq_true] at hB
    have hkn : k < n := by simp only [List.length_cons] at hk; omega
    have hr : k ∈ Region.ready md ops listed := by simpa using hB.1.1
    have hq : qOp P ops C k (wpQuiet P ops C K l) a := by unfold qOp; simp only [h0]; exact h
    obtain ⟨v, hy, hK⟩ := yieldsIn_of_qOp h0 hq
    refine headQ_first h0 (Region.noSelect_spec hsel) hs hc hn hkn (fun _ _ hL => seqB_ready hL.1) l.length listed a inv (Region.free_spec h0 hB.1.2) hr hy ?_
    exact ih (k + 1) _ _ (fun j hj => by have := hl (j + 1) (by simp; omega); simpa [Nat.add_assoc, Nat.add_comm 1 j] using this) (by simp only [List.length_cons] at hk; omega) (inv.set hr hkn) hB.2 hK
theorem wp_region_tail {P : Program} {id : Nat} {Q : Exit → Act → World → Prop} {a : Act} {w : World} {l : List Oper} (m n : Nat) (hm : P.follows .mixedOrders = true) (hB : Region.lexTailB .any l.toArray n = true)
    (h : wpQuiet P l.toArray (fun w' => ∃ u : Ws m w, w' = u.val) (fun a' => ∀ u : Ws m w, wpList P l.toArray Q (l.drop n) a' u.val) (l.take n) a) : (Code.region id l.toArray true).wp P Q a w := by
  simp only [Region.lexTailB, Bool.and_eq_true, decide_eq_true_eq] at hB
  obtain ⟨⟨⟨⟨hsel, hn⟩, hs⟩, hc⟩, hlex⟩ := hB
  have htl : (l.take n).length = n := by simp at hn ⊢; omega
  have hdl : (l.drop n).length = l.toArray.size - n := by simp
  have inv0 : HeadInv .any l.toArray n (Array.replicate l.toArray.size false) :=
    ⟨by simp, fun j oj _ hl => (by rw [getD_replicate_false] at hl; cases hl), fun t _ ht => getD_in (by simpa using ht) (getD_replicate_false _ _)⟩
  have H := headQ_lex (md := .any) (g := l.toArray.size - n) hsel hs hc hn (l.take n) 0 _ a (fun j hj => by rw [htl] at hj; simp [hj]) (by simpa using htl) inv0 (by rw [htl]; exact hlex) h
  refine wp_region_any hm ?_
  have h2 := headQ_sound (Q := Q) (g := l.toArray.size - n) (C := fun w' => ∃ u : Ws m w, w' = u.val) (fun listed a' w' hw' hL => by
    obtain ⟨u, rfl⟩ := hw'
    have h3 := wpAny_of_seq (md := .any) (Q' := Q) (l.drop n) n listed a' u.val (fun j => by simp [List.getElem?_drop]) (by rw [hdl]; exact hL.1) (hL.2 u)
    rwa [hdl] at h3) _ _ _ _ ⟨⟨_, (Below.refl m w).drew⟩, rfl⟩ H
  rw [htl, show n + (l.toArray.size - n) = l.toArray.size by omega] at h2
  exact h2
end Go.Proofs.Ytpdhipjeobchfaa
/- Groups: head, groupsOf and apart of package net. -/
namespace Go.Proofs.Ytpdhipjeobchfaa
open Go.RowKit Go.Shelf Go.Maps
/-- The map leads from each number to that one. -/
structure GM (D : DataW Unit) (g : Int → Int) : Prop where
  isMap : IsMap D
  at_ : ∀ a : Int, D.atKey (.int .i64 a) (.lit (.int .i64 0)) = .lit (.int .i64 (g a))
theorem GM.empty : GM (.map []) (fun _ => 0) := ⟨isMap_empty, fun _ => rfl⟩
theorem GM.put {D : DataW Unit} {g : Int → Int} (h : GM D g) (a b : Int) : GM (D.put (.int .i64 a) (.lit (.int .i64 b))) (fun y => if y = a then b else g y) where
  isMap := h.isMap.put _ _
  at_ := fun y => by
    by_cases e : y = a
    · subst e
      rw [atKey_put_same h.isMap (by trivial), if_pos rfl]
    · rw [atKey_put_other (by intro e2; exact e (by cases e2; rfl)), h.at_ y, if_neg e]
/-- From x one comes in n steps to h, which leads to itself. -/
def Leads (g : Int → Int) : Nat → Int → Int → Prop
  | 0, x, h => g x = x ∧ h = x
  | n + 1, x, h => g x ≠ x ∧ Leads g n (g x) h
def dep (g : Int → Int) : Nat → Int → Nat
  | 0, _ => 0
  | n + 1, x => if g x = x then 0 else dep g n (g x) + 1
theorem Leads.dep_is {g : Int → Int} : ∀ {N n : Nat} {x h : Int}, Leads g n x h → n ≤ N → dep g N x = n
  | 0, n, x, h, _, hn => by simp [dep]; omega
  | N + 1, 0, x, h, hl, _ => by simp [dep, hl.1]
  | N + 1, n + 1, x, h, hl, hn => by
    simp only [dep, if_neg hl.1]
    rw [Leads.dep_is hl.2 (by omega)]
theorem Leads.root {g : Int → Int} : ∀ {n : Nat} {x h : Int}, Leads g n x h → g h = h
  | 0, x, h, hl => by rw [hl.2]; exact hl.1
  | n + 1, x, h, hl => Leads.root hl.2
theorem Leads.upd {g : Int → Int} {h0 h1 : Int} (r0 : g h0 = h0) (r1 : g h1 = h1) (hne : h0 ≠ h1) : ∀ {n : Nat} {x h : Int}, Leads g n x h → ∃ m, m ≤ n + 1 ∧ Leads (fun y => if y = h0 then h1 else g y) m x (if h = h0 then h1 else h)
  | 0, x, h, hl => by
    obtain ⟨hx, rfl⟩ := hl
    by_cases e : h = h0
    · subst e
      refine ⟨1, by omega, ?_⟩
      simp only [if_true]
      refine ⟨by simp only [if_true]; exact Ne.symm hne, ?_⟩
      simp only [if_true]
      exact ⟨by simp only [if_neg (Ne.symm hne)]; exact r1, rfl⟩
    · refine ⟨0, by omega, ?_⟩
      simp only [if_neg e]
      exact ⟨by simp only [if_neg e]; exact hx, rfl⟩
  | n + 1, x, h, hl => by
    obtain ⟨hx, hl⟩ := hl
    have e : x ≠ h0 := fun e => hx (by rw [e, r0])
    obtain ⟨m, hm, h2⟩ := Leads.upd r0 r1 hne hl
    refine ⟨m + 1, by omega, ?_, ?_⟩
    · simp only [if_neg e]; exact hx
    · simp only [if_neg e]; exact h2

/-- The head of each one's group, by these links. -/
def hdOf (ls : List (Int × Int)) : Int → Int := ls.foldl (fun hd l x => if hd x = hd l.1 then hd l.2 else hd x) id
theorem hdOf_snoc (ls : List (Int × Int)) (l : Int × Int) (x : Int) : hdOf (ls ++ [l]) x = if hdOf ls x = hdOf ls l.1 then hdOf ls l.2 else hdOf ls x := by
  unfold hdOf
  rw [List.foldl_append]
  rfl
theorem at_get {ls : List (Int × Int)} {k : Nat} (h : k < ls.length) : (at0 ls k, at1 ls k) = ls[k] := by simp [at0, at1, List.getD_eq_getElem?_getD, h]
theorem hdOf_take {ls : List (Int × Int)} {k : Nat} (h : k < ls.length) (x : Int) : hdOf (ls.take (k + 1)) x = if hdOf (ls.take k) x = hdOf (ls.take k) (at0 ls k) then hdOf (ls.take k) (at1 ls k) else hdOf (ls.take k) x := by
  rw [List.take_add_one, List.getElem?_eq_getElem h, ← at_get h, Option.toList_some, hdOf_snoc]
/-- The map of groups: each of these Ids leads to its head. -/
structure Grp (ids : List Int) (hd : Int → Int) (g : Int → Int) : Prop where
  lead : ∀ i ∈ ids, ∃ n, Leads g n i (hd i)
  mem : ∀ i ∈ ids, hd i ∈ ids
theorem Grp.link {ids : List Int} {hd g : Int → Int} (h : Grp ids hd g) {a b : Int} (ha : a ∈ ids) (hb : b ∈ ids) : Grp ids (fun x => if hd x = hd a then hd b else hd x) (fun y => if y = hd a then hd b else g y) where
  lead := fun i hi => by
    obtain ⟨n, hn⟩ := h.lead i hi
    obtain ⟨na, hna⟩ := h.lead a ha
    obtain ⟨nb, hnb⟩ := h.lead b hb
    by_cases e : hd a = hd b
    · have e1 : (fun y => if y = hd a then hd b else g y) = g := by
        funext y
        by_cases e2 : y = hd a
        · rw [if_pos e2, e2, ← e, hna.root]
        · rw [if_neg e2]
      refine ⟨n, ?_⟩
      rw [e1]
      by_cases e2 : hd i = hd a
      · rw [if_pos e2, ← e, ← e2]; exact hn
      · rw [if_neg e2]; exact hn
    · obtain ⟨m, -, h2⟩ := hn.upd hna.root hnb.root e
      exact ⟨m, h2⟩
  mem := fun i hi => by
    by_cases e : hd i = hd a
    · simp only [if_pos e]; exact h.mem b hb
    · simp only [if_neg e]; exact h.mem i hi
end Go.Proofs.Ytpdhipjeobchfaa
/- groupsOf of package net. -/
namespace Go.Proofs.Ytpdhipjeobchfaa
open Go.RowKit Go.Shelf Go.Maps

def idsOf (vs : List Vn) : List Int := vs.map (·.id)
theorem vnAt_get {vs : List Vn} {i : Nat} (h : i < vs.length) : vnAt vs i = vs[i] := by simp [vnAt, List.getD_eq_getElem?_getD, h]
theorem ids_mem {vs : List Vn} {i : Nat} (h : i < vs.length) : (vnAt vs i).id ∈ idsOf vs := by
  rw [vnAt_get h]
  exact List.mem_map_of_mem (List.getElem_mem h)
theorem mem_ids {vs : List Vn} {x : Int} (h : x ∈ idsOf vs) : ∃ i, i < vs.length ∧ (vnAt vs i).id = x := by
  obtain ⟨v, hv, rfl⟩ := List.mem_map.1 h
  obtain ⟨i, hi, rfl⟩ := List.getElem_of_mem hv
  exact ⟨i, hi, by rw [vnAt_get hi]⟩
theorem owns_later {w w' : World} {P : Program} {k : TypeId} {R : Value → Option (DataW Unit × List MemPlace)} {b n : Nat} {D : DataW Unit} (h : w.ownsMap P k R b n D) (hb : Below w.heap.size w w') : w'.ownsMap P k R b n D := by
  obtain ⟨es, clock, h0, h1⟩ := h
  exact ⟨es, clock, heap_later hb h0, h1⟩
end Go.Proofs.Ytpdhipjeobchfaa
/- apart of package net. -/
namespace Go.Proofs.Ytpdhipjeobchfaa
open Go.RowKit Go.Shelf Go.Maps

/-- Are the i-th and the j-th of one group, and have an address in common? -/
def clsh (hd : Int → Int) (vs : List Vn) (i j : Nat) : Bool := (hd (vnAt vs i).id == hd (vnAt vs j).id) && meetB (vnAt vs i).rn (vnAt vs i).rs (vnAt vs j).rn (vnAt vs j).rs
def apAt (hd : Int → Int) (vs : List Vn) (i : Nat) : Bool := (List.range i).all fun j => !clsh hd vs i j
def apB (ls : List (Int × Int)) (n : Nat) (vs : List Vn) : Bool := (List.range n).all (apAt (hdOf ls) vs)
abbrev vnO (p : Vn) : Obj := .cells #[.int .i64 p.id, .slice p.rx p.rn p.rc, .slice p.sx p.sn p.sc] 25

end Go.Proofs.Ytpdhipjeobchfaa
/- Numbers and routes in memory of the call's own; Check of package net. -/
namespace Go.Proofs.Ytpdhipjeobchfaa
open Go.RowKit Go.Shelf

/-- The cells of numbers. -/
def flatI (es : List Int) : List Value := es.map (Value.int .i64)
theorem flatI_len (es : List Int) : (flatI es).length = es.length := by simp [flatI]
theorem flatI_app (es fs : List Int) : flatI (es ++ fs) = flatI es ++ flatI fs := by simp [flatI]
theorem flatI_one (es : List Int) : ∀ u ∈ flatI es, u.oneCell' = true := fun u hu => by
  obtain ⟨e, -, rfl⟩ := List.mem_map.1 hu
  rfl
theorem flatI_at {es : List Int} {i : Nat} (h : i < es.length) : (flatI es)[i]? = some (.int .i64 (inAt es i)) := by
  unfold flatI
  rw [List.getElem?_map, List.getElem?_eq_getElem h, inAt_get h]
  rfl
/-- numbers that lie in memory of the call's own. -/
def OwnI (w : World) (base : Nat) (v : Value) (es : List Int) : Prop := w.ownsRow base 3 1 v es.length (flatI es)
theorem OwnI.later {w w' : World} {base : Nat} {v : Value} {es : List Int} (h : OwnI w base v es) (hb : Below w.heap.size w w') : OwnI w' base v es := by
  refine World.ownsRow.kept h (grown_of_below hb) ?_
  cases hv : v.ownBlock
  · exact .inl rfl
  · exact .inr (by simp)
theorem OwnI.kept {w w' : World} {base g : Nat} {v : Value} {es : List Int} (h : OwnI w base v es) (hg : w.grownBy w' (some g)) (hne : ∀ k, v.ownBlock = some k → k ≠ g) : OwnI w' base v es := by
  refine World.ownsRow.kept h hg ?_
  cases hv : v.ownBlock
  · exact .inl rfl
  · rename_i k
    exact .inr fun e => hne k hv (Option.some.inj e)
theorem OwnI.low {w : World} {base base' : Nat} {v : Value} {es : List Int} (h : OwnI w base v es) (hb : base' ≤ base) : OwnI w base' v es := by
  refine ⟨h.1, ?_⟩
  rcases h.2 with h | ⟨g, cap, cur, h1, h2, h3⟩
  · exact .inl h
  · exact .inr ⟨g, cap, cur, h1, Nat.le_trans hb h2, h3⟩
theorem OwnI.lt {w : World} {base : Nat} {v : Value} {es : List Int} (h : OwnI w base v es) : ∀ k, v.ownBlock = some k → base ≤ k ∧ k < w.heap.size := World.ownsRow.lt h
theorem OwnI.ne {w : World} {base b : Nat} {v : Value} {es : List Int} {cs : Array Value} {t : TypeId} {fr : Nat × Nat} (h : OwnI w base v es) (hb : w.heap[b]? = some (.cells cs t fr)) (ht : t ≠ 3) : v.ownBlock ≠ some b := by
  rcases h.2 with ⟨rfl, -⟩ | ⟨g, cap, cur, rfl, -, h2, -⟩
  · simp [Value.ownBlock]
  · intro e
    simp only [Value.ownBlock, Option.some.injEq] at e
    rw [e, hb] at h2
    simp only [Option.some.injEq, Obj.cells.injEq] at h2
    exact ht h2.2.1
theorem info_I : (Try.prog.info? 3).map (fun i => (i.zero, i.size, i.bytes)) = some (some (.int .i64 0), 1, 8) := by kernel_rfl
theorem info_I' : ∃ i, Try.prog.info? 3 = some i ∧ i.zero = some (.int .i64 0) ∧ i.size = 1 ∧ i.bytes = 8 := by
  obtain ⟨i, hi, h⟩ := Option.map_eq_some_iff.1 info_I
  simp only [Prod.mk.injEq] at h
  exact ⟨i, hi, h.1, h.2.1, h.2.2⟩
theorem under_I : Try.prog.underlying 45 = some (.slice 3) := by kernel_rfl
/-- append of a whole slice to a row of the call's own. -/
theorem wpList_append_I {w : World} {ops : Array Oper} {rest : List Oper} {o : Oper} {a : Act} {Q : Exit → Act → World → Prop} (hgd : o.guard = none) (s x : Operand)
    (ho : o.op = .call { callee := .builtin .append, args := #[s, x], argTypes := #[45, 45] }) (base : Nat) (v : Value) (es : List Int) (hs : a.eval s = v) (hO : OwnI w base v es)
    (ad : Addr) (m c : Nat) (fs : List Int) (hx : a.eval x = .slice (some ad) m c) (hm : fs.length = m) (hy : ∀ j u, (flatI fs)[j]? = some u → w.cell? (ad.add j) = some u)
    (hlen : es.length + m ≤ 1000000000) (hbase : base ≤ w.heap.size)
    (h : ∀ v' w', OwnI w' base v' (es ++ fs) → w.grownBy w' v.ownBlock → wpList Try.prog ops Q rest (a.put o.dst v') w') : wpList Try.prog ops Q (o :: rest) a w := by
  obtain ⟨i0, hi, hz0, hz1, hz2⟩ := info_I'
  subst hm
  refine wpList_append_own w hgd s x 45 ho base 3 i0 _ 1 8 under_I hi hz0 hz1 hz2 rfl (by decide) v es.length (flatI es) hs hO ad fs.length c (flatI fs) hx (by rw [flatI_len]; omega) hy (flatI_one fs) (by unfold maxLen; omega) (by omega) hbase ?_
  intro v' w' h1 h2 _
  refine h v' w' ?_ h2
  unfold OwnI
  rw [flatI_app, List.length_append]
  exact h1
theorem OwnI.mem {w : World} {base : Nat} {v : Value} {es : List Int} (h : OwnI w base v es) : ∃ x c, v = .slice x es.length c ∧ es.length ≤ c ∧ c ≤ 9223372036854775807 ∧ (x = none → es.length = 0 ∧ c = 0) ∧ IS w x es.length es := by
  rcases h.2 with ⟨rfl, h0⟩ | ⟨g, cap, cur, rfl, -, -, h4, h5, -⟩
  · exact ⟨none, 0, by rw [h0], by omega, by omega, fun _ => ⟨h0, rfl⟩, ⟨rfl, fun i hi => by omega⟩⟩
  · refine ⟨some ⟨g, 0, none⟩, cap, rfl, h4, by unfold maxLen at h5; omega, fun e => by simp at e, ⟨rfl, fun i hi => ⟨g, 0, rfl, ?_⟩⟩⟩
    have := World.ownsRow.cells h (g := g) rfl i _ (flatI_at hi)
    rw [Addr.add_lit] at this
    exact this

/-- What Check tells of a net. -/
def chkN (n : Nat) (vs : List Vn) (ln : Nat) (ls : List (Int × Int)) : Int := if decide (6 < n) || decide (12 < ln) then 2 else if vpcsB n vs && linksB n vs ln ls && apB ls n vs then 0 else 1
theorem vplace_mem {n : Nat} {vs : List Vn} {id : Int} (hl : vs.length = n) (h : ¬ vplace n vs id < 0) : id ∈ idsOf vs := by
  unfold vplace at h
  split at h
  · rename_i i he
    have h1 := List.find?_some he
    have h2 := List.mem_of_find?_eq_some he
    simp only [List.mem_range, beq_iff_eq] at h1 h2
    rw [← h1]
    exact ids_mem (by rw [hl]; exact h2)
  · omega
theorem chkV_zero {id : Int} {rn : Nat} {rs : List Rg} {sn : Nat} {ss : List Sb} (h : chkV id rn rs sn ss = 0) : (1 ≤ id ∧ id ≤ 65536) ∧ rn ≤ 4 := by
  unfold chkV at h
  split at h
  · omega
  · rename_i hm
    split at h
    · rename_i hw
      simp only [Bool.and_eq_true, wth, decide_eq_true_eq] at hw
      exact ⟨⟨hw.1.1.1, hw.1.1.2⟩, (few (by simpa using hm)).1⟩
    · omega
theorem vpcs_few {n : Nat} {vs : List Vn} (h : vpcsB n vs = true) : ∀ i, i < n → (0 ≤ (vnAt vs i).id ∧ (vnAt vs i).id ≤ 1000000) ∧ (vnAt vs i).rn ≤ 64 := fun i hi => by
  unfold vpcsB at h
  rw [Bool.and_eq_true] at h
  have hb : vbad (vnAt vs i) = false := by
    cases e : vbad (vnAt vs i)
    · rfl
    · rw [any_yes (f := fun i => vbad (vnAt vs i)) hi e] at h
      exact absurd h.2 (by simp)
  unfold vbad at hb
  simp only [Bool.not_eq_false', beq_iff_eq] at hb
  have := chkV_zero hb
  omega
theorem links_mem {n : Nat} {vs : List Vn} {ln : Nat} {ls : List (Int × Int)} (hl : vs.length = n) (h : linksB n vs ln ls = true) : ∀ j, j < ln → at0 ls j ∈ idsOf vs ∧ at1 ls j ∈ idsOf vs := fun j hj => by
  unfold linksB at h
  rw [Bool.and_eq_true] at h
  have hb : lbad n vs ls j = false := by
    cases e : lbad n vs ls j
    · rfl
    · rw [any_yes hj e] at h
      exact absurd h.2 (by simp)
  unfold lbad at hb
  simp only [Bool.or_eq_false_iff, decide_eq_false_iff_not] at hb
  exact ⟨vplace_mem hl hb.1.2, vplace_mem hl hb.2⟩

end Go.Proofs.Ytpdhipjeobchfaa
/- Faces in memory of the call's own; Clone at numbers; faces of package fresh. -/
namespace Go.Proofs.Ytpdhipjeobchfaa
open Go.RowKit Go.Shelf

theorem IS.flat_cells {w : World} {ad : Addr} {n : Nat} {es : List Int} (h : IS w (some ad) n es) : ∀ j u, (flatI es)[j]? = some u → w.cell? (ad.add j) = some u := by
  intro j u hj
  have hj2 : j < es.length := by
    by_cases e : j < es.length
    · exact e
    · rw [List.getElem?_eq_none (by rw [flatI_len]; omega)] at hj; cases hj
  rw [flatI_at hj2] at hj
  obtain ⟨b, o, hx, d⟩ := h.cells j (by rw [← h.len]; exact hj2)
  simp only [Option.some.injEq] at hx
  subst hx
  rw [addr_add, d]
  exact hj
set_option maxRecDepth 20000 in
set_option maxHeartbeats 800000 in
theorem cloneI_any (x : Option Addr) (n c : Nat) (es : List Int) (w : World) (hl : IS w x n es) (hn : n ≤ 1048576) :
    Calls Try.prog 67 #[.slice x n c] w fun e w' => ∃ v, e = .returned v ∧ OwnI w' w.heap.size v es ∧ Below w.heap.size w w' := by
  have hq := fun W => Lib.run_eql_slice_nil (P := Try.prog) W 45 3 x n c 0 0 under_I
  cases x with
  | none =>
    have h0 : n = 0 := by
      rcases Nat.eq_zero_or_pos n with h | h
      · exact h
      · obtain ⟨b, o, h, -⟩ := hl.cells 0 h
        cases h
    obtain rfl : es = [] := List.eq_nil_of_length_eq_zero (by rw [hl.len, h0])
    subst h0
    simp only [Option.isNone_none] at hq
    go_enter Try.func67, Try.ntmps67
    go_wp2
    go_ret
    exact ⟨_, rfl, World.ownsRow_nil _ _ _ _, Below.refl _ _⟩
  | some ad =>
    simp only [Option.isNone_some] at hq
    have hlen := hl.len
    go_enter Try.func67, Try.ntmps67
    go_wp2_with (at_builtin; refine Hid.out ?_)
    unfold Hid
    have hO : OwnI (w.alloc (.cells #[] 3)) w.heap.size (.slice (some ⟨w.heap.size, 0, none⟩) 0 0) [] := ⟨rfl, .inr ⟨w.heap.size, 0, #[], rfl, Nat.le_refl _, heap_new _ rfl, by simp, by unfold maxLen; omega, by simp, rfl⟩⟩
    refine wpList_append_I rfl _ _ rfl w.heap.size _ [] rfl hO ad n c es rfl hlen (fun j u hj => cell_later_add (bl1 w _) (hl.flat_cells j u hj)) (by simp; omega) (by simp) ?_
    intro v' w' hO' hg
    have hB := below_grownr (bl1 w _) hg (fun k e => (hO.lt k e).1)
    go_wp2
    go_ret
    exact ⟨_, rfl, hO', hB⟩

/-- The face with another slice of addresses. -/
def withA (f : Fc) (x : Option Addr) (n c : Nat) (ns : List Int) : Fc := ⟨f.id, x, n, c, ns⟩
theorem fcAt_set {fs : List Fc} {i j : Nat} {f : Fc} (hi : i < fs.length) : fcAt (fs.set i f) j = if i = j then f else fcAt fs j := by
  unfold fcAt
  rw [List.getD_eq_getElem?_getD, List.getD_eq_getElem?_getD, List.getElem?_set]
  by_cases h : i = j
  · subst h; rw [if_pos rfl, if_pos rfl, if_pos hi]; rfl
  · rw [if_neg h, if_neg h]
theorem flatF_set (fs : List Fc) (i : Nat) (x : Option Addr) (n c : Nat) (ns : List Int) (hi : i < fs.length) : (flatF fs).set (i * 2 + 1) (.slice x n c) = flatF (fs.set i (withA (fcAt fs i) x n c ns)) := by
  refine List.ext_getElem? fun j => ?_
  by_cases hj : j < fs.length * 2
  · have e : j = (j / 2) * 2 + j % 2 := by omega
    have hq : j / 2 < fs.length := by omega
    rw [e, flatF_at _ _ _ (by rw [List.length_set]; exact hq) (by omega), fcAt_set hi, List.getElem?_set]
    by_cases h1 : i = j / 2
    · rw [if_pos h1]
      by_cases h2 : j % 2 = 1
      · rw [if_pos (by omega), if_pos (by rw [flatF_len]; omega), h2]
        rfl
      · rw [if_neg (by omega), flatF_at _ _ _ hq (by omega), h1]
        have h3 : j % 2 < 1 := by omega
        generalize j % 2 = r at h3
        rcases r with _ | r
        all_goals first | rfl | omega
    · rw [if_neg h1, if_neg (by omega), flatF_at _ _ _ hq (by omega)]
  · rw [List.getElem?_eq_none (by rw [List.length_set, flatF_len]; omega), List.getElem?_eq_none (by rw [flatF_len, List.length_set]; omega)]
theorem OwnF.set {w : World} {base g n cap : Nat} {fs : List Fc} (h : OwnF w base (.slice (some ⟨g, 0, none⟩) n cap) fs) (i : Nat) (hi : i < fs.length) (x : Option Addr) (m c : Nat) (ns : List Int) :
    OwnF (w.setCell ⟨g, i * 2 + 1, none⟩ (.slice x m c)) base (.slice (some ⟨g, 0, none⟩) n cap) (fs.set i (withA (fcAt fs i) x m c ns)) := by
  rcases h.2 with ⟨hv, -⟩ | ⟨g', cap', cur, hv, h1, h2, h3, h4, h5, h6⟩
  · simp at hv
  · simp only [Value.slice.injEq, Option.some.injEq, Addr.mk.injEq] at hv
    obtain ⟨⟨rfl, -⟩, rfl, rfl⟩ := hv
    refine ⟨flatF_len _, .inr ⟨g, cap, cur.setIfInBounds (i * 2 + 1) (.slice x m c), by rw [List.length_set], h1, heap_setCell_same w g _ _ _ _ h2, by rw [List.length_set]; exact h3, h4, by simpa using h5, ?_⟩⟩
    rw [List.length_set, Array.toList_setIfInBounds, List.take_set, h6, flatF_set fs i x m c ns hi]
theorem set_grown (w : World) (g o : Nat) (v : Value) : w.grownBy (w.setCell ⟨g, o, none⟩ v) (some g) := by
  refine ⟨rfl, rfl, rfl, by simp, fun k _ hne => heap_setCell_other _ _ _ _ (fun e => hne (by rw [e]))⟩
theorem OwnF.frozen {w : World} {base g n cap : Nat} {fs : List Fc} (h : OwnF w base (.slice (some ⟨g, 0, none⟩) n cap) fs) (i : Nat) : w.frozen? ⟨g, i, none⟩ = false := by
  rcases h.2 with ⟨hv, -⟩ | ⟨g', cap', cur, hv, h1, h2, -⟩
  · simp at hv
  · simp only [Value.slice.injEq, Option.some.injEq, Addr.mk.injEq] at hv
    obtain ⟨⟨rfl, -⟩, -, rfl⟩ := hv
    simp [World.frozen?, h2]
theorem OwnF.block {w : World} {base g n cap : Nat} {fs : List Fc} (h : OwnF w base (.slice (some ⟨g, 0, none⟩) n cap) fs) : base ≤ g ∧ ∃ cur, w.heap[g]? = some (.cells cur 47) := by
  rcases h.2 with ⟨hv, -⟩ | ⟨g', cap', cur, hv, h1, h2, -⟩
  · simp at hv
  · simp only [Value.slice.injEq, Option.some.injEq, Addr.mk.injEq] at hv
    obtain ⟨⟨rfl, -⟩, -, rfl⟩ := hv
    exact ⟨h1, cur, h2⟩
theorem OwnI.is {w : World} {base n c : Nat} {x : Option Addr} {es : List Int} (h : OwnI w base (.slice x n c) es) : IS w x n es ∧ es.length = n ∧ n ≤ c ∧ c ≤ 9223372036854775807 := by
  obtain ⟨x', c', hv, h1, h2, -, h4⟩ := h.mem
  simp only [Value.slice.injEq] at hv
  obtain ⟨rfl, rfl, rfl⟩ := hv
  exact ⟨h4, rfl, h1, h2⟩
theorem IS.set {w : World} {x : Option Addr} {n g o : Nat} {v : Value} {ns : List Int} (h : IS w x n ns) (hx : ∀ q, x = some q → 0 < n → q.block ≠ g) : IS (w.setCell ⟨g, o, none⟩ v) x n ns where
  len := h.len
  cells := fun i hi => by
    obtain ⟨b, of, he, c0⟩ := h.cells i hi
    exact ⟨b, of, he, (cell_set_ne (hx _ he (by omega))).trans c0⟩
/-- The first k faces have addresses in memory of the call's own; the others have them somewhere. -/
structure OFs (w : World) (base : Nat) (v : Value) (fs : List Fc) (k : Nat) : Prop where
  row : OwnF w base v fs
  own : ∀ i, i < k → OwnI w base (.slice (fcAt fs i).x (fcAt fs i).n (fcAt fs i).c) (fcAt fs i).ns
  rest : ∀ i, k ≤ i → i < fs.length → IS w (fcAt fs i).x (fcAt fs i).n (fcAt fs i).ns ∧ (fcAt fs i).n ≤ (fcAt fs i).c ∧ (fcAt fs i).n ≤ 64 ∧ (∀ q, (fcAt fs i).x = some q → 0 < (fcAt fs i).n → q.block < base)
/-- The same but for where it lies. -/
def sameF (f g : Fc) : Prop := f.id = g.id ∧ f.n = g.n ∧ f.ns = g.ns
def sameFs (fs gs : List Fc) : Prop := fs.length = gs.length ∧ ∀ i, i < fs.length → sameF (fcAt fs i) (fcAt gs i)
theorem sameF.refl (f : Fc) : sameF f f := ⟨rfl, rfl, rfl⟩
theorem sameFs.refl (fs : List Fc) : sameFs fs fs := ⟨rfl, fun _ _ => sameF.refl _⟩
theorem OFs.later {w w' : World} {base : Nat} {v : Value} {fs : List Fc} {k : Nat} (h : OFs w base v fs k) (hb : Below w.heap.size w w') : OFs w' base v fs k :=
  ⟨h.row.later hb, fun i hi => (h.own i hi).later hb, fun i hi hi2 => by
    obtain ⟨g1, g2⟩ := h.rest i hi hi2
    exact ⟨g1.later hb, g2⟩⟩
theorem OFs.low {w : World} {base base' : Nat} {v : Value} {fs : List Fc} (h : OFs w base v fs fs.length) (hb : base' ≤ base) : OFs w base' v fs fs.length :=
  ⟨h.row.low hb, fun i hi => (h.own i hi).low hb, fun i hi hi2 => by omega⟩
/-- A change elsewhere. -/
theorem OFs.kept {w w' : World} {base g : Nat} {v : Value} {fs : List Fc} (h : OFs w base v fs fs.length) (hg : w.grownBy w' (some g)) (hr : ∀ k, v.ownBlock = some k → k ≠ g) (ho : ∀ i, i < fs.length → ∀ k, (Value.slice (fcAt fs i).x (fcAt fs i).n (fcAt fs i).c).ownBlock = some k → k ≠ g) : OFs w' base v fs fs.length :=
  ⟨h.row.kept hg hr, fun i hi => (h.own i hi).kept hg (ho i hi), fun i hi hi2 => by omega⟩
theorem OFs.start {w w' : World} {base : Nat} {x : Option Addr} {n : Nat} {v : Value} {fs : List Fc} (hk : FcS w x n fs) (hm : ∀ i, i < n → (fcAt fs i).n ≤ 64) (hb : Below w.heap.size w w') (h : OwnF w' base v fs) (hw2 : w.heap.size ≤ base) : OFs w' base v fs 0 where
  row := h
  own := fun i hi => by omega
  rest := fun i _ hi => by
    have hin : i < n := by rw [← hk.len]; exact hi
    obtain ⟨g1, g2, g3⟩ := hk.addrs i hin
    refine ⟨g3.later hb, g1, hm i hin, fun q hq h0 => ?_⟩
    obtain ⟨b, o, hx, c0⟩ := g3.cells 0 h0
    rw [hq] at hx
    cases hx
    exact Nat.lt_of_lt_of_le (block_lt_of_cell c0) hw2
theorem OFs.step {W W1 : World} {base g n cap : Nat} {fs : List Fc} {k : Nat} {x' : Option Addr} {c' : Nat} (h : OFs W base (.slice (some ⟨g, 0, none⟩) n cap) fs k) (hk : k < fs.length) (hb : Below W.heap.size W W1) (ho : OwnI W1 W.heap.size (.slice x' (fcAt fs k).ns.length c') (fcAt fs k).ns) (hwb : base ≤ W.heap.size) :
    OFs (W1.setCell ⟨g, k * 2 + 1, none⟩ (.slice x' (fcAt fs k).ns.length c')) base (.slice (some ⟨g, 0, none⟩) n cap) (fs.set k (withA (fcAt fs k) x' (fcAt fs k).ns.length c' (fcAt fs k).ns)) (k + 1) := by
  have hr := h.row.later hb
  obtain ⟨hbg, cur, hg⟩ := hr.block
  have hall : ∀ i, i < k + 1 → OwnI W1 base (.slice (fcAt (fs.set k (withA (fcAt fs k) x' (fcAt fs k).ns.length c' (fcAt fs k).ns)) i).x (fcAt (fs.set k (withA (fcAt fs k) x' (fcAt fs k).ns.length c' (fcAt fs k).ns)) i).n (fcAt (fs.set k (withA (fcAt fs k) x' (fcAt fs k).ns.length c' (fcAt fs k).ns)) i).c) (fcAt (fs.set k (withA (fcAt fs k) x' (fcAt fs k).ns.length c' (fcAt fs k).ns)) i).ns := fun i hi => by
    rw [fcAt_set hk]
    by_cases e : k = i
    · rw [if_pos e]; exact ho.low hwb
    · rw [if_neg e]; exact (h.own i (by omega)).later hb
  refine ⟨hr.set k hk x' _ c' _, fun i hi => (hall i hi).kept (set_grown _ _ _ _) (fun q hq e => by subst e; exact (hall i hi).ne hg (by decide) hq), fun i hi hi2 => ?_⟩
  rw [List.length_set] at hi2
  rw [fcAt_set hk, if_neg (by omega)]
  obtain ⟨g1, g2, g3, g4⟩ := h.rest i (by omega) hi2
  exact ⟨(g1.later hb).set (fun q hq h0 => by have := g4 q hq h0; omega), g2, g3, g4⟩
theorem sameFs.set {fs gs : List Fc} {k : Nat} {x : Option Addr} {c : Nat} (h : sameFs fs gs) (hk : k < gs.length) (hn : (fcAt gs k).ns.length = (fcAt gs k).n) : sameFs fs (gs.set k (withA (fcAt gs k) x (fcAt gs k).ns.length c (fcAt gs k).ns)) := by
  refine ⟨by rw [List.length_set]; exact h.1, fun i hi => ?_⟩
  have hs := h.2 i hi
  rw [fcAt_set hk]
  by_cases e : k = i
  · subst e
    rw [if_pos rfl]
    obtain ⟨a1, a2, a3⟩ := hs
    exact ⟨a1, a2.trans hn.symm, a3⟩
  · rw [if_neg e]; exact hs

set_option maxRecDepth 100000 in
set_option maxHeartbeats 3200000 in
theorem freshFaces_any (x : Option Addr) (n c : Nat) (fs : List Fc) (w : World) (hp : FcS w x n fs) (hn : n ≤ 64) (hm : ∀ i, i < n → (fcAt fs i).n ≤ 64) :
    Calls Try.prog 36 #[.slice x n c] w fun e w' => ∃ v gs, e = .returned v ∧ sameFs fs gs ∧ OFs w' w.heap.size v gs gs.length ∧ Below w.heap.size w w' := by
  have hfl : Hid (fs.length = n) := hp.len
  go_enter Try.func36, Try.ntmps36
  go_wp2_with fail
  refine (cloneF_any x n c fs w hp (by omega)).mono ?_
  rintro e w1 ⟨v, rfl, hO, hb1⟩
  have hk0 : OFs w1 w.heap.size v fs 0 := OFs.start hp hm hb1 hO (Nat.le_refl _)
  obtain ⟨xv, cv, rfl, hv1, hv2, hv3, hv4⟩ := hO.mem
  go_wp2
  go_loopw [9] (fun i wr => ∃ (q : Nat) (gs : List Fc), q ≤ fs.length ∧ i = .int .i64 q ∧ sameFs fs gs ∧ OFs wr w.heap.size (.slice xv fs.length cv) gs q ∧ Below w.heap.size w wr) (fun i _ => fs.length - (intOf i).toNat)
  case atStart => exact ⟨0, fs, by omega, rfl, sameFs.refl _, hk0, hb1⟩
  case round =>
    obtain ⟨q, gs, hq, rfl, hs, hQ, hBr⟩ := hrel
    by_cases hlt : q < fs.length
    · have hlq : q < gs.length := by rw [← hs.1]; exact hlt
      have hlt' : Hid (q < fs.length) := hlt
      obtain ⟨x2, c2, he2, -, -, -, hm2⟩ := hQ.row.mem
      simp only [Value.slice.injEq] at he2
      obtain ⟨rfl, -, rfl⟩ := he2
      obtain ⟨b2, o2, he3, -, c1⟩ := hm2 q hlq
      rcases hQ.row.2 with ⟨hv, -⟩ | ⟨g, cap, cur, hv, hg1, hg2, -⟩
      · rw [he3] at hv; simp at hv
      simp only [Value.slice.injEq] at hv
      obtain ⟨hx3, -, rfl⟩ := hv
      rw [hx3] at he3
      simp only [Option.some.injEq, Addr.mk.injEq] at he3
      obtain ⟨rfl, rfl, -⟩ := he3
      subst hx3
      obtain ⟨hIS, hnc, hn64, -⟩ := hQ.rest q (Nat.le_refl _) hlq
      have hbs : Hid (w.heap.size ≤ wr.heap.size) := hBr.size
      have c1' : wr.cell? ⟨g, q * 2 + 1, none⟩ = some (.slice (fcAt gs q).x (fcAt gs q).n (fcAt gs q).c) := by simpa using c1
      clear c1
      go_wp2_with fail
      refine (cloneI_any (fcAt gs q).x (fcAt gs q).n (fcAt gs q).c (fcAt gs q).ns wr hIS (by omega)).mono ?_
      rintro e w2 ⟨v1, rfl, hO1, hb2⟩
      obtain ⟨x1, c1, rfl, -⟩ := hO1.mem
      have d1 := cell_later_add hb2 c1'
      have df : w2.frozen? ⟨g, q * 2 + 1, none⟩ = false := (hQ.row.later hb2).frozen _
      have hst := hQ.step (x' := x1) (c' := c1) hlq hb2 hO1 hbs.out
      have hB3 := (hBr.trans (hb2.mono hBr.size)).setCell (p := ⟨g, q * 2 + 1, none⟩) hg1 (.slice x1 (fcAt gs q).ns.length c1)
      have hs' := hs.set (x := x1) (c := c1) hlq hIS.len
      clear c1' hO1
      go_wp2
      go_roundw
      case rel => exact ⟨q + 1, _, hlt'.out, by go_num, hs', hst, hB3⟩
      case measure => simp [intOf]; have := hlt'.out; omega
    · obtain rfl : q = fs.length := by omega
      go_wp2
      go_ret
      exact ⟨_, gs, rfl, hs, by rw [← hs.1]; exact hQ, hBr⟩
end Go.Proofs.Ytpdhipjeobchfaa
/- Subnets in memory of the call's own. -/
namespace Go.Proofs.Ytpdhipjeobchfaa
open Go.RowKit Go.Shelf

/-- The subnet with another slice of faces. -/
def withF (s : Sb) (x : Option Addr) (n c : Nat) (fs : List Fc) : Sb := ⟨s.id, s.a, s.l, x, n, c, fs⟩
theorem sbAt_set {ss : List Sb} {i j : Nat} {f : Sb} (hi : i < ss.length) : sbAt (ss.set i f) j = if i = j then f else sbAt ss j := by
  unfold sbAt
  rw [List.getD_eq_getElem?_getD, List.getD_eq_getElem?_getD, List.getElem?_set]
  by_cases h : i = j
  · subst h; rw [if_pos rfl, if_pos rfl, if_pos hi]; rfl
  · rw [if_neg h, if_neg h]
theorem flatS_set (ss : List Sb) (i : Nat) (x : Option Addr) (n c : Nat) (fs : List Fc) (hi : i < ss.length) : (flatS ss).set (i * 4 + 3) (.slice x n c) = flatS (ss.set i (withF (sbAt ss i) x n c fs)) := by
  refine List.ext_getElem? fun j => ?_
  by_cases hj : j < ss.length * 4
  · have e : j = (j / 4) * 4 + j % 4 := by omega
    have hq : j / 4 < ss.length := by omega
    rw [e, flatS_at _ _ _ (by rw [List.length_set]; exact hq) (by omega), sbAt_set hi, List.getElem?_set]
    by_cases h1 : i = j / 4
    · rw [if_pos h1]
      by_cases h2 : j % 4 = 3
      · rw [if_pos (by omega), if_pos (by rw [flatS_len]; omega), h2]
        rfl
      · rw [if_neg (by omega), flatS_at _ _ _ hq (by omega), h1]
        have h3 : j % 4 < 3 := by omega
        generalize j % 4 = r at h3
        rcases r with _ | _ | _ | r
        all_goals first | rfl | omega
    · rw [if_neg h1, if_neg (by omega), flatS_at _ _ _ hq (by omega)]
  · rw [List.getElem?_eq_none (by rw [List.length_set, flatS_len]; omega), List.getElem?_eq_none (by rw [flatS_len, List.length_set]; omega)]
theorem OwnS.set {w : World} {base g n cap : Nat} {ss : List Sb} (h : OwnS w base (.slice (some ⟨g, 0, none⟩) n cap) ss) (i : Nat) (hi : i < ss.length) (x : Option Addr) (m c : Nat) (fs : List Fc) :
    OwnS (w.setCell ⟨g, i * 4 + 3, none⟩ (.slice x m c)) base (.slice (some ⟨g, 0, none⟩) n cap) (ss.set i (withF (sbAt ss i) x m c fs)) := by
  rcases h.2 with ⟨hv, -⟩ | ⟨g', cap', cur, hv, h1, h2, h3, h4, h5, h6⟩
  · simp at hv
  · simp only [Value.slice.injEq, Option.some.injEq, Addr.mk.injEq] at hv
    obtain ⟨⟨rfl, -⟩, rfl, rfl⟩ := hv
    refine ⟨flatS_len _, .inr ⟨g, cap, cur.setIfInBounds (i * 4 + 3) (.slice x m c), by rw [List.length_set], h1, heap_setCell_same w g _ _ _ _ h2, by rw [List.length_set]; exact h3, h4, by simpa using h5, ?_⟩⟩
    rw [List.length_set, Array.toList_setIfInBounds, List.take_set, h6, flatS_set ss i x m c fs hi]
theorem OwnS.frozen {w : World} {base g n cap : Nat} {ss : List Sb} (h : OwnS w base (.slice (some ⟨g, 0, none⟩) n cap) ss) (i : Nat) : w.frozen? ⟨g, i, none⟩ = false := by
  rcases h.2 with ⟨hv, -⟩ | ⟨g', cap', cur, hv, h1, h2, -⟩
  · simp at hv
  · simp only [Value.slice.injEq, Option.some.injEq, Addr.mk.injEq] at hv
    obtain ⟨⟨rfl, -⟩, -, rfl⟩ := hv
    simp [World.frozen?, h2]
theorem OwnS.block {w : World} {base g n cap : Nat} {ss : List Sb} (h : OwnS w base (.slice (some ⟨g, 0, none⟩) n cap) ss) : base ≤ g ∧ ∃ cur, w.heap[g]? = some (.cells cur 42) := by
  rcases h.2 with ⟨hv, -⟩ | ⟨g', cap', cur, hv, h1, h2, -⟩
  · simp at hv
  · simp only [Value.slice.injEq, Option.some.injEq, Addr.mk.injEq] at hv
    obtain ⟨⟨rfl, -⟩, -, rfl⟩ := hv
    exact ⟨h1, cur, h2⟩
/-- The first k subnets have faces in memory of the call's own, each its own. -/
structure OSs (w : World) (base : Nat) (v : Value) (ss : List Sb) (k : Nat) : Prop where
  row : OwnS w base v ss
  own : ∀ i, i < k → OFs w base (.slice (sbAt ss i).x (sbAt ss i).n (sbAt ss i).c) (sbAt ss i).fs (sbAt ss i).fs.length
  apart : ∀ i j, i < k → j < k → i ≠ j → ∀ b, (Value.slice (sbAt ss i).x (sbAt ss i).n (sbAt ss i).c).ownBlock = some b → (Value.slice (sbAt ss j).x (sbAt ss j).n (sbAt ss j).c).ownBlock ≠ some b
/-- The same but for where it lies. -/
def sameS (s t : Sb) : Prop := s.id = t.id ∧ s.a = t.a ∧ s.l = t.l ∧ s.n = t.n ∧ sameFs s.fs t.fs
def sameSs (ss ts : List Sb) : Prop := ss.length = ts.length ∧ ∀ i, i < ss.length → sameS (sbAt ss i) (sbAt ts i)
theorem sameS.refl (s : Sb) : sameS s s := ⟨rfl, rfl, rfl, rfl, sameFs.refl _⟩
theorem sameSs.refl (ss : List Sb) : sameSs ss ss := ⟨rfl, fun _ _ => sameS.refl _⟩
theorem OSs.later {w w' : World} {base : Nat} {v : Value} {ss : List Sb} {k : Nat} (h : OSs w base v ss k) (hb : Below w.heap.size w w') : OSs w' base v ss k :=
  ⟨h.row.later hb, fun i hi => (h.own i hi).later hb, h.apart⟩
theorem OSs.low {w : World} {base base' : Nat} {v : Value} {ss : List Sb} {k : Nat} (h : OSs w base v ss k) (hb : base' ≤ base) : OSs w base' v ss k :=
  ⟨h.row.low hb, fun i hi => (h.own i hi).low hb, h.apart⟩
/-- A row of faces and its addresses stay when a block of another kind changes. -/
theorem OFs.kept_of {w w' : World} {base g : Nat} {v : Value} {fs : List Fc} {cur : Array Value} {t : TypeId} (h : OFs w base v fs fs.length) (hg : w.grownBy w' (some g)) (hb : w.heap[g]? = some (.cells cur t)) (h1 : t ≠ 47) (h2 : t ≠ 3) : OFs w' base v fs fs.length :=
  h.kept hg (fun _ hk e => by subst e; exact h.row.ne hb h1 hk) (fun i hi _ hk e => by subst e; exact (h.own i hi).ne hb h2 hk)
theorem OSs.step {W W1 : World} {base g n cap : Nat} {ss : List Sb} {k : Nat} {x' : Option Addr} {c' : Nat} {gs : List Fc} (h : OSs W base (.slice (some ⟨g, 0, none⟩) n cap) ss k) (hk : k < ss.length) (hb : Below W.heap.size W W1) (ho : OFs W1 W.heap.size (.slice x' gs.length c') gs gs.length) (hwb : base ≤ W.heap.size) :
    OSs (W1.setCell ⟨g, k * 4 + 3, none⟩ (.slice x' gs.length c')) base (.slice (some ⟨g, 0, none⟩) n cap) (ss.set k (withF (sbAt ss k) x' gs.length c' gs)) (k + 1) := by
  have hr := h.row.later hb
  obtain ⟨hbg, cur, hg⟩ := hr.block
  refine ⟨hr.set k hk x' _ c' _, fun i hi => ?_, fun i j hi hj hij b hbi hbj => ?_⟩
  · rw [sbAt_set hk]
    by_cases e : k = i
    · rw [if_pos e]
      exact (ho.low hwb).kept_of (set_grown _ _ _ _) hg (by decide) (by decide)
    · rw [if_neg e]
      exact ((h.own i (by omega)).later hb).kept_of (set_grown _ _ _ _) hg (by decide) (by decide)
  · rw [sbAt_set hk] at hbi hbj
    by_cases e : k = i
    · rw [if_pos e] at hbi
      rw [if_neg (by omega)] at hbj
      have h1 := ho.row.lt b hbi
      have h2 := (h.own j (by omega)).row.lt b hbj
      omega
    · rw [if_neg e] at hbi
      by_cases e2 : k = j
      · rw [if_pos e2] at hbj
        have h1 := ho.row.lt b hbj
        have h2 := (h.own i (by omega)).row.lt b hbi
        omega
      · rw [if_neg e2] at hbj
        exact h.apart i j (by omega) (by omega) hij b hbi hbj
theorem OFs.fcs {w : World} {base : Nat} {x : Option Addr} {n c : Nat} {fs : List Fc} (h : OFs w base (.slice x n c) fs fs.length) : FcS w x n fs ∧ fs.length = n ∧ n ≤ c ∧ c ≤ 9223372036854775807 := by
  obtain ⟨x', c', hv, h1, h2, -, h4⟩ := h.row.mem
  simp only [Value.slice.injEq] at hv
  obtain ⟨rfl, rfl, rfl⟩ := hv
  refine ⟨⟨rfl, h4, fun i hi => ?_⟩, rfl, h1, h2⟩
  obtain ⟨g1, g2, g3, g4⟩ := (h.own i hi).is
  exact ⟨g3, Nat.le_trans g3 g4, g1⟩
theorem OSs.subs {w : World} {base : Nat} {v : Value} {ss : List Sb} (h : OSs w base v ss ss.length) : ∃ x c, v = .slice x ss.length c ∧ SS w x ss.length ss ∧ ss.length ≤ c ∧ c ≤ 9223372036854775807 := by
  obtain ⟨x, c, hv, h1, h2, -, h4⟩ := h.row.mem
  refine ⟨x, c, hv, ⟨rfl, h4, fun i hi => ?_⟩, h1, h2⟩
  obtain ⟨g1, g2, g3, g4⟩ := (h.own i hi).fcs
  exact ⟨g3, Nat.le_trans g3 g4, g1⟩
theorem OwnR.rs {w : World} {base : Nat} {v : Value} {rs : List Rg} (h : OwnR w base v rs) : ∃ x c, v = .slice x rs.length c ∧ RS w x rs.length rs ∧ rs.length ≤ c ∧ c ≤ 9223372036854775807 := by
  obtain ⟨x, c, hv, h1, h2, -, h4⟩ := h.mem
  exact ⟨x, c, hv, ⟨rfl, h4⟩, h1, h2⟩
theorem sameFs.trans {a b c : List Fc} (h1 : sameFs a b) (h2 : sameFs b c) : sameFs a c :=
  ⟨h1.1.trans h2.1, fun i hi => by
    obtain ⟨p1, p2, p3⟩ := h1.2 i hi
    obtain ⟨q1, q2, q3⟩ := h2.2 i (by rw [← h1.1]; exact hi)
    exact ⟨p1.trans q1, p2.trans q2, p3.trans q3⟩⟩
theorem sameSs.set {ss ts : List Sb} {k : Nat} {x : Option Addr} {c : Nat} {gs : List Fc} (h : sameSs ss ts) (hk : k < ts.length) (hg : sameFs (sbAt ts k).fs gs) (hn : (sbAt ts k).fs.length = (sbAt ts k).n) : sameSs ss (ts.set k (withF (sbAt ts k) x gs.length c gs)) := by
  refine ⟨by rw [List.length_set]; exact h.1, fun i hi => ?_⟩
  have hs := h.2 i hi
  rw [sbAt_set hk]
  by_cases e : k = i
  · subst e
    rw [if_pos rfl]
    obtain ⟨a1, a2, a3, a4, a5⟩ := hs
    exact ⟨a1, a2, a3, by rw [a4, ← hn]; exact hg.1, a5.trans hg⟩
  · rw [if_neg e]; exact hs
end Go.Proofs.Ytpdhipjeobchfaa
/- Vpc of package fresh. -/
namespace Go.Proofs.Ytpdhipjeobchfaa
open Go.RowKit Go.Shelf

abbrev vpB (vid : Int) (vR vS : Value) : Obj := .cells #[.int .i64 vid, vR, vS] 25
theorem vpB_set {V : World} {b : Nat} {t t' : Int} {v v' u u' : Value} (h : V.heap[b]? = some (vpB t v u)) : (((V.setCell ⟨b, 0, none⟩ (.int .i64 t')).setCell ⟨b, 1, none⟩ v').setCell ⟨b, 2, none⟩ u').heap[b]? = some (vpB t' v' u') := by
  have h1 := heap_setCell_same V b 0 _ 25 (.int .i64 t') h
  have h2 := heap_setCell_same _ b 1 _ 25 v' h1
  have h3 := heap_setCell_same _ b 2 _ 25 u' h2
  simpa using h3
/-- What comes is the same, in memory of the call's own. -/
def FvPost (vid : Int) (rs : List Rg) (ss : List Sb) (w : World) (e : Ending) (w' : World) : Prop :=
  ∃ vR vS ts, e = .returned (.agg #[.int .i64 vid, vR, vS]) ∧ OwnR w' w.heap.size vR rs ∧ sameSs ss ts ∧ OSs w' w.heap.size vS ts ts.length ∧ Below w.heap.size w w'
theorem OwnR.put {w : World} {base b o : Nat} {u v : Value} {rs : List Rg} (h : OwnR w base v rs) (hb : b < base) : OwnR (w.setCell ⟨b, o, none⟩ u) base v rs :=
  h.kept (set_grown _ _ _ _) (fun k hk => by have := h.lt k hk; omega)
theorem OSs.put {w : World} {base b o : Nat} {u v : Value} {ss : List Sb} (h : OSs w base v ss ss.length) (hb : b < base) : OSs (w.setCell ⟨b, o, none⟩ u) base v ss ss.length :=
  ⟨h.row.kept (set_grown _ _ _ _) (fun k hk => by have := h.row.lt k hk; omega), fun i hi => (h.own i hi).kept (set_grown _ _ _ _) (fun k hk => by have := (h.own i hi).row.lt k hk; omega) (fun j hj k hk => by have := ((h.own i hi).own j hj).lt k hk; omega), h.apart⟩

theorem vp_after {w0 w1 : World} {v : Value} {rs : List Rg} (hb : Below (w0.alloc (vpB 0 (.slice none 0 0) (.slice none 0 0))).heap.size (w0.alloc (vpB 0 (.slice none 0 0) (.slice none 0 0))) w1) (hO : OwnR w1 (w0.alloc (vpB 0 (.slice none 0 0) (.slice none 0 0))).heap.size v rs) : Below w0.heap.size w0 w1 ∧ w1.heap[w0.heap.size]? = some (vpB 0 (.slice none 0 0) (.slice none 0 0)) ∧ OwnR w1 w0.heap.size v rs :=
  ⟨(bl1 w0 _).trans (hb.mono (by simp)), heap_later hb (heap_new _ rfl), hO.low (by simp)⟩
theorem vs_after {w0 w1 : World} {v : Value} {ss : List Sb} (hb : Below (w0.alloc (vpB 0 (.slice none 0 0) (.slice none 0 0))).heap.size (w0.alloc (vpB 0 (.slice none 0 0) (.slice none 0 0))) w1) (hO : OwnS w1 (w0.alloc (vpB 0 (.slice none 0 0) (.slice none 0 0))).heap.size v ss) : Below w0.heap.size w0 w1 ∧ w1.heap[w0.heap.size]? = some (vpB 0 (.slice none 0 0) (.slice none 0 0)) ∧ OwnS w1 w0.heap.size v ss :=
  ⟨(bl1 w0 _).trans (hb.mono (by simp)), heap_later hb (heap_new _ rfl), hO.low (by simp)⟩

theorem vp_put {w0 w2 : World} {b : Nat} {vid : Int} {vR vS : Value} {rs : List Rg} {ss : List Sb} (hy : w2.heap[b]? = some (vpB 0 (.slice none 0 0) (.slice none 0 0))) (hb : w0.heap.size ≤ b) (hO1 : OwnR w2 w0.heap.size vR rs) (hO2 : OwnS w2 w0.heap.size vS ss) (hB : Below w0.heap.size w0 w2) :
    OwnR (((w2.setCell ⟨b, 0, none⟩ (.int .i64 vid)).setCell ⟨b, 1, none⟩ vR).setCell ⟨b, 2, none⟩ vS) w0.heap.size vR rs ∧ OwnS (((w2.setCell ⟨b, 0, none⟩ (.int .i64 vid)).setCell ⟨b, 1, none⟩ vR).setCell ⟨b, 2, none⟩ vS) w0.heap.size vS ss ∧ (((w2.setCell ⟨b, 0, none⟩ (.int .i64 vid)).setCell ⟨b, 1, none⟩ vR).setCell ⟨b, 2, none⟩ vS).heap[b]? = some (vpB vid vR vS) ∧ Below w0.heap.size w0 (((w2.setCell ⟨b, 0, none⟩ (.int .i64 vid)).setCell ⟨b, 1, none⟩ vR).setCell ⟨b, 2, none⟩ vS) := by
  have n1 : ∀ k, vR.ownBlock = some k → k ≠ b := fun k hk e => by subst e; exact hO1.ne hy (by decide) hk
  have n2 : ∀ k, vS.ownBlock = some k → k ≠ b := fun k hk e => by subst e; exact hO2.ne hy (by decide) hk
  exact ⟨((hO1.kept (set_grown _ _ _ _) n1).kept (set_grown _ _ _ _) n1).kept (set_grown _ _ _ _) n1, ((hO2.kept (set_grown _ _ _ _) n2).kept (set_grown _ _ _ _) n2).kept (set_grown _ _ _ _) n2, vpB_set hy, ((hB.setCell hb _).setCell hb _).setCell hb _⟩

set_option maxRecDepth 100000 in
set_option maxHeartbeats 3200000 in
theorem freshVpc_any (vid : Int) (rx : Option Addr) (rn rc : Nat) (rs : List Rg) (sx : Option Addr) (sn sc : Nat) (ss : List Sb) (w : World) (hv : Vp w rx rn rc rs sx sn sc ss) (hrn : rn ≤ 64) (hsn : sn ≤ 64) (hm : ∀ i, i < sn → (sbAt ss i).n ≤ 64) (hm2 : ∀ i, i < sn → ∀ j, j < (sbAt ss i).n → (fcAt (sbAt ss i).fs j).n ≤ 64) :
    Calls Try.prog 13 #[.agg #[.int .i64 vid, .slice rx rn rc, .slice sx sn sc]] w (FvPost vid rs ss w) := by
  have hsl : Hid (ss.length = sn) := hv.subs.len
  go_enter Try.func13, Try.ntmps13
  go_upto_region 1 with fail
  obtain ⟨w0, hw0⟩ : ∃ w0, w0 = (w.alloc (vpB vid (.slice rx rn rc) (.slice sx sn sc))).alloc (vpB 0 (.slice none 0 0) (.slice none 0 0)) := ⟨_, rfl⟩
  rw [← hw0]
  have hB0 : Below w.heap.size w w0 := by rw [hw0]; exact bl2 w _ _
  have hb0 : w0.heap[w.heap.size]? = some (vpB vid (.slice rx rn rc) (.slice sx sn sc)) := by rw [hw0]; exact heap_old _ (heap_new _ rfl)
  have hr0 : w0.heap[w.heap.size + 1]? = some (vpB 0 (.slice none 0 0) (.slice none 0 0)) := by rw [hw0]; exact heap_new _ (by simp)
  clear hw0
  have hsz : w.heap.size + 1 < w0.heap.size := (Array.getElem?_eq_some_iff.1 hr0).1
  obtain ⟨kb, -⟩ := box_cells hb0
  have k0 : w0.cell? ⟨w.heap.size, 0, none⟩ = some (.int .i64 vid) := kb 0
  have k1 : w0.cell? ⟨w.heap.size, 1, none⟩ = some (.slice rx rn rc) := kb 1
  have k2 : w0.cell? ⟨w.heap.size, 2, none⟩ = some (.slice sx sn sc) := kb 2
  clear kb
  have hv0 := hv.later hB0
  have hclR := fun W h => cloneR_any rx rn rc rs W h (by omega)
  have hclS := fun W h => cloneS_any sx sn sc ss W h (by omega)
  go_cut [3] (fun p wc => ∃ nb vR vS, p = .pointer (some ⟨nb, 0, none⟩) ∧ w0.heap.size ≤ nb ∧ OwnR wc w0.heap.size vR rs ∧ OwnS wc w0.heap.size vS ss ∧ wc.heap[nb]? = some (vpB vid vR vS) ∧ Below w0.heap.size w0 wc)
  case first =>
    go_region_held3 (fun w' => w'.cell? ⟨w.heap.size, 0, none⟩ = some (.int .i64 vid) ∧ w'.cell? ⟨w.heap.size, 1, none⟩ = some (.slice rx rn rc) ∧ w'.cell? ⟨w.heap.size, 2, none⟩ = some (.slice sx sn sc)) (first | (go_keep; done) | (exact ⟨by assumption, by assumption, by assumption⟩) | (exact ⟨cell_later_add (bl1 _ _) (by assumption), cell_later_add (bl1 _ _) (by assumption), cell_later_add (bl1 _ _) (by assumption)⟩) | (refine ⟨?_, ?_, ?_⟩ <;> (show World.cell? _ _ = _; (repeat rw [cell_set_ne (by omega)]); assumption))) (first | (go_at_call 34; refine (hclR (w0.alloc (vpB 0 (.slice none 0 0) (.slice none 0 0))).drew (hv0.ranges.later (bl1 w0 _).drew)).mono ?_; rintro e w1 ⟨v1, rfl, hO1, hb1⟩; obtain ⟨x1, c1, rfl, -⟩ := hO1.mem; obtain ⟨hbb1, hx, hO1a⟩ := vp_after (w0 := w0) ⟨hb1.os, hb1.tape, hb1.output, hb1.size, hb1.block⟩ hO1; have m0 := cell_later_add hbb1 k0; have m1 := cell_later_add hbb1 k1; have m2 := cell_later_add hbb1 k2; have hvs := hv0.subs.later hbb1) | (go_at_call 34; refine (hclR _ (by first | exact hv0.ranges | exact hv0.ranges.later (Below.refl _ _).drew)).mono ?_; rintro e w1 ⟨v1, rfl, hO1, hb1⟩; obtain ⟨x1, c1, rfl, -⟩ := hO1.mem; have hbb1 : Below w0.heap.size w0 w1 := ⟨hb1.os, hb1.tape, hb1.output, hb1.size, hb1.block⟩; have m0 := cell_later_add hbb1 k0; have m1 := cell_later_add hbb1 k1; have m2 := cell_later_add hbb1 k2; have hvs := hv0.subs.later hbb1) | (go_at_call 35; refine (hclS (w1.alloc (vpB 0 (.slice none 0 0) (.slice none 0 0))) (hvs.later (bl1 w1 _))).mono ?_; rintro e w2 ⟨v2, rfl, hO2, hb2⟩; obtain ⟨x2, c2, rfl, -⟩ := hO2.mem; obtain ⟨hb12, hy, hO2a⟩ := vs_after (w0 := w1) hb2 hO2; have hbb2 := hbb1.trans (hb12.mono hbb1.size); have n0 := cell_later_add hb12 m0; have n1 := cell_later_add hb12 m1; have n2 := cell_later_add hb12 m2; have hO1' := OwnR.later hO1 hb12; have hz1 := hbb1.size; have hz2 := hb12.size; have q0 : w2.cell? ⟨w1.heap.size, 0, none⟩ = some (.int .i64 0) := (box_cells hy).1 0; have q1 : w2.cell? ⟨w1.heap.size, 1, none⟩ = some (.slice none 0 0) := (box_cells hy).1 1; have q2 : w2.cell? ⟨w1.heap.size, 2, none⟩ = some (.slice none 0 0) := (box_cells hy).1 2; have f0 : w2.frozen? ⟨w1.heap.size, 0, none⟩ = false := (box_cells hy).2 0; have f1 : w2.frozen? ⟨w1.heap.size, 1, none⟩ = false := (box_cells hy).2 1; have f2 : w2.frozen? ⟨w1.heap.size, 2, none⟩ = false := (box_cells hy).2 2) | (go_at_call 35; refine (hclS w1 hvs).mono ?_; rintro e w2 ⟨v2, rfl, hO2, hb2⟩; obtain ⟨x2, c2, rfl, -⟩ := hO2.mem; have hb12 : Below w1.heap.size w1 w2 := hb2; have hbb2 := hbb1.trans (hb12.mono hbb1.size); have n0 := cell_later_add hb12 m0; have n1 := cell_later_add hb12 m1; have n2 := cell_later_add hb12 m2; have hO1' := OwnR.later hO1 hb12; have hz1 := hbb1.size; have hz2 := hb12.size; try (have hy : w2.heap[w0.heap.size]? = some (vpB 0 (.slice none 0 0) (.slice none 0 0)) := heap_later hb12 hx; have q0 : w2.cell? ⟨w0.heap.size, 0, none⟩ = some (.int .i64 0) := (box_cells hy).1 0; have q1 : w2.cell? ⟨w0.heap.size, 1, none⟩ = some (.slice none 0 0) := (box_cells hy).1 1; have q2 : w2.cell? ⟨w0.heap.size, 2, none⟩ = some (.slice none 0 0) := (box_cells hy).1 2; have f0 : w2.frozen? ⟨w0.heap.size, 0, none⟩ = false := (box_cells hy).2 0; have f1 : w2.frozen? ⟨w0.heap.size, 1, none⟩ = false := (box_cells hy).2 1; have f2 : w2.frozen? ⟨w0.heap.size, 2, none⟩ = false := (box_cells hy).2 2)) | fail)
    all_goals go_wp2
    all_goals go_meet
    case rel => exact ⟨_, _, _, rfl, Nat.le_trans hz1 hz2, OwnR.later hO1' (bl1 _ _), (hO2.low hz1).later (bl1 _ _), heap_new _ rfl, Below.alloc hbb2 hbb2.size _⟩
    case rel => exact ⟨_, _, _, rfl, hz1, vp_put hy hz1 hO1' (hO2a.low hz1) hbb2⟩
    case rel => exact ⟨_, _, _, rfl, Nat.le_refl _, vp_put hy (Nat.le_refl _) (hO1a.later hb12) (hO2.low hz1) hbb2⟩
  case rest =>
    obtain ⟨nb, vR, vS, rfl, hnb, hOR, hOS, hbx, hBc⟩ := hcut
    have hk0 : OSs wc w0.heap.size vS ss 0 := ⟨hOS, fun i hi => by omega, fun i j hi => by omega⟩
    obtain ⟨xr, cr, rfl, -⟩ := hOR.mem
    obtain ⟨xv, cv, rfl, -⟩ := hOS.mem
    have e1 : wc.cell? ⟨nb, 2, none⟩ = some (.slice xv ss.length cv) := (box_cells hbx).1 2
    go_wp2
    clear e1
    go_loopw [17] (fun i wr => ∃ (q : Nat) (ts : List Sb), q ≤ ss.length ∧ i = .int .i64 q ∧ sameSs ss ts ∧ (∀ i, q ≤ i → sbAt ts i = sbAt ss i) ∧ OSs wr w0.heap.size (.slice xv ss.length cv) ts q ∧ OwnR wr w0.heap.size (.slice xr rs.length cr) rs ∧ wr.heap[nb]? = some (vpB vid (.slice xr rs.length cr) (.slice xv ss.length cv)) ∧ Below w0.heap.size w0 wr) (fun i _ => ss.length - (intOf i).toNat)
    case atStart => exact ⟨0, ss, by omega, rfl, sameSs.refl _, fun _ _ => rfl, hk0, hOR, hbx, hBc⟩
    case round =>
      obtain ⟨q, ts, hq, rfl, hs, htl, hQ, hR, hbr, hBr⟩ := hrel
      have e0 : wr.cell? ⟨nb, 0, none⟩ = some (.int .i64 vid) := (box_cells hbr).1 0
      have e1 : wr.cell? ⟨nb, 1, none⟩ = some (.slice xr rs.length cr) := (box_cells hbr).1 1
      have e2 : wr.cell? ⟨nb, 2, none⟩ = some (.slice xv ss.length cv) := (box_cells hbr).1 2
      by_cases hlt : q < ss.length
      · have hlq : q < ts.length := by rw [← hs.1]; exact hlt
        have hlt' := hlt
        have hqs : q < sn := by rw [← hsl.out]; exact hlt
        obtain ⟨x2, c2, he2, -, -, -, hm'⟩ := hQ.row.mem
        simp only [Value.slice.injEq] at he2
        obtain ⟨rfl, -, rfl⟩ := he2
        obtain ⟨b2, o2, he3, -, -, -, c8⟩ := hm' q hlq
        rcases hQ.row.2 with ⟨hv', -⟩ | ⟨g, cap, cur, hv', hg1, hg2, -⟩
        · rw [he3] at hv'; simp at hv'
        simp only [Value.slice.injEq] at hv'
        obtain ⟨hx3, -, rfl⟩ := hv'
        rw [hx3] at he3
        simp only [Option.some.injEq, Addr.mk.injEq] at he3
        obtain ⟨rfl, rfl, -⟩ := he3
        subst hx3
        obtain ⟨hnc, -, hF⟩ := (hv0.subs.later hBr).faces q hqs
        have hm64 := hm q hqs
        have hm264 := hm2 q hqs
        rw [← htl q (Nat.le_refl _)] at hnc hF hm64 hm264
        have htl' : Hid (∀ i, q ≤ i → sbAt ts i = sbAt ss i) := htl
        clear htl
        have hcl := fun W h => freshFaces_any (sbAt ts q).x (sbAt ts q).n (sbAt ts q).c (sbAt ts q).fs W h hm64 hm264
        go_wp2_with fail
        have c8' : wr.cell? ⟨g, q * 4 + 3, none⟩ = some (.slice (sbAt ts q).x (sbAt ts q).n (sbAt ts q).c) := by simpa using c8
        have hne : nb ≠ g := fun e => by rw [e] at hbr; rw [hbr] at hg2; simp at hg2
        go_region_with (first | (go_at_call 36; refine (hcl _ (by first | exact hF | exact hF.later (Below.refl _ _).drew)).mono ?_; rintro e w1 ⟨v1, gs, rfl, hsg, hO1, hb1⟩; obtain ⟨x1, c1, rfl, -⟩ := hO1.row.mem; have hb2 : Below wr.heap.size wr w1 := ⟨hb1.os, hb1.tape, hb1.output, hb1.size, hb1.block⟩; have d1 := cell_later_add hb2 e2; have d8 := cell_later_add hb2 c8'; have df : w1.frozen? ⟨g, q * 4 + 3, none⟩ = false := (hQ.row.later hb2).frozen _) | fail)
        all_goals have hst := hQ.step (x' := x1) (c' := c1) (gs := gs) hlq hb2 hO1 hBr.size
        all_goals have hh : (w1.setCell ⟨g, q * 4 + 3, none⟩ (.slice x1 gs.length c1)).heap[nb]? = some (vpB vid (.slice xr rs.length cr) (.slice (some ⟨g, 0, none⟩) ss.length cv)) := (heap_setCell_other _ _ _ _ hne).trans (heap_later hb2 hbr)
        all_goals have hB3 := (hBr.trans (hb2.mono hBr.size)).setCell (p := ⟨g, q * 4 + 3, none⟩) hg1 (.slice x1 gs.length c1)
        all_goals have hRn : OwnR (w1.setCell ⟨g, q * 4 + 3, none⟩ (.slice x1 gs.length c1)) w0.heap.size (.slice xr rs.length cr) rs := (hR.later hb2).kept (set_grown _ _ _ _) (fun k hk e => by subst e; exact hR.ne hg2 (by decide) hk)
        all_goals have hss : ∀ i, q + 1 ≤ i → sbAt (ts.set q (withF (sbAt ts q) x1 gs.length c1 gs)) i = sbAt ss i := fun i hi => by rw [sbAt_set hlq, if_neg (by omega)]; exact htl'.out i (by omega)
        all_goals have hsame := hs.set (x := x1) (c := c1) hlq hsg hF.len
        all_goals clear d1 d8 df
        all_goals go_wp2
        all_goals go_roundw
        all_goals first | exact ⟨q + 1, _, hlt', by go_num, hsame, hss, hst, hRn, hh, hB3⟩ | (simp [intOf]; omega)
      · obtain rfl : q = ss.length := by omega
        have hrr : wr.heap[w.heap.size + 1]? = some (vpB 0 (.slice none 0 0) (.slice none 0 0)) := (hBr.block _ hsz).trans hr0
        have r0 : wr.cell? ⟨w.heap.size + 1, 0, none⟩ = some (.int .i64 0) := (box_cells hrr).1 0
        have r1 : wr.cell? ⟨w.heap.size + 1, 1, none⟩ = some (.slice none 0 0) := (box_cells hrr).1 1
        have r2 : wr.cell? ⟨w.heap.size + 1, 2, none⟩ = some (.slice none 0 0) := (box_cells hrr).1 2
        have z0 := (box_cells hrr).2 0
        have z1 := (box_cells hrr).2 1
        have z2 := (box_cells hrr).2 2
        go_wp2
        refine bodyPost_ret (v := .agg #[.int .i64 vid, .slice xr rs.length cr, .slice xv ss.length cv]) (by simp [results, Try.results13, go_sem, r0, r1, r2]) rfl ?_
        have hQ2 : OSs wr w0.heap.size (.slice xv ss.length cv) ts ts.length := by rw [← hs.1]; exact hQ
        exact ⟨_, _, ts, rfl, (((hR.put hsz).put hsz).put hsz).low hB0.size, hs, (((hQ2.put hsz).put hsz).put hsz).low hB0.size, (((hB0.trans (hBr.mono hB0.size)).setCell (by simp) _).setCell (by simp) _).setCell (by simp) _⟩
end Go.Proofs.Ytpdhipjeobchfaa
/- subPlace, facePlace, given's parts of package vpc. -/
namespace Go.Proofs.Ytpdhipjeobchfaa
open Go.RowKit Go.Shelf

/-- The first place below n where f holds, or -1. -/
def fstAt (n : Nat) (f : Nat → Bool) : Int := match (List.range n).find? f with | some i => i | none => -1
theorem fstAt_yes {n i : Nat} {f : Nat → Bool} (hi : i < n) (h : f i = true) (hno : ∀ j, j < i → f j = false) : fstAt n f = i := by
  unfold fstAt
  have : (List.range n).find? f = some i := by
    rw [List.find?_range_eq_some]
    exact ⟨h, by simpa using hi, fun j hj => by simp [hno j hj]⟩
  rw [this]
theorem fstAt_no {n : Nat} {f : Nat → Bool} (hno : ∀ j, j < n → f j = false) : fstAt n f = -1 := by
  unfold fstAt
  have : (List.range n).find? f = none := by
    rw [List.find?_eq_none]
    intro j hj
    simp [hno j (by simpa using hj)]
  rw [this]
theorem fstAt_cases (n : Nat) (f : Nat → Bool) : (∃ i : Nat, i < n ∧ f i = true ∧ (∀ j, j < i → f j = false) ∧ fstAt n f = i) ∨ ((∀ j, j < n → f j = false) ∧ fstAt n f = -1) := by
  cases h : (List.range n).find? f with
  | none =>
    refine .inr ⟨fun j hj => ?_, by unfold fstAt; rw [h]⟩
    have := List.find?_eq_none.1 h j (by simpa using hj)
    simpa using this
  | some i =>
    obtain ⟨h1, h2, h3⟩ := List.find?_range_eq_some.1 h
    exact .inl ⟨i, by simpa using h2, h1, fun j hj => by simpa using h3 j hj, by unfold fstAt; rw [h]⟩
theorem fstAt_of {n : Nat} {f : Nat → Bool} {r : Int} (h : (∃ i : Nat, i < n ∧ f i = true ∧ (∀ j, j < i → f j = false) ∧ r = i) ∨ ((∀ j, j < n → f j = false) ∧ r = -1)) : r = fstAt n f := by
  rcases h with ⟨i, hi, hf, hno, rfl⟩ | ⟨hno, rfl⟩
  · exact (fstAt_yes hi hf hno).symm
  · exact (fstAt_no hno).symm

set_option maxRecDepth 20000 in
theorem subPlace1_any (id : Int) (p : Sb) (b : Nat) (w : World) (h0 : w.cell? ⟨b, 0, none⟩ = some (.int .i64 id)) :
    Calls Try.prog 32 #[.agg #[.int .i64 p.id, .int .i64 p.a, .int .i64 p.l, .slice p.x p.n p.c], .pointer (some ⟨b, 0, none⟩)] w fun e w' => e = .returned (.bool (p.id == id)) ∧ Below w.heap.size w w' := by
  have k0 : ∀ q, (w.alloc q).cell? ⟨b, 0, none⟩ = some (.int .i64 id) := fun q => cell_later (bl1 w q) h0
  go_enter Try.func32, Try.ntmps32
  go_wp2
  go_ret
  exact ⟨rfl, bl1 w _⟩
theorem call_subPlace1 (args : Array Value) (W : World) : (callFunc 32 args).run Try.prog W = .ok (.enter 32 args) W := by simp [go_sem]
set_option maxRecDepth 20000 in
set_option maxHeartbeats 800000 in
theorem subPlace_any (vid id : Int) (rx : Option Addr) (rn rc : Nat) (sx : Option Addr) (sn sc : Nat) (ss : List Sb) (w : World) (hp : SS w sx sn ss) (hn : sn ≤ 1048576) :
    Calls Try.prog 11 #[.agg #[.int .i64 vid, .slice rx rn rc, .slice sx sn sc], .int .i64 id] w fun e w' => e = .returned (.int .i64 (fstAt sn (fun i => (sbAt ss i).id == id))) ∧ Below w.heap.size w w' := by
  go_enter Try.func11, Try.ntmps11
  go_wp2_with fail
  refine (indexFuncSb_any 32 #[.pointer (some ⟨w.heap.size + 1, 0, none⟩)] sx sn sc ss (fun i => (sbAt ss i).id == id) _ (hp.later (bl2 w _ _)) hn (fun i _ W hW => subPlace1_any id (sbAt ss i) (w.heap.size + 1) W (cell_later hW (by simp))) call_subPlace1).mono ?_
  rintro e w1 ⟨⟨r, rfl, hr⟩, hb1⟩
  have hrv := fstAt_of hr
  subst hrv
  clear hr
  go_wp2
  go_ret
  exact ⟨rfl, (bl2 w _ _).trans (hb1.mono (by simp; omega))⟩
theorem subPlace_is (vid id : Int) (rx : Option Addr) (rn rc : Nat) (sx : Option Addr) (sn sc : Nat) (ss : List Sb) (t : Int) (h : fstAt sn (fun i => (sbAt ss i).id == id) = t) (w : World) (hp : SS w sx sn ss) (hn : sn ≤ 1048576) :
    Calls Try.prog 11 #[.agg #[.int .i64 vid, .slice rx rn rc, .slice sx sn sc], .int .i64 id] w fun e w' => e = .returned (.int .i64 t) ∧ Below w.heap.size w w' := by
  subst h
  exact subPlace_any vid id rx rn rc sx sn sc ss w hp hn
set_option maxRecDepth 20000 in
theorem facePlace1_any (id : Int) (p : Fc) (b : Nat) (w : World) (h0 : w.cell? ⟨b, 0, none⟩ = some (.int .i64 id)) :
    Calls Try.prog 65 #[.agg #[.int .i64 p.id, .slice p.x p.n p.c], .pointer (some ⟨b, 0, none⟩)] w fun e w' => e = .returned (.bool (p.id == id)) ∧ Below w.heap.size w w' := by
  have k0 : ∀ q, (w.alloc q).cell? ⟨b, 0, none⟩ = some (.int .i64 id) := fun q => cell_later (bl1 w q) h0
  go_enter Try.func65, Try.ntmps65
  go_wp2
  go_ret
  exact ⟨rfl, bl1 w _⟩
theorem call_facePlace1 (args : Array Value) (W : World) : (callFunc 65 args).run Try.prog W = .ok (.enter 65 args) W := by simp [go_sem]
set_option maxRecDepth 20000 in
set_option maxHeartbeats 800000 in
theorem facePlace_any (s : Sb) (id : Int) (w : World) (hp : FcS w s.x s.n s.fs) (hn : s.n ≤ 1048576) :
    Calls Try.prog 33 #[.agg #[.int .i64 s.id, .int .i64 s.a, .int .i64 s.l, .slice s.x s.n s.c], .int .i64 id] w fun e w' => e = .returned (.int .i64 (fstAt s.n (fun i => (fcAt s.fs i).id == id))) ∧ Below w.heap.size w w' := by
  go_enter Try.func33, Try.ntmps33
  go_wp2_with fail
  refine (indexFuncFc_any 65 #[.pointer (some ⟨w.heap.size + 1, 0, none⟩)] s.x s.n s.c s.fs (fun i => (fcAt s.fs i).id == id) _ (hp.later (bl2 w _ _)) hn (fun i _ W hW => facePlace1_any id (fcAt s.fs i) (w.heap.size + 1) W (cell_later hW (by simp))) call_facePlace1).mono ?_
  rintro e w1 ⟨⟨r, rfl, hr⟩, hb1⟩
  have hrv := fstAt_of hr
  subst hrv
  clear hr
  go_wp2
  go_ret
  exact ⟨rfl, (bl2 w _ _).trans (hb1.mono (by simp; omega))⟩
theorem facePlace_is (s : Sb) (id : Int) (t : Int) (h : fstAt s.n (fun i => (fcAt s.fs i).id == id) = t) (w : World) (hp : FcS w s.x s.n s.fs) (hn : s.n ≤ 1048576) :
    Calls Try.prog 33 #[.agg #[.int .i64 s.id, .int .i64 s.a, .int .i64 s.l, .slice s.x s.n s.c], .int .i64 id] w fun e w' => e = .returned (.int .i64 t) ∧ Below w.heap.size w w' := by
  subst h
  exact facePlace_any s id w hp hn
end Go.Proofs.Ytpdhipjeobchfaa
/- Grow of package vpc. -/
namespace Go.Proofs.Ytpdhipjeobchfaa
open Go.RowKit Go.Shelf

/-- A network in memory, by its numbers. -/
def NV (w : World) (vid : Int) (v : Value) (rs : List Rg) (ss : List Sb) : Prop :=
  ∃ rx rc sx sc, v = .agg #[.int .i64 vid, .slice rx rs.length rc, .slice sx ss.length sc] ∧ Vp w rx rs.length rc rs sx ss.length sc ss ∧ rc ≤ 9223372036854775807 ∧ sc ≤ 9223372036854775807
theorem NV.later {w w' : World} {vid : Int} {v : Value} {rs : List Rg} {ss : List Sb} (h : NV w vid v rs ss) (hb : Below w.heap.size w w') : NV w' vid v rs ss := by
  obtain ⟨rx, rc, sx, sc, h1, h2, h3⟩ := h
  exact ⟨rx, rc, sx, sc, h1, h2.later hb, h3⟩
theorem NV.of {w : World} {base base' : Nat} {vid : Int} {vR vS : Value} {rs : List Rg} {ss : List Sb} (hR : OwnR w base vR rs) (hS : OSs w base' vS ss ss.length) : NV w vid (.agg #[.int .i64 vid, vR, vS]) rs ss := by
  obtain ⟨rx, rc, rfl, h1, h2, h3⟩ := hR.rs
  obtain ⟨sx, sc, rfl, g1, g2, g3⟩ := hS.subs
  exact ⟨rx, rc, sx, sc, rfl, ⟨h2, g2, h1, g1⟩, h3, g3⟩
theorem OwnR.putBox {w : World} {base b o : Nat} {u v : Value} {rs : List Rg} {cs : Array Value} {t : TypeId} (h : OwnR w base v rs) (hb : w.heap[b]? = some (.cells cs t)) (h1 : t ≠ 60) : OwnR (w.setCell ⟨b, o, none⟩ u) base v rs :=
  h.kept (set_grown _ _ _ _) (fun k hk e => by subst e; exact h.ne hb h1 hk)
theorem OSs.putBox {w : World} {base b o : Nat} {u v : Value} {ss : List Sb} {cs : Array Value} {t : TypeId} (h : OSs w base v ss ss.length) (hb : w.heap[b]? = some (.cells cs t)) (h1 : t ≠ 42) (h2 : t ≠ 47) (h3 : t ≠ 3) : OSs (w.setCell ⟨b, o, none⟩ u) base v ss ss.length :=
  ⟨h.row.kept (set_grown _ _ _ _) (fun k hk e => by subst e; exact h.row.ne hb h1 hk), fun i hi => (h.own i hi).kept_of (set_grown _ _ _ _) hb h2 h3, h.apart⟩
/-- The range stands ahead of the first one that begins higher. -/
def PutRg (e : Rg) (qs rs : List Rg) : Prop := ∃ i, i ≤ qs.length ∧ (∀ j, j < i → ¬ e.a < (rgAt qs j).a) ∧ (i < qs.length → e.a < (rgAt qs i).a) ∧ rs = qs.take i ++ [e] ++ qs.drop i
def growE (vid : Int) (rn : Nat) (rs : List Rg) (sn : Nat) (ss : List Sb) (r : Rg) : Int :=
  if chkV vid rn rs sn ss ≠ 0 then chkV vid rn rs sn ss else if rgB r = false then 1 else if anyAt rn (rmB rs r.a r.l) = true then 6 else if rn = 4 then 2 else 0
def GrowPost (vid : Int) (rn : Nat) (rs : List Rg) (sn : Nat) (ss : List Sb) (r : Rg) (w : World) (e : Ending) (w' : World) : Prop :=
  ∃ V, e = .returned (.tuple #[V, .int .i64 (growE vid rn rs sn ss r)]) ∧ Below w.heap.size w w' ∧ (growE vid rn rs sn ss r ≠ 0 → V = .agg #[.int .i64 0, .slice none 0 0, .slice none 0 0]) ∧
    (growE vid rn rs sn ss r = 0 → ∃ rs' ss', NV w' vid V rs' ss' ∧ PutRg r rs rs' ∧ sameSs ss ss')
theorem GrowPost.err {vid : Int} {rn : Nat} {rs : List Rg} {sn : Nat} {ss : List Sb} {r : Rg} {E : Int} {w w' : World} (hE : growE vid rn rs sn ss r = E ∧ E ≠ 0) (hb : Below w.heap.size w w') :
    GrowPost vid rn rs sn ss r w (.returned (.tuple #[.agg #[.int .i64 0, .slice none 0 0, .slice none 0 0], .int .i64 E])) w' :=
  ⟨_, by rw [hE.1], hb, fun _ => rfl, fun h => absurd (hE.1.symm.trans h) hE.2⟩
structure TG (w W : World) (vid : Int) (vR vS : Value) (r : Rg) : Prop where
  hb : W.heap[w.heap.size]? = some (vpB vid vR vS)
  hp : W.heap[w.heap.size + 1]? = some (.cells #[.int .i64 r.a, .int .i64 r.l, .int .i64 r.p] 60)
  hs : W.heap[w.heap.size + 2]? = some (vpB 0 (.slice none 0 0) (.slice none 0 0))
  below : Below w.heap.size w W
theorem TG.later {w W W' : World} {vid : Int} {vR vS : Value} {r : Rg} (h : TG w W vid vR vS r) (hb : Below W.heap.size W W') : TG w W' vid vR vS r :=
  ⟨heap_later hb h.hb, heap_later hb h.hp, heap_later hb h.hs, h.below.trans (hb.mono h.below.size)⟩
theorem chkV_few {vid : Int} {rn : Nat} {rs : List Rg} {sn : Nat} {ss : List Sb} (h : chkV vid rn rs sn ss = 0) : rn ≤ 4 ∧ sn ≤ 6 ∧ (∀ i, i < sn → (sbAt ss i).n ≤ 8) ∧ ∀ i, i < sn → ∀ j, j < (sbAt ss i).n → (fcAt (sbAt ss i).fs j).n ≤ 4 := by
  unfold chkV at h
  cases hm : vmanyB rn sn ss
  · exact few hm
  · rw [hm] at h; simp at h

set_option maxRecDepth 100000 in
set_option maxHeartbeats 3200000 in
theorem vgrow_any (vid : Int) (rx : Option Addr) (rn rc : Nat) (rs : List Rg) (sx : Option Addr) (sn sc : Nat) (ss : List Sb) (r : Rg) (w : World) (hv : Vp w rx rn rc rs sx sn sc ss) (hrn : rn ≤ 9223372036854775807) (hsn : sn ≤ 9223372036854775807) (hrc : rc ≤ 9223372036854775807) :
    Calls Try.prog 30 #[.agg #[.int .i64 vid, .slice rx rn rc, .slice sx sn sc], .agg #[.int .i64 r.a, .int .i64 r.l, .int .i64 r.p]] w (GrowPost vid rn rs sn ss r w) := by
  have hrl : Hid (rs.length = rn) := hv.ranges.len
  have hsl : Hid (ss.length = sn) := hv.subs.len
  go_enter Try.func30, Try.ntmps30
  go_upto_region 1 with fail
  obtain ⟨w0, hw0⟩ : ∃ w0, w0 = ((w.alloc (vpB vid (.slice rx rn rc) (.slice sx sn sc))).alloc (.cells #[.int .i64 r.a, .int .i64 r.l, .int .i64 r.p] 60)).alloc (vpB 0 (.slice none 0 0) (.slice none 0 0)) := ⟨_, rfl⟩
  rw [← hw0]
  have hT0 : TG w w0 vid (.slice rx rn rc) (.slice sx sn sc) r := by
    rw [hw0]
    exact ⟨heap_old _ (heap_old _ (heap_new _ rfl)), heap_old _ (heap_new _ (by simp)), heap_new _ (by simp), (bl2 w _ _).alloc (by simp; omega) _⟩
  clear hw0
  have b0 : w0.cell? ⟨w.heap.size, 0, none⟩ = some (.int .i64 vid) := (box_cells hT0.hb).1 0
  have b1 : w0.cell? ⟨w.heap.size, 1, none⟩ = some (.slice rx rn rc) := (box_cells hT0.hb).1 1
  have b2 : w0.cell? ⟨w.heap.size, 2, none⟩ = some (.slice sx sn sc) := (box_cells hT0.hb).1 2
  have p0 : w0.cell? ⟨w.heap.size + 1, 0, none⟩ = some (.int .i64 r.a) := (box_cells hT0.hp).1 0
  have p1 : w0.cell? ⟨w.heap.size + 1, 1, none⟩ = some (.int .i64 r.l) := (box_cells hT0.hp).1 1
  have p2 : w0.cell? ⟨w.heap.size + 1, 2, none⟩ = some (.int .i64 r.p) := (box_cells hT0.hp).1 2
  have s0 : w0.cell? ⟨w.heap.size + 2, 0, none⟩ = some (.int .i64 0) := (box_cells hT0.hs).1 0
  have s1 : w0.cell? ⟨w.heap.size + 2, 1, none⟩ = some (.slice none 0 0) := (box_cells hT0.hs).1 1
  have s2 : w0.cell? ⟨w.heap.size + 2, 2, none⟩ = some (.slice none 0 0) := (box_cells hT0.hs).1 2
  have zs0 : w0.frozen? ⟨w.heap.size + 2, 0, none⟩ = false := (box_cells hT0.hs).2 0
  have zs1 : w0.frozen? ⟨w.heap.size + 2, 1, none⟩ = false := (box_cells hT0.hs).2 1
  have zs2 : w0.frozen? ⟨w.heap.size + 2, 2, none⟩ = false := (box_cells hT0.hs).2 2
  have hck := checkV_any vid rx rn rc rs sx sn sc ss w0 (hv.later hT0.below) hrn hsn hrc
  by_cases hc0 : chkV vid rn rs sn ss = 0
  · rw [hc0] at hck
    obtain ⟨f1, f2, f3, f4⟩ := chkV_few hc0
    have hE1 : Hid (growE vid rn rs sn ss r = if rgB r = false then 1 else if anyAt rn (rmB rs r.a r.l) = true then 6 else if rn = 4 then 2 else 0) := if_neg (c := chkV vid rn rs sn ss ≠ 0) (by simp [hc0])
    clear hc0
    go_wp2_with fail
    refine (hck).mono ?_
    rintro e w1 ⟨rfl, hbw1⟩
    have hT1 := hT0.later hbw1
    clear b0 b1 b2 p0 p1 p2 s0 s1 s2 zs0 zs1 zs2
    have b0 : w1.cell? ⟨w.heap.size, 0, none⟩ = some (.int .i64 vid) := (box_cells hT1.hb).1 0
    have b1 : w1.cell? ⟨w.heap.size, 1, none⟩ = some (.slice rx rn rc) := (box_cells hT1.hb).1 1
    have b2 : w1.cell? ⟨w.heap.size, 2, none⟩ = some (.slice sx sn sc) := (box_cells hT1.hb).1 2
    have p0 : w1.cell? ⟨w.heap.size + 1, 0, none⟩ = some (.int .i64 r.a) := (box_cells hT1.hp).1 0
    have p1 : w1.cell? ⟨w.heap.size + 1, 1, none⟩ = some (.int .i64 r.l) := (box_cells hT1.hp).1 1
    have p2 : w1.cell? ⟨w.heap.size + 1, 2, none⟩ = some (.int .i64 r.p) := (box_cells hT1.hp).1 2
    have s0 : w1.cell? ⟨w.heap.size + 2, 0, none⟩ = some (.int .i64 0) := (box_cells hT1.hs).1 0
    have s1 : w1.cell? ⟨w.heap.size + 2, 1, none⟩ = some (.slice none 0 0) := (box_cells hT1.hs).1 1
    have s2 : w1.cell? ⟨w.heap.size + 2, 2, none⟩ = some (.slice none 0 0) := (box_cells hT1.hs).1 2
    have zs0 : w1.frozen? ⟨w.heap.size + 2, 0, none⟩ = false := (box_cells hT1.hs).2 0
    have zs1 : w1.frozen? ⟨w.heap.size + 2, 1, none⟩ = false := (box_cells hT1.hs).2 1
    have zs2 : w1.frozen? ⟨w.heap.size + 2, 2, none⟩ = false := (box_cells hT1.hs).2 2
    cases hrg : rgB r with
    | false =>
      have hne : growE vid rn rs sn ss r = 1 ∧ (1 : Int) ≠ 0 := ⟨hE1.out.trans (if_pos hrg), by decide⟩
      go_wp2_with fail
      refine (rangeRight_is r false hrg w1).mono ?_
      rintro e w2 ⟨rfl, hbw2⟩
      have hT2 := hT1.later hbw2
      clear b0 b1 b2 p0 p1 p2 s0 s1 s2 zs0 zs1 zs2
      have b0 : w2.cell? ⟨w.heap.size, 0, none⟩ = some (.int .i64 vid) := (box_cells hT2.hb).1 0
      have b1 : w2.cell? ⟨w.heap.size, 1, none⟩ = some (.slice rx rn rc) := (box_cells hT2.hb).1 1
      have b2 : w2.cell? ⟨w.heap.size, 2, none⟩ = some (.slice sx sn sc) := (box_cells hT2.hb).1 2
      have p0 : w2.cell? ⟨w.heap.size + 1, 0, none⟩ = some (.int .i64 r.a) := (box_cells hT2.hp).1 0
      have p1 : w2.cell? ⟨w.heap.size + 1, 1, none⟩ = some (.int .i64 r.l) := (box_cells hT2.hp).1 1
      have p2 : w2.cell? ⟨w.heap.size + 1, 2, none⟩ = some (.int .i64 r.p) := (box_cells hT2.hp).1 2
      have s0 : w2.cell? ⟨w.heap.size + 2, 0, none⟩ = some (.int .i64 0) := (box_cells hT2.hs).1 0
      have s1 : w2.cell? ⟨w.heap.size + 2, 1, none⟩ = some (.slice none 0 0) := (box_cells hT2.hs).1 1
      have s2 : w2.cell? ⟨w.heap.size + 2, 2, none⟩ = some (.slice none 0 0) := (box_cells hT2.hs).1 2
      have zs0 : w2.frozen? ⟨w.heap.size + 2, 0, none⟩ = false := (box_cells hT2.hs).2 0
      have zs1 : w2.frozen? ⟨w.heap.size + 2, 1, none⟩ = false := (box_cells hT2.hs).2 1
      have zs2 : w2.frozen? ⟨w.heap.size + 2, 2, none⟩ = false := (box_cells hT2.hs).2 2
      go_wp2
      refine bodyPost_ret (v := .tuple #[.agg #[.int .i64 0, .slice none 0 0, .slice none 0 0], .int .i64 1]) (by simp [results, Try.results30, go_sem, s0, s1, s2]) rfl ?_
      exact GrowPost.err hne (((hT2.below.setCell (p := ⟨w.heap.size + 2, 0, none⟩) (Nat.le_add_right _ _) _).setCell (p := ⟨w.heap.size + 2, 1, none⟩) (Nat.le_add_right _ _) _).setCell (p := ⟨w.heap.size + 2, 2, none⟩) (Nat.le_add_right _ _) _)
    | true =>
      have hE2 : Hid (growE vid rn rs sn ss r = if anyAt rn (rmB rs r.a r.l) = true then 6 else if rn = 4 then 2 else 0) := hE1.out.trans (if_neg (by simp [hrg]))
      go_wp2_with fail
      refine (rangeRight_is r true hrg w1).mono ?_
      rintro e w2 ⟨rfl, hbw2⟩
      have hT2 := hT1.later hbw2
      clear b0 b1 b2 p0 p1 p2 s0 s1 s2 zs0 zs1 zs2
      have b0 : w2.cell? ⟨w.heap.size, 0, none⟩ = some (.int .i64 vid) := (box_cells hT2.hb).1 0
      have b1 : w2.cell? ⟨w.heap.size, 1, none⟩ = some (.slice rx rn rc) := (box_cells hT2.hb).1 1
      have b2 : w2.cell? ⟨w.heap.size, 2, none⟩ = some (.slice sx sn sc) := (box_cells hT2.hb).1 2
      have p0 : w2.cell? ⟨w.heap.size + 1, 0, none⟩ = some (.int .i64 r.a) := (box_cells hT2.hp).1 0
      have p1 : w2.cell? ⟨w.heap.size + 1, 1, none⟩ = some (.int .i64 r.l) := (box_cells hT2.hp).1 1
      have p2 : w2.cell? ⟨w.heap.size + 1, 2, none⟩ = some (.int .i64 r.p) := (box_cells hT2.hp).1 2
      have s0 : w2.cell? ⟨w.heap.size + 2, 0, none⟩ = some (.int .i64 0) := (box_cells hT2.hs).1 0
      have s1 : w2.cell? ⟨w.heap.size + 2, 1, none⟩ = some (.slice none 0 0) := (box_cells hT2.hs).1 1
      have s2 : w2.cell? ⟨w.heap.size + 2, 2, none⟩ = some (.slice none 0 0) := (box_cells hT2.hs).1 2
      have zs0 : w2.frozen? ⟨w.heap.size + 2, 0, none⟩ = false := (box_cells hT2.hs).2 0
      have zs1 : w2.frozen? ⟨w.heap.size + 2, 1, none⟩ = false := (box_cells hT2.hs).2 1
      have zs2 : w2.frozen? ⟨w.heap.size + 2, 2, none⟩ = false := (box_cells hT2.hs).2 2
      have hmt := meetsRange_any r.a r.l rx rn rc rs w2 (hv.later hT2.below).ranges (by omega)
      cases hany : anyAt rn (rmB rs r.a r.l) with
      | true =>
        rw [hany] at hmt
        have hne : growE vid rn rs sn ss r = 6 ∧ (6 : Int) ≠ 0 := ⟨hE2.out.trans (if_pos hany), by decide⟩
        go_wp2_with fail
        refine (hmt).mono ?_
        rintro e w3 ⟨rfl, hbw3⟩
        have hT3 := hT2.later hbw3
        clear b0 b1 b2 p0 p1 p2 s0 s1 s2 zs0 zs1 zs2
        have b0 : w3.cell? ⟨w.heap.size, 0, none⟩ = some (.int .i64 vid) := (box_cells hT3.hb).1 0
        have b1 : w3.cell? ⟨w.heap.size, 1, none⟩ = some (.slice rx rn rc) := (box_cells hT3.hb).1 1
        have b2 : w3.cell? ⟨w.heap.size, 2, none⟩ = some (.slice sx sn sc) := (box_cells hT3.hb).1 2
        have p0 : w3.cell? ⟨w.heap.size + 1, 0, none⟩ = some (.int .i64 r.a) := (box_cells hT3.hp).1 0
        have p1 : w3.cell? ⟨w.heap.size + 1, 1, none⟩ = some (.int .i64 r.l) := (box_cells hT3.hp).1 1
        have p2 : w3.cell? ⟨w.heap.size + 1, 2, none⟩ = some (.int .i64 r.p) := (box_cells hT3.hp).1 2
        have s0 : w3.cell? ⟨w.heap.size + 2, 0, none⟩ = some (.int .i64 0) := (box_cells hT3.hs).1 0
        have s1 : w3.cell? ⟨w.heap.size + 2, 1, none⟩ = some (.slice none 0 0) := (box_cells hT3.hs).1 1
        have s2 : w3.cell? ⟨w.heap.size + 2, 2, none⟩ = some (.slice none 0 0) := (box_cells hT3.hs).1 2
        have zs0 : w3.frozen? ⟨w.heap.size + 2, 0, none⟩ = false := (box_cells hT3.hs).2 0
        have zs1 : w3.frozen? ⟨w.heap.size + 2, 1, none⟩ = false := (box_cells hT3.hs).2 1
        have zs2 : w3.frozen? ⟨w.heap.size + 2, 2, none⟩ = false := (box_cells hT3.hs).2 2
        go_wp2
        refine bodyPost_ret (v := .tuple #[.agg #[.int .i64 0, .slice none 0 0, .slice none 0 0], .int .i64 6]) (by simp [results, Try.results30, go_sem, s0, s1, s2]) rfl ?_
        exact GrowPost.err hne (((hT3.below.setCell (p := ⟨w.heap.size + 2, 0, none⟩) (Nat.le_add_right _ _) _).setCell (p := ⟨w.heap.size + 2, 1, none⟩) (Nat.le_add_right _ _) _).setCell (p := ⟨w.heap.size + 2, 2, none⟩) (Nat.le_add_right _ _) _)
      | false =>
        rw [hany] at hmt
        have hE3 : Hid (growE vid rn rs sn ss r = if rn = 4 then 2 else 0) := hE2.out.trans (if_neg (by simp [hany]))
        by_cases h4 : rn = 4
        · subst h4
          have hne : growE vid 4 rs sn ss r = 2 ∧ (2 : Int) ≠ 0 := ⟨hE3.out.trans (if_pos rfl), by decide⟩
          go_wp2_with fail
          refine (hmt).mono ?_
          rintro e w3 ⟨rfl, hbw3⟩
          have hT3 := hT2.later hbw3
          clear b0 b1 b2 p0 p1 p2 s0 s1 s2 zs0 zs1 zs2
          have b0 : w3.cell? ⟨w.heap.size, 0, none⟩ = some (.int .i64 vid) := (box_cells hT3.hb).1 0
          have b1 : w3.cell? ⟨w.heap.size, 1, none⟩ = some (.slice rx 4 rc) := (box_cells hT3.hb).1 1
          have b2 : w3.cell? ⟨w.heap.size, 2, none⟩ = some (.slice sx sn sc) := (box_cells hT3.hb).1 2
          have p0 : w3.cell? ⟨w.heap.size + 1, 0, none⟩ = some (.int .i64 r.a) := (box_cells hT3.hp).1 0
          have p1 : w3.cell? ⟨w.heap.size + 1, 1, none⟩ = some (.int .i64 r.l) := (box_cells hT3.hp).1 1
          have p2 : w3.cell? ⟨w.heap.size + 1, 2, none⟩ = some (.int .i64 r.p) := (box_cells hT3.hp).1 2
          have s0 : w3.cell? ⟨w.heap.size + 2, 0, none⟩ = some (.int .i64 0) := (box_cells hT3.hs).1 0
          have s1 : w3.cell? ⟨w.heap.size + 2, 1, none⟩ = some (.slice none 0 0) := (box_cells hT3.hs).1 1
          have s2 : w3.cell? ⟨w.heap.size + 2, 2, none⟩ = some (.slice none 0 0) := (box_cells hT3.hs).1 2
          have zs0 : w3.frozen? ⟨w.heap.size + 2, 0, none⟩ = false := (box_cells hT3.hs).2 0
          have zs1 : w3.frozen? ⟨w.heap.size + 2, 1, none⟩ = false := (box_cells hT3.hs).2 1
          have zs2 : w3.frozen? ⟨w.heap.size + 2, 2, none⟩ = false := (box_cells hT3.hs).2 2
          go_wp2
          refine bodyPost_ret (v := .tuple #[.agg #[.int .i64 0, .slice none 0 0, .slice none 0 0], .int .i64 2]) (by simp [results, Try.results30, go_sem, s0, s1, s2]) rfl ?_
          exact GrowPost.err hne (((hT3.below.setCell (p := ⟨w.heap.size + 2, 0, none⟩) (Nat.le_add_right _ _) _).setCell (p := ⟨w.heap.size + 2, 1, none⟩) (Nat.le_add_right _ _) _).setCell (p := ⟨w.heap.size + 2, 2, none⟩) (Nat.le_add_right _ _) _)
        · have hE0 : Hid (growE vid rn rs sn ss r = 0) := hE3.out.trans (if_neg h4)
          have hv3 := fun W (hW : Below w.heap.size w W) => freshVpc_any vid rx rn rc rs sx sn sc ss W (hv.later hW) (by omega) (by omega) (fun i hi => by have := f3 i hi; omega) (fun i hi j hj => by have := f4 i hi j hj; omega)
          go_wp2_with fail
          refine (hmt).mono ?_
          rintro e w3 ⟨rfl, hbw3⟩
          have hT3 := hT2.later hbw3
          clear b0 b1 b2 p0 p1 p2 s0 s1 s2 zs0 zs1 zs2
          have b0 : w3.cell? ⟨w.heap.size, 0, none⟩ = some (.int .i64 vid) := (box_cells hT3.hb).1 0
          have b1 : w3.cell? ⟨w.heap.size, 1, none⟩ = some (.slice rx rn rc) := (box_cells hT3.hb).1 1
          have b2 : w3.cell? ⟨w.heap.size, 2, none⟩ = some (.slice sx sn sc) := (box_cells hT3.hb).1 2
          have p0 : w3.cell? ⟨w.heap.size + 1, 0, none⟩ = some (.int .i64 r.a) := (box_cells hT3.hp).1 0
          have p1 : w3.cell? ⟨w.heap.size + 1, 1, none⟩ = some (.int .i64 r.l) := (box_cells hT3.hp).1 1
          have p2 : w3.cell? ⟨w.heap.size + 1, 2, none⟩ = some (.int .i64 r.p) := (box_cells hT3.hp).1 2
          have s0 : w3.cell? ⟨w.heap.size + 2, 0, none⟩ = some (.int .i64 0) := (box_cells hT3.hs).1 0
          have s1 : w3.cell? ⟨w.heap.size + 2, 1, none⟩ = some (.slice none 0 0) := (box_cells hT3.hs).1 1
          have s2 : w3.cell? ⟨w.heap.size + 2, 2, none⟩ = some (.slice none 0 0) := (box_cells hT3.hs).1 2
          have zs0 : w3.frozen? ⟨w.heap.size + 2, 0, none⟩ = false := (box_cells hT3.hs).2 0
          have zs1 : w3.frozen? ⟨w.heap.size + 2, 1, none⟩ = false := (box_cells hT3.hs).2 1
          have zs2 : w3.frozen? ⟨w.heap.size + 2, 2, none⟩ = false := (box_cells hT3.hs).2 2
          go_wp2_with fail
          refine (hv3 _ hT3.below).mono ?_
          rintro e w4 ⟨vR, vS, ts, rfl, hOR, hss, hOS, hb4⟩
          have hT4 := hT3.later hb4
          obtain ⟨xr, cr, rfl, hr1, hr2, hr3⟩ := hOR.rs
          obtain ⟨xt, ct, rfl, -⟩ := hOS.subs
          have hxr : (xr = none ∧ cr = 0) ∨ ∃ b o, xr = some ⟨b, o, none⟩ := by
            rcases hOR.2 with ⟨hv', -⟩ | ⟨g2, cap2, cur2, hv', -⟩
            · simp only [Value.slice.injEq] at hv'; exact .inl ⟨hv'.1, hv'.2.2⟩
            · simp only [Value.slice.injEq] at hv'; exact .inr ⟨_, _, hv'.1⟩
          clear b0 b1 b2 p0 p1 p2 s0 s1 s2 zs0 zs1 zs2
          go_upto_region 12 with fail
          obtain ⟨w5, hw5⟩ : ∃ w5, w5 = w4.alloc (vpB vid (.slice xr rs.length cr) (.slice xt ts.length ct)) := ⟨_, rfl⟩
          rw [← hw5]
          have hb45 : Below w4.heap.size w4 w5 := by rw [hw5]; exact bl1 _ _
          have hn5 : w5.heap[w4.heap.size]? = some (vpB vid (.slice xr rs.length cr) (.slice xt ts.length ct)) := by rw [hw5]; exact heap_new _ rfl
          clear hw5
          have hT5 := hT4.later hb45
          have n1 : w5.cell? ⟨w4.heap.size, 1, none⟩ = some (.slice xr rs.length cr) := (box_cells hn5).1 1
          have n1' : ∀ o, (w5.alloc o).cell? ⟨w4.heap.size, 1, none⟩ = some (.slice xr rs.length cr) := fun o => cell_later_add (bl1 w5 o) n1
          have p0 : w5.cell? ⟨w.heap.size + 1, 0, none⟩ = some (.int .i64 r.a) := (box_cells hT5.hp).1 0
          have p1 : w5.cell? ⟨w.heap.size + 1, 1, none⟩ = some (.int .i64 r.l) := (box_cells hT5.hp).1 1
          have p2 : w5.cell? ⟨w.heap.size + 1, 2, none⟩ = some (.int .i64 r.p) := (box_cells hT5.hp).1 2
          have p0' : ∀ o, (w5.alloc o).cell? ⟨w.heap.size + 1, 0, none⟩ = some (.int .i64 r.a) := fun o => cell_later_add (bl1 w5 o) p0
          have p1' : ∀ o, (w5.alloc o).cell? ⟨w.heap.size + 1, 1, none⟩ = some (.int .i64 r.l) := fun o => cell_later_add (bl1 w5 o) p1
          have p2' : ∀ o, (w5.alloc o).cell? ⟨w.heap.size + 1, 2, none⟩ = some (.int .i64 r.p) := fun o => cell_later_add (bl1 w5 o) p2
          have hput := fun W (hW : Below w5.heap.size w5 W) hby => putR_any r xr rs.length cr rs w5.heap.size 1 W ((hr1.later hb45).later hW) (by rw [hrl.out]; omega) hr2 hr3 hxr hby
          go_wp2_with fail
          refine (hput _ (bl1 w5 _) (by simp)).mono ?_
          rintro e w6 ⟨v6, rfl, hb6, i, hi, hlow, hup, hO6⟩
          obtain ⟨qs, hqs⟩ : ∃ qs, Hid (qs = rs.take i ++ [r] ++ rs.drop i) := ⟨_, rfl⟩
          rw [← hqs.out] at hO6
          obtain ⟨x6, c6, rfl, -⟩ := hO6.mem
          have hb56 : Below w5.heap.size w5 w6 := (bl1 w5 _).trans (hb6.mono (by simp))
          have hT6 := hT5.later hb56
          have hn6 := heap_later hb56 hn5
          have hOS6 := OSs.later (OSs.later hOS hb45) hb56
          clear n1 n1' p0 p1 p2 p0' p1' p2'
          have hsz3 : w.heap.size + 2 < w3.heap.size := (Array.getElem?_eq_some_iff.1 hT3.hs).1
          have hz4 : w.heap.size + 2 < w4.heap.size := Nat.lt_of_lt_of_le hsz3 hb4.size
          have hz5 : w.heap.size + 2 < w5.heap.size := Nat.lt_of_lt_of_le hz4 hb45.size
          have m0 : w6.cell? ⟨w4.heap.size, 0, none⟩ = some (.int .i64 vid) := (box_cells hn6).1 0
          have m1 : w6.cell? ⟨w4.heap.size, 1, none⟩ = some (.slice xr rs.length cr) := (box_cells hn6).1 1
          have m2 : w6.cell? ⟨w4.heap.size, 2, none⟩ = some (.slice xt ts.length ct) := (box_cells hn6).1 2
          have zm : w6.frozen? ⟨w4.heap.size, 1, none⟩ = false := (box_cells hn6).2 1
          have s0 : w6.cell? ⟨w.heap.size + 2, 0, none⟩ = some (.int .i64 0) := (box_cells hT6.hs).1 0
          have s1 : w6.cell? ⟨w.heap.size + 2, 1, none⟩ = some (.slice none 0 0) := (box_cells hT6.hs).1 1
          have s2 : w6.cell? ⟨w.heap.size + 2, 2, none⟩ = some (.slice none 0 0) := (box_cells hT6.hs).1 2
          have zs0 : w6.frozen? ⟨w.heap.size + 2, 0, none⟩ = false := (box_cells hT6.hs).2 0
          have zs1 : w6.frozen? ⟨w.heap.size + 2, 1, none⟩ = false := (box_cells hT6.hs).2 1
          have zs2 : w6.frozen? ⟨w.heap.size + 2, 2, none⟩ = false := (box_cells hT6.hs).2 2
          have ne1 : ¬ w4.heap.size = w.heap.size + 2 := by omega
          have ne2 : ¬ w.heap.size + 2 = w4.heap.size := by omega
          go_wp2
          refine bodyPost_ret (v := .tuple #[.agg #[.int .i64 vid, .slice x6 qs.length c6, .slice xt ts.length ct], .int .i64 0]) (by simp [results, Try.results30, go_sem, s0, s1, s2]) rfl ?_
          have hfin := (((hT6.below.setCell (p := ⟨w4.heap.size, 1, none⟩) (by show w.heap.size ≤ w4.heap.size; omega) (.slice x6 qs.length c6)).setCell (p := ⟨w.heap.size + 2, 0, none⟩) (Nat.le_add_right _ _) (.int .i64 vid)).setCell (p := ⟨w.heap.size + 2, 1, none⟩) (Nat.le_add_right _ _) (.slice x6 qs.length c6)).setCell (p := ⟨w.heap.size + 2, 2, none⟩) (Nat.le_add_right _ _) (.slice xt ts.length ct)
          have hos := (((hOS6.putBox (o := 1) (u := .slice x6 qs.length c6) hn6 (by decide) (by decide) (by decide)).put (o := 0) (u := .int .i64 vid) hsz3).put (o := 1) (u := .slice x6 qs.length c6) hsz3).put (o := 2) (u := .slice xt ts.length ct) hsz3
          have hor := ((((hO6.low (base' := w5.heap.size) (by simp)).putBox (o := 1) (u := .slice x6 qs.length c6) hn6 (by decide)).put (o := 0) (u := .int .i64 vid) hz5).put (o := 1) (u := .slice x6 qs.length c6) hz5).put (o := 2) (u := .slice xt ts.length ct) hz5
          exact ⟨_, by rw [hE0.out], hfin, fun h => absurd hE0.out h, fun _ => ⟨qs, ts, NV.of hor hos, ⟨i, hi, fun j hj => by have := hlow j hj; omega, hup, hqs.out⟩, hss⟩⟩
  · have hne : growE vid rn rs sn ss r = chkV vid rn rs sn ss ∧ chkV vid rn rs sn ss ≠ 0 := ⟨if_pos hc0, hc0⟩
    go_wp2_with fail
    refine (hck).mono ?_
    rintro e w1 ⟨rfl, hbw1⟩
    have hT1 := hT0.later hbw1
    clear b0 b1 b2 p0 p1 p2 s0 s1 s2 zs0 zs1 zs2
    have b0 : w1.cell? ⟨w.heap.size, 0, none⟩ = some (.int .i64 vid) := (box_cells hT1.hb).1 0
    have b1 : w1.cell? ⟨w.heap.size, 1, none⟩ = some (.slice rx rn rc) := (box_cells hT1.hb).1 1
    have b2 : w1.cell? ⟨w.heap.size, 2, none⟩ = some (.slice sx sn sc) := (box_cells hT1.hb).1 2
    have p0 : w1.cell? ⟨w.heap.size + 1, 0, none⟩ = some (.int .i64 r.a) := (box_cells hT1.hp).1 0
    have p1 : w1.cell? ⟨w.heap.size + 1, 1, none⟩ = some (.int .i64 r.l) := (box_cells hT1.hp).1 1
    have p2 : w1.cell? ⟨w.heap.size + 1, 2, none⟩ = some (.int .i64 r.p) := (box_cells hT1.hp).1 2
    have s0 : w1.cell? ⟨w.heap.size + 2, 0, none⟩ = some (.int .i64 0) := (box_cells hT1.hs).1 0
    have s1 : w1.cell? ⟨w.heap.size + 2, 1, none⟩ = some (.slice none 0 0) := (box_cells hT1.hs).1 1
    have s2 : w1.cell? ⟨w.heap.size + 2, 2, none⟩ = some (.slice none 0 0) := (box_cells hT1.hs).1 2
    have zs0 : w1.frozen? ⟨w.heap.size + 2, 0, none⟩ = false := (box_cells hT1.hs).2 0
    have zs1 : w1.frozen? ⟨w.heap.size + 2, 1, none⟩ = false := (box_cells hT1.hs).2 1
    have zs2 : w1.frozen? ⟨w.heap.size + 2, 2, none⟩ = false := (box_cells hT1.hs).2 2
    go_wp2
    refine bodyPost_ret (v := .tuple #[.agg #[.int .i64 0, .slice none 0 0, .slice none 0 0], .int .i64 (chkV vid rn rs sn ss)]) (by simp [results, Try.results30, go_sem, s0, s1, s2]) rfl ?_
    exact GrowPost.err hne (((hT1.below.setCell (p := ⟨w.heap.size + 2, 0, none⟩) (Nat.le_add_right _ _) _).setCell (p := ⟨w.heap.size + 2, 1, none⟩) (Nat.le_add_right _ _) _).setCell (p := ⟨w.heap.size + 2, 2, none⟩) (Nat.le_add_right _ _) _)
end Go.Proofs.Ytpdhipjeobchfaa
/- IndexFunc over subnets and ranges, however many. -/
namespace Go.Proofs.Ytpdhipjeobchfaa
open Go.RowKit Go.Shelf

set_option maxRecDepth 20000 in
set_option maxHeartbeats 800000 in
theorem indexFuncSb_big (g : Nat) (cap : Array Value) (x : Option Addr) (n c : Nat) (ps : List Sb) (f : Nat → Bool) (w : World) (hp : SS w x n ps) (hn : n ≤ 9223372036854775807) (hF : FnSbAt g cap n ps f w)
    (hg : ∀ args W, (callFunc g args).run Try.prog W = .ok (.enter g args) W) :
    Calls Try.prog 31 #[.slice x n c, .func (.func g) #[] cap] w fun e w' => (∃ r : Int, e = .returned (.int .i64 r) ∧ ((∃ i : Nat, i < n ∧ f i = true ∧ (∀ j, j < i → f j = false) ∧ r = i) ∨ ((∀ j, j < n → f j = false) ∧ r = -1))) ∧ Below w.heap.size w w' := by
  have HF : Hid (FnSbAt g cap n ps f w) := hF
  clear hF
  go_enter Try.func31, Try.ntmps31
  go_wp2
  go_loopw [8] (fun i wr => ∃ k : Nat, k ≤ n ∧ i = .int .i64 k ∧ Below w.heap.size w wr ∧ (∀ j, j < k → f j = false)) (fun i _ => n - (intOf i).toNat)
  case atStart => exact ⟨0, by omega, rfl, Below.refl _ _, fun j hj => by omega⟩
  case round =>
    obtain ⟨k, hk, rfl, hB, hno⟩ := hrel
    by_cases hlt : k < n
    · obtain ⟨b, o, rfl, c0, c1, c2, c3⟩ := hp.cells k hlt
      have d0 := cell_later hB c0
      have d1 := cell_later hB c1
      have d2 := cell_later hB c2
      have d3 := cell_later hB c3
      go_wp2_with fail
      refine (HF.out k hlt _ hB).mono ?_
      rintro e w1 ⟨rfl, hb1⟩
      have hC := hB.trans (hb1.mono hB.size)
      cases hf : f k
      · go_wp2
        go_roundw
        case rel => exact ⟨k + 1, hlt, by go_num, hC, fun j hj => by
          by_cases hj2 : j < k
          · exact hno j hj2
          · obtain rfl : j = k := by omega
            exact hf⟩
        case measure => simp [intOf]; omega
      · go_wp2
        go_ret
        exact ⟨⟨_, rfl, .inl ⟨k, hlt, hf, hno, rfl⟩⟩, hC⟩
    · go_wp2
      go_ret
      exact ⟨⟨_, rfl, .inr ⟨fun j hj => hno j (by omega), rfl⟩⟩, hB⟩
set_option maxRecDepth 20000 in
set_option maxHeartbeats 800000 in
theorem indexFuncRg_big (g : Nat) (cap : Array Value) (x : Option Addr) (n c : Nat) (ps : List Rg) (f : Nat → Bool) (w : World) (hp : RS w x n ps) (hn : n ≤ 9223372036854775807) (hF : FnRgAt g cap n ps f w)
    (hg : ∀ args W, (callFunc g args).run Try.prog W = .ok (.enter g args) W) :
    Calls Try.prog 58 #[.slice x n c, .func (.func g) #[] cap] w fun e w' => (∃ r : Int, e = .returned (.int .i64 r) ∧ ((∃ i : Nat, i < n ∧ f i = true ∧ (∀ j, j < i → f j = false) ∧ r = i) ∨ ((∀ j, j < n → f j = false) ∧ r = -1))) ∧ Below w.heap.size w w' := by
  have HF : Hid (FnRgAt g cap n ps f w) := hF
  clear hF
  go_enter Try.func58, Try.ntmps58
  go_wp2
  go_loopw [8] (fun i wr => ∃ k : Nat, k ≤ n ∧ i = .int .i64 k ∧ Below w.heap.size w wr ∧ (∀ j, j < k → f j = false)) (fun i _ => n - (intOf i).toNat)
  case atStart => exact ⟨0, by omega, rfl, Below.refl _ _, fun j hj => by omega⟩
  case round =>
    obtain ⟨k, hk, rfl, hB, hno⟩ := hrel
    by_cases hlt : k < n
    · obtain ⟨b, o, rfl, c0, c1, c2⟩ := hp.cells k hlt
      have d0 := cell_later hB c0
      have d1 := cell_later hB c1
      have d2 := cell_later hB c2
      go_wp2_with fail
      refine (HF.out k hlt _ hB).mono ?_
      rintro e w1 ⟨rfl, hb1⟩
      have hC := hB.trans (hb1.mono hB.size)
      cases hf : f k
      · go_wp2
        go_roundw
        case rel => exact ⟨k + 1, hlt, by go_num, hC, fun j hj => by
          by_cases hj2 : j < k
          · exact hno j hj2
          · obtain rfl : j = k := by omega
            exact hf⟩
        case measure => simp [intOf]; omega
      · go_wp2
        go_ret
        exact ⟨⟨_, rfl, .inl ⟨k, hlt, hf, hno, rfl⟩⟩, hC⟩
    · go_wp2
      go_ret
      exact ⟨⟨_, rfl, .inr ⟨fun j hj => hno j (by omega), rfl⟩⟩, hB⟩
set_option maxRecDepth 20000 in
set_option maxHeartbeats 800000 in
theorem subPlace_big (vid id : Int) (rx : Option Addr) (rn rc : Nat) (sx : Option Addr) (sn sc : Nat) (ss : List Sb) (w : World) (hp : SS w sx sn ss) (hn : sn ≤ 9223372036854775807) :
    Calls Try.prog 11 #[.agg #[.int .i64 vid, .slice rx rn rc, .slice sx sn sc], .int .i64 id] w fun e w' => e = .returned (.int .i64 (fstAt sn (fun i => (sbAt ss i).id == id))) ∧ Below w.heap.size w w' := by
  go_enter Try.func11, Try.ntmps11
  go_wp2_with fail
  refine (indexFuncSb_big 32 #[.pointer (some ⟨w.heap.size + 1, 0, none⟩)] sx sn sc ss (fun i => (sbAt ss i).id == id) _ (hp.later (bl2 w _ _)) hn (fun i _ W hW => subPlace1_any id (sbAt ss i) (w.heap.size + 1) W (cell_later hW (by simp))) call_subPlace1).mono ?_
  rintro e w1 ⟨⟨r, rfl, hr⟩, hb1⟩
  have hrv := fstAt_of hr
  subst hrv
  clear hr
  go_wp2
  go_ret
  exact ⟨rfl, (bl2 w _ _).trans (hb1.mono (by simp; omega))⟩
theorem subPlace_isbig (vid id : Int) (rx : Option Addr) (rn rc : Nat) (sx : Option Addr) (sn sc : Nat) (ss : List Sb) (t : Int) (h : fstAt sn (fun i => (sbAt ss i).id == id) = t) (w : World) (hp : SS w sx sn ss) (hn : sn ≤ 9223372036854775807) :
    Calls Try.prog 11 #[.agg #[.int .i64 vid, .slice rx rn rc, .slice sx sn sc], .int .i64 id] w fun e w' => e = .returned (.int .i64 t) ∧ Below w.heap.size w w' := by
  subst h
  exact subPlace_big vid id rx rn rc sx sn sc ss w hp hn
end Go.Proofs.Ytpdhipjeobchfaa
/- Sub and Unsub of package vpc. -/
namespace Go.Proofs.Ytpdhipjeobchfaa
open Go.RowKit Go.Shelf

/-- What an operation on a network answers: a network and an error; at an error the zero network. -/
def VPost (E : Int) (R : World → Value → Prop) (w : World) (e : Ending) (w' : World) : Prop :=
  ∃ V, e = .returned (.tuple #[V, .int .i64 E]) ∧ Below w.heap.size w w' ∧ (E ≠ 0 → V = .agg #[.int .i64 0, .slice none 0 0, .slice none 0 0]) ∧ (E = 0 → R w' V)
theorem VPost.err {E E' : Int} {R : World → Value → Prop} {w w' : World} (hE : E = E' ∧ E' ≠ 0) (hb : Below w.heap.size w w') :
    VPost E R w (.returned (.tuple #[.agg #[.int .i64 0, .slice none 0 0, .slice none 0 0], .int .i64 E'])) w' :=
  ⟨_, by rw [hE.1], hb, fun _ => rfl, fun h => absurd (hE.1.symm.trans h) hE.2⟩
theorem VPost.ok {E : Int} {R : World → Value → Prop} {w w' : World} {V : Value} (hE : E = 0) (hb : Below w.heap.size w w') (h : R w' V) :
    VPost E R w (.returned (.tuple #[V, .int .i64 0])) w' :=
  ⟨_, by rw [hE], hb, fun h' => absurd hE h', fun _ => h⟩
/-- The subnet's faces stand in memory. -/
def FcB (w : World) (s : Sb) : Prop := s.n ≤ s.c ∧ s.n ≤ 9223372036854775807 ∧ FcS w s.x s.n s.fs
theorem sbAt_mem {ss : List Sb} {i : Nat} (h : i < ss.length) : sbAt ss i ∈ ss := by
  unfold sbAt
  rw [List.getD_eq_getElem?_getD, List.getElem?_eq_getElem h]
  exact List.getElem_mem h
theorem OSs.all {w : World} {base : Nat} {v : Value} {ss : List Sb} (h : OSs w base v ss ss.length) : ∀ s ∈ ss, FcB w s := fun s hs => by
  obtain ⟨i, hi, rfl⟩ := List.getElem_of_mem hs
  have e : sbAt ss i = ss[i] := by unfold sbAt; rw [List.getD_eq_getElem?_getD, List.getElem?_eq_getElem hi]; rfl
  obtain ⟨g1, g2, g3, g4⟩ := (h.own i hi).fcs
  rw [e] at g1 g3 g4
  exact ⟨g3, Nat.le_trans g3 g4, g1⟩
theorem NV.mk {w : World} {base base' : Nat} {vid : Int} {vR vS : Value} {rs : List Rg} {ss : List Sb} (hR : OwnR w base vR rs) (hS : OwnS w base' vS ss) (hF : ∀ s ∈ ss, FcB w s) : NV w vid (.agg #[.int .i64 vid, vR, vS]) rs ss := by
  obtain ⟨rx, rc, rfl, h1, h2, h3⟩ := hR.rs
  obtain ⟨x, c, rfl, g1, g2, -, g4⟩ := hS.mem
  exact ⟨rx, rc, x, c, rfl, ⟨h2, g1, h1, ⟨rfl, g4, fun i hi => hF _ (sbAt_mem hi)⟩⟩, h3, g2⟩
theorem OwnS.put {w : World} {base b o : Nat} {u v : Value} {ss : List Sb} (h : OwnS w base v ss) (hb : b < base) : OwnS (w.setCell ⟨b, o, none⟩ u) base v ss :=
  h.kept (set_grown _ _ _ _) (fun k hk => by have := h.lt k hk; omega)
theorem OwnS.putBox {w : World} {base b o : Nat} {u v : Value} {ss : List Sb} {cs : Array Value} {t : TypeId} (h : OwnS w base v ss) (hb : w.heap[b]? = some (.cells cs t)) (h1 : t ≠ 42) : OwnS (w.setCell ⟨b, o, none⟩ u) base v ss :=
  h.kept (set_grown _ _ _ _) (fun k hk e => by subst e; exact h.ne hb h1 hk)
/-- The subnet stands ahead of the first one whose Id is greater. -/
def PutSb (e : Sb) (qs rs : List Sb) : Prop := ∃ i, i ≤ qs.length ∧ (∀ j, j < i → ¬ e.id < (sbAt qs j).id) ∧ (i < qs.length → e.id < (sbAt qs i).id) ∧ rs = qs.take i ++ [e] ++ qs.drop i
def subE (vid : Int) (rn : Nat) (rs : List Rg) (sn : Nat) (ss : List Sb) (id c m : Int) : Int :=
  if chkV vid rn rs sn ss ≠ 0 then chkV vid rn rs sn ss else if subB rn rs id c m = false then 3 else if 0 ≤ fstAt sn (fun i => (sbAt ss i).id == id) ∨ anyAt sn (smB ss c m) = true then 6 else if sn = 6 then 2 else 0
def SubR (vid : Int) (rs : List Rg) (ss : List Sb) (id c m : Int) (w : World) (V : Value) : Prop := ∃ ts ss', NV w vid V rs ss' ∧ sameSs ss ts ∧ PutSb ⟨id, c, m, none, 0, 0, []⟩ ts ss'
structure TU (w W : World) (vid : Int) (rx : Option Addr) (rn rc : Nat) (sx : Option Addr) (sn sc : Nat) (c m : Int) : Prop where
  hb : W.heap[w.heap.size]? = some (.cells #[.int .i64 vid, .slice rx rn rc, .slice sx sn sc] 25)
  hp : W.heap[w.heap.size + 1]? = some (.cells #[.int .i64 c, .int .i64 m] 39)
  hs : W.heap[w.heap.size + 2]? = some (.cells #[.int .i64 0, .slice none 0 0, .slice none 0 0] 25)
  below : Below w.heap.size w W
theorem TU.later {w W W' : World} {vid : Int} {rx : Option Addr} {rn rc : Nat} {sx : Option Addr} {sn sc : Nat} {c m : Int} (h : TU w W vid rx rn rc sx sn sc c m) (hb : Below W.heap.size W W') : TU w W' vid rx rn rc sx sn sc c m :=
  ⟨heap_later hb h.hb, heap_later hb h.hp, heap_later hb h.hs, h.below.trans (hb.mono h.below.size)⟩

set_option maxRecDepth 100000 in
set_option maxHeartbeats 3200000 in
theorem vsub_any (vid : Int) (rx : Option Addr) (rn rc : Nat) (rs : List Rg) (sx : Option Addr) (sn sc : Nat) (ss : List Sb) (id c m : Int) (w : World) (hv : Vp w rx rn rc rs sx sn sc ss) (hrn : rn ≤ 9223372036854775807) (hsn : sn ≤ 9223372036854775807) (hrc : rc ≤ 9223372036854775807) :
    Calls Try.prog 29 #[.agg #[.int .i64 vid, .slice rx rn rc, .slice sx sn sc], .int .i64 id, .agg #[.int .i64 c, .int .i64 m]] w (VPost (subE vid rn rs sn ss id c m) (SubR vid rs ss id c m) w) := by
  have hrl : Hid (rs.length = rn) := hv.ranges.len
  have hsl : Hid (ss.length = sn) := hv.subs.len
  go_enter Try.func29, Try.ntmps29
  go_upto_region 1 with fail
  obtain ⟨w0, hw0⟩ : ∃ w0, w0 = ((w.alloc (vpB vid (.slice rx rn rc) (.slice sx sn sc))).alloc (.cells #[.int .i64 c, .int .i64 m] 39)).alloc (vpB 0 (.slice none 0 0) (.slice none 0 0)) := ⟨_, rfl⟩
  rw [← hw0]
  have hT0 : TU w w0 vid rx rn rc sx sn sc c m := by
    rw [hw0]
    exact ⟨heap_old _ (heap_old _ (heap_new _ rfl)), heap_old _ (heap_new _ (by simp)), heap_new _ (by simp), (bl2 w _ _).alloc (by simp; omega) _⟩
  clear hw0
  have b0 : w0.cell? ⟨w.heap.size, 0, none⟩ = some (.int .i64 vid) := (box_cells hT0.hb).1 0
  have b1 : w0.cell? ⟨w.heap.size, 1, none⟩ = some (.slice rx rn rc) := (box_cells hT0.hb).1 1
  have b2 : w0.cell? ⟨w.heap.size, 2, none⟩ = some (.slice sx sn sc) := (box_cells hT0.hb).1 2
  have p0 : w0.cell? ⟨w.heap.size + 1, 0, none⟩ = some (.int .i64 c) := (box_cells hT0.hp).1 0
  have p1 : w0.cell? ⟨w.heap.size + 1, 1, none⟩ = some (.int .i64 m) := (box_cells hT0.hp).1 1
  have s0 : w0.cell? ⟨w.heap.size + 2, 0, none⟩ = some (.int .i64 0) := (box_cells hT0.hs).1 0
  have zs0 : w0.frozen? ⟨w.heap.size + 2, 0, none⟩ = false := (box_cells hT0.hs).2 0
  have s1 : w0.cell? ⟨w.heap.size + 2, 1, none⟩ = some (.slice none 0 0) := (box_cells hT0.hs).1 1
  have zs1 : w0.frozen? ⟨w.heap.size + 2, 1, none⟩ = false := (box_cells hT0.hs).2 1
  have s2 : w0.cell? ⟨w.heap.size + 2, 2, none⟩ = some (.slice none 0 0) := (box_cells hT0.hs).1 2
  have zs2 : w0.frozen? ⟨w.heap.size + 2, 2, none⟩ = false := (box_cells hT0.hs).2 2
  have hck := checkV_any vid rx rn rc rs sx sn sc ss w0 (hv.later hT0.below) hrn hsn hrc
  by_cases hc0 : chkV vid rn rs sn ss = 0
  · rw [hc0] at hck
    obtain ⟨f1, f2, f3, f4⟩ := chkV_few hc0
    have hE1 : Hid (subE vid rn rs sn ss id c m = if subB rn rs id c m = false then 3 else if 0 ≤ fstAt sn (fun i => (sbAt ss i).id == id) ∨ anyAt sn (smB ss c m) = true then 6 else if sn = 6 then 2 else 0) := if_neg (c := chkV vid rn rs sn ss ≠ 0) (by simp [hc0])
    clear hc0
    go_wp2_with fail
    refine (hck).mono ?_
    rintro e w1 ⟨rfl, hbw1⟩
    have hT1 := hT0.later hbw1
    clear b0 b1 b2 p0 p1 s0 zs0 s1 zs1 s2 zs2
    have b0 : w1.cell? ⟨w.heap.size, 0, none⟩ = some (.int .i64 vid) := (box_cells hT1.hb).1 0
    have b1 : w1.cell? ⟨w.heap.size, 1, none⟩ = some (.slice rx rn rc) := (box_cells hT1.hb).1 1
    have b2 : w1.cell? ⟨w.heap.size, 2, none⟩ = some (.slice sx sn sc) := (box_cells hT1.hb).1 2
    have p0 : w1.cell? ⟨w.heap.size + 1, 0, none⟩ = some (.int .i64 c) := (box_cells hT1.hp).1 0
    have p1 : w1.cell? ⟨w.heap.size + 1, 1, none⟩ = some (.int .i64 m) := (box_cells hT1.hp).1 1
    have s0 : w1.cell? ⟨w.heap.size + 2, 0, none⟩ = some (.int .i64 0) := (box_cells hT1.hs).1 0
    have zs0 : w1.frozen? ⟨w.heap.size + 2, 0, none⟩ = false := (box_cells hT1.hs).2 0
    have s1 : w1.cell? ⟨w.heap.size + 2, 1, none⟩ = some (.slice none 0 0) := (box_cells hT1.hs).1 1
    have zs1 : w1.frozen? ⟨w.heap.size + 2, 1, none⟩ = false := (box_cells hT1.hs).2 1
    have s2 : w1.cell? ⟨w.heap.size + 2, 2, none⟩ = some (.slice none 0 0) := (box_cells hT1.hs).1 2
    have zs2 : w1.frozen? ⟨w.heap.size + 2, 2, none⟩ = false := (box_cells hT1.hs).2 2
    have hsr := fun t h => subRight_is vid id c m rx sx rn rc sn sc rs t h w1 (hv.later hT1.below).ranges (by omega)
    cases hrg : subB rn rs id c m with
    | false =>
      have hne : subE vid rn rs sn ss id c m = 3 ∧ (3 : Int) ≠ 0 := ⟨hE1.out.trans (if_pos hrg), by decide⟩
      go_wp2_with fail
      refine (hsr _ hrg).mono ?_
      rintro e w2 ⟨rfl, hbw2⟩
      have hT2 := hT1.later hbw2
      clear b0 b1 b2 p0 p1 s0 zs0 s1 zs1 s2 zs2
      have b0 : w2.cell? ⟨w.heap.size, 0, none⟩ = some (.int .i64 vid) := (box_cells hT2.hb).1 0
      have b1 : w2.cell? ⟨w.heap.size, 1, none⟩ = some (.slice rx rn rc) := (box_cells hT2.hb).1 1
      have b2 : w2.cell? ⟨w.heap.size, 2, none⟩ = some (.slice sx sn sc) := (box_cells hT2.hb).1 2
      have p0 : w2.cell? ⟨w.heap.size + 1, 0, none⟩ = some (.int .i64 c) := (box_cells hT2.hp).1 0
      have p1 : w2.cell? ⟨w.heap.size + 1, 1, none⟩ = some (.int .i64 m) := (box_cells hT2.hp).1 1
      have s0 : w2.cell? ⟨w.heap.size + 2, 0, none⟩ = some (.int .i64 0) := (box_cells hT2.hs).1 0
      have zs0 : w2.frozen? ⟨w.heap.size + 2, 0, none⟩ = false := (box_cells hT2.hs).2 0
      have s1 : w2.cell? ⟨w.heap.size + 2, 1, none⟩ = some (.slice none 0 0) := (box_cells hT2.hs).1 1
      have zs1 : w2.frozen? ⟨w.heap.size + 2, 1, none⟩ = false := (box_cells hT2.hs).2 1
      have s2 : w2.cell? ⟨w.heap.size + 2, 2, none⟩ = some (.slice none 0 0) := (box_cells hT2.hs).1 2
      have zs2 : w2.frozen? ⟨w.heap.size + 2, 2, none⟩ = false := (box_cells hT2.hs).2 2
      go_wp2
      refine bodyPost_ret (v := .tuple #[.agg #[.int .i64 0, .slice none 0 0, .slice none 0 0], .int .i64 3]) (by simp [results, Try.results29, go_sem, s0, s1, s2]) rfl ?_
      exact VPost.err hne (((hT2.below.setCell (p := ⟨w.heap.size + 2, 0, none⟩) (Nat.le_add_right _ _) _).setCell (p := ⟨w.heap.size + 2, 1, none⟩) (Nat.le_add_right _ _) _).setCell (p := ⟨w.heap.size + 2, 2, none⟩) (Nat.le_add_right _ _) _)
    | true =>
      have hE2 : Hid (subE vid rn rs sn ss id c m = if 0 ≤ fstAt sn (fun i => (sbAt ss i).id == id) ∨ anyAt sn (smB ss c m) = true then 6 else if sn = 6 then 2 else 0) := hE1.out.trans (if_neg (by simp [hrg]))
      go_wp2_with fail
      refine (hsr _ hrg).mono ?_
      rintro e w2 ⟨rfl, hbw2⟩
      have hT2 := hT1.later hbw2
      clear b0 b1 b2 p0 p1 s0 zs0 s1 zs1 s2 zs2
      have b0 : w2.cell? ⟨w.heap.size, 0, none⟩ = some (.int .i64 vid) := (box_cells hT2.hb).1 0
      have b1 : w2.cell? ⟨w.heap.size, 1, none⟩ = some (.slice rx rn rc) := (box_cells hT2.hb).1 1
      have b2 : w2.cell? ⟨w.heap.size, 2, none⟩ = some (.slice sx sn sc) := (box_cells hT2.hb).1 2
      have p0 : w2.cell? ⟨w.heap.size + 1, 0, none⟩ = some (.int .i64 c) := (box_cells hT2.hp).1 0
      have p1 : w2.cell? ⟨w.heap.size + 1, 1, none⟩ = some (.int .i64 m) := (box_cells hT2.hp).1 1
      have s0 : w2.cell? ⟨w.heap.size + 2, 0, none⟩ = some (.int .i64 0) := (box_cells hT2.hs).1 0
      have zs0 : w2.frozen? ⟨w.heap.size + 2, 0, none⟩ = false := (box_cells hT2.hs).2 0
      have s1 : w2.cell? ⟨w.heap.size + 2, 1, none⟩ = some (.slice none 0 0) := (box_cells hT2.hs).1 1
      have zs1 : w2.frozen? ⟨w.heap.size + 2, 1, none⟩ = false := (box_cells hT2.hs).2 1
      have s2 : w2.cell? ⟨w.heap.size + 2, 2, none⟩ = some (.slice none 0 0) := (box_cells hT2.hs).1 2
      have zs2 : w2.frozen? ⟨w.heap.size + 2, 2, none⟩ = false := (box_cells hT2.hs).2 2
      have hsp := subPlace_any vid id rx rn rc sx sn sc ss w2 (hv.later hT2.below).subs (by omega)
      generalize hfp : fstAt sn (fun i => (sbAt ss i).id == id) = fp at hsp hE2
      by_cases hge : 0 ≤ fp
      · have hne : subE vid rn rs sn ss id c m = 6 ∧ (6 : Int) ≠ 0 := ⟨hE2.out.trans (if_pos (.inl hge)), by decide⟩
        go_wp2_with fail
        refine (hsp).mono ?_
        rintro e w3 ⟨rfl, hbw3⟩
        have hT3 := hT2.later hbw3
        clear b0 b1 b2 p0 p1 s0 zs0 s1 zs1 s2 zs2
        have b0 : w3.cell? ⟨w.heap.size, 0, none⟩ = some (.int .i64 vid) := (box_cells hT3.hb).1 0
        have b1 : w3.cell? ⟨w.heap.size, 1, none⟩ = some (.slice rx rn rc) := (box_cells hT3.hb).1 1
        have b2 : w3.cell? ⟨w.heap.size, 2, none⟩ = some (.slice sx sn sc) := (box_cells hT3.hb).1 2
        have p0 : w3.cell? ⟨w.heap.size + 1, 0, none⟩ = some (.int .i64 c) := (box_cells hT3.hp).1 0
        have p1 : w3.cell? ⟨w.heap.size + 1, 1, none⟩ = some (.int .i64 m) := (box_cells hT3.hp).1 1
        have s0 : w3.cell? ⟨w.heap.size + 2, 0, none⟩ = some (.int .i64 0) := (box_cells hT3.hs).1 0
        have zs0 : w3.frozen? ⟨w.heap.size + 2, 0, none⟩ = false := (box_cells hT3.hs).2 0
        have s1 : w3.cell? ⟨w.heap.size + 2, 1, none⟩ = some (.slice none 0 0) := (box_cells hT3.hs).1 1
        have zs1 : w3.frozen? ⟨w.heap.size + 2, 1, none⟩ = false := (box_cells hT3.hs).2 1
        have s2 : w3.cell? ⟨w.heap.size + 2, 2, none⟩ = some (.slice none 0 0) := (box_cells hT3.hs).1 2
        have zs2 : w3.frozen? ⟨w.heap.size + 2, 2, none⟩ = false := (box_cells hT3.hs).2 2
        go_wp2
        refine bodyPost_ret (v := .tuple #[.agg #[.int .i64 0, .slice none 0 0, .slice none 0 0], .int .i64 6]) (by simp [results, Try.results29, go_sem, s0, s1, s2]) rfl ?_
        exact VPost.err hne (((hT3.below.setCell (p := ⟨w.heap.size + 2, 0, none⟩) (Nat.le_add_right _ _) _).setCell (p := ⟨w.heap.size + 2, 1, none⟩) (Nat.le_add_right _ _) _).setCell (p := ⟨w.heap.size + 2, 2, none⟩) (Nat.le_add_right _ _) _)
      · go_wp2_with fail
        refine (hsp).mono ?_
        rintro e w3 ⟨rfl, hbw3⟩
        have hT3 := hT2.later hbw3
        clear b0 b1 b2 p0 p1 s0 zs0 s1 zs1 s2 zs2
        have b0 : w3.cell? ⟨w.heap.size, 0, none⟩ = some (.int .i64 vid) := (box_cells hT3.hb).1 0
        have b1 : w3.cell? ⟨w.heap.size, 1, none⟩ = some (.slice rx rn rc) := (box_cells hT3.hb).1 1
        have b2 : w3.cell? ⟨w.heap.size, 2, none⟩ = some (.slice sx sn sc) := (box_cells hT3.hb).1 2
        have p0 : w3.cell? ⟨w.heap.size + 1, 0, none⟩ = some (.int .i64 c) := (box_cells hT3.hp).1 0
        have p1 : w3.cell? ⟨w.heap.size + 1, 1, none⟩ = some (.int .i64 m) := (box_cells hT3.hp).1 1
        have s0 : w3.cell? ⟨w.heap.size + 2, 0, none⟩ = some (.int .i64 0) := (box_cells hT3.hs).1 0
        have zs0 : w3.frozen? ⟨w.heap.size + 2, 0, none⟩ = false := (box_cells hT3.hs).2 0
        have s1 : w3.cell? ⟨w.heap.size + 2, 1, none⟩ = some (.slice none 0 0) := (box_cells hT3.hs).1 1
        have zs1 : w3.frozen? ⟨w.heap.size + 2, 1, none⟩ = false := (box_cells hT3.hs).2 1
        have s2 : w3.cell? ⟨w.heap.size + 2, 2, none⟩ = some (.slice none 0 0) := (box_cells hT3.hs).1 2
        have zs2 : w3.frozen? ⟨w.heap.size + 2, 2, none⟩ = false := (box_cells hT3.hs).2 2
        have hmt := meetsSub_any c m sx sn sc ss w3 (hv.later hT3.below).subs (by omega)
        cases hany : anyAt sn (smB ss c m) with
        | true =>
          rw [hany] at hmt
          have hne : subE vid rn rs sn ss id c m = 6 ∧ (6 : Int) ≠ 0 := ⟨hE2.out.trans (if_pos (.inr hany)), by decide⟩
          go_wp2_with fail
          refine (hmt).mono ?_
          rintro e w4 ⟨rfl, hbw4⟩
          have hT4 := hT3.later hbw4
          clear b0 b1 b2 p0 p1 s0 zs0 s1 zs1 s2 zs2
          have b0 : w4.cell? ⟨w.heap.size, 0, none⟩ = some (.int .i64 vid) := (box_cells hT4.hb).1 0
          have b1 : w4.cell? ⟨w.heap.size, 1, none⟩ = some (.slice rx rn rc) := (box_cells hT4.hb).1 1
          have b2 : w4.cell? ⟨w.heap.size, 2, none⟩ = some (.slice sx sn sc) := (box_cells hT4.hb).1 2
          have p0 : w4.cell? ⟨w.heap.size + 1, 0, none⟩ = some (.int .i64 c) := (box_cells hT4.hp).1 0
          have p1 : w4.cell? ⟨w.heap.size + 1, 1, none⟩ = some (.int .i64 m) := (box_cells hT4.hp).1 1
          have s0 : w4.cell? ⟨w.heap.size + 2, 0, none⟩ = some (.int .i64 0) := (box_cells hT4.hs).1 0
          have zs0 : w4.frozen? ⟨w.heap.size + 2, 0, none⟩ = false := (box_cells hT4.hs).2 0
          have s1 : w4.cell? ⟨w.heap.size + 2, 1, none⟩ = some (.slice none 0 0) := (box_cells hT4.hs).1 1
          have zs1 : w4.frozen? ⟨w.heap.size + 2, 1, none⟩ = false := (box_cells hT4.hs).2 1
          have s2 : w4.cell? ⟨w.heap.size + 2, 2, none⟩ = some (.slice none 0 0) := (box_cells hT4.hs).1 2
          have zs2 : w4.frozen? ⟨w.heap.size + 2, 2, none⟩ = false := (box_cells hT4.hs).2 2
          go_wp2
          refine bodyPost_ret (v := .tuple #[.agg #[.int .i64 0, .slice none 0 0, .slice none 0 0], .int .i64 6]) (by simp [results, Try.results29, go_sem, s0, s1, s2]) rfl ?_
          exact VPost.err hne (((hT4.below.setCell (p := ⟨w.heap.size + 2, 0, none⟩) (Nat.le_add_right _ _) _).setCell (p := ⟨w.heap.size + 2, 1, none⟩) (Nat.le_add_right _ _) _).setCell (p := ⟨w.heap.size + 2, 2, none⟩) (Nat.le_add_right _ _) _)
        | false =>
          rw [hany] at hmt
          have hE3 : Hid (subE vid rn rs sn ss id c m = if sn = 6 then 2 else 0) := hE2.out.trans (if_neg (by rw [hany]; simp; omega))
          by_cases h6 : sn = 6
          · subst h6
            have hne : subE vid rn rs 6 ss id c m = 2 ∧ (2 : Int) ≠ 0 := ⟨hE3.out.trans (if_pos rfl), by decide⟩
            go_wp2_with fail
            refine (hmt).mono ?_
            rintro e w4 ⟨rfl, hbw4⟩
            have hT4 := hT3.later hbw4
            clear b0 b1 b2 p0 p1 s0 zs0 s1 zs1 s2 zs2
            have b0 : w4.cell? ⟨w.heap.size, 0, none⟩ = some (.int .i64 vid) := (box_cells hT4.hb).1 0
            have b1 : w4.cell? ⟨w.heap.size, 1, none⟩ = some (.slice rx rn rc) := (box_cells hT4.hb).1 1
            have b2 : w4.cell? ⟨w.heap.size, 2, none⟩ = some (.slice sx 6 sc) := (box_cells hT4.hb).1 2
            have p0 : w4.cell? ⟨w.heap.size + 1, 0, none⟩ = some (.int .i64 c) := (box_cells hT4.hp).1 0
            have p1 : w4.cell? ⟨w.heap.size + 1, 1, none⟩ = some (.int .i64 m) := (box_cells hT4.hp).1 1
            have s0 : w4.cell? ⟨w.heap.size + 2, 0, none⟩ = some (.int .i64 0) := (box_cells hT4.hs).1 0
            have zs0 : w4.frozen? ⟨w.heap.size + 2, 0, none⟩ = false := (box_cells hT4.hs).2 0
            have s1 : w4.cell? ⟨w.heap.size + 2, 1, none⟩ = some (.slice none 0 0) := (box_cells hT4.hs).1 1
            have zs1 : w4.frozen? ⟨w.heap.size + 2, 1, none⟩ = false := (box_cells hT4.hs).2 1
            have s2 : w4.cell? ⟨w.heap.size + 2, 2, none⟩ = some (.slice none 0 0) := (box_cells hT4.hs).1 2
            have zs2 : w4.frozen? ⟨w.heap.size + 2, 2, none⟩ = false := (box_cells hT4.hs).2 2
            go_wp2
            refine bodyPost_ret (v := .tuple #[.agg #[.int .i64 0, .slice none 0 0, .slice none 0 0], .int .i64 2]) (by simp [results, Try.results29, go_sem, s0, s1, s2]) rfl ?_
            exact VPost.err hne (((hT4.below.setCell (p := ⟨w.heap.size + 2, 0, none⟩) (Nat.le_add_right _ _) _).setCell (p := ⟨w.heap.size + 2, 1, none⟩) (Nat.le_add_right _ _) _).setCell (p := ⟨w.heap.size + 2, 2, none⟩) (Nat.le_add_right _ _) _)
          · have hE0 : Hid (subE vid rn rs sn ss id c m = 0) := hE3.out.trans (if_neg h6)
            have hv3 := fun W (hW : Below w.heap.size w W) => freshVpc_any vid rx rn rc rs sx sn sc ss W (hv.later hW) (by omega) (by omega) (fun i hi => by have := f3 i hi; omega) (fun i hi j hj => by have := f4 i hi j hj; omega)
            go_wp2_with fail
            refine (hmt).mono ?_
            rintro e w4 ⟨rfl, hbw4⟩
            have hT4 := hT3.later hbw4
            clear b0 b1 b2 p0 p1 s0 zs0 s1 zs1 s2 zs2
            have b0 : w4.cell? ⟨w.heap.size, 0, none⟩ = some (.int .i64 vid) := (box_cells hT4.hb).1 0
            have b1 : w4.cell? ⟨w.heap.size, 1, none⟩ = some (.slice rx rn rc) := (box_cells hT4.hb).1 1
            have b2 : w4.cell? ⟨w.heap.size, 2, none⟩ = some (.slice sx sn sc) := (box_cells hT4.hb).1 2
            have p0 : w4.cell? ⟨w.heap.size + 1, 0, none⟩ = some (.int .i64 c) := (box_cells hT4.hp).1 0
            have p1 : w4.cell? ⟨w.heap.size + 1, 1, none⟩ = some (.int .i64 m) := (box_cells hT4.hp).1 1
            have s0 : w4.cell? ⟨w.heap.size + 2, 0, none⟩ = some (.int .i64 0) := (box_cells hT4.hs).1 0
            have zs0 : w4.frozen? ⟨w.heap.size + 2, 0, none⟩ = false := (box_cells hT4.hs).2 0
            have s1 : w4.cell? ⟨w.heap.size + 2, 1, none⟩ = some (.slice none 0 0) := (box_cells hT4.hs).1 1
            have zs1 : w4.frozen? ⟨w.heap.size + 2, 1, none⟩ = false := (box_cells hT4.hs).2 1
            have s2 : w4.cell? ⟨w.heap.size + 2, 2, none⟩ = some (.slice none 0 0) := (box_cells hT4.hs).1 2
            have zs2 : w4.frozen? ⟨w.heap.size + 2, 2, none⟩ = false := (box_cells hT4.hs).2 2
            go_wp2_with fail
            refine (hv3 _ hT4.below).mono ?_
            rintro e w5 ⟨vR, vS, ts, rfl, hOR, hss, hOS, hb5⟩
            have hT5 := hT4.later hb5
            obtain ⟨xr, cr, rfl, -⟩ := hOR.rs
            obtain ⟨xt, ct, rfl, ht1, ht2, ht3⟩ := hOS.subs
            have htl : Hid (ts.length = sn) := by unfold Hid; rw [← hss.1]; exact hsl.out
            have hxt : (xt = none ∧ ct = 0) ∨ ∃ b o, xt = some ⟨b, o, none⟩ := by
              rcases hOS.row.2 with ⟨hv', -⟩ | ⟨g2, cap2, cur2, hv', -⟩
              · simp only [Value.slice.injEq] at hv'; exact .inl ⟨hv'.1, hv'.2.2⟩
              · simp only [Value.slice.injEq] at hv'; exact .inr ⟨_, _, hv'.1⟩
            clear b0 b1 b2 p0 p1 s0 zs0 s1 zs1 s2 zs2
            go_upto_region 12 with fail
            obtain ⟨w6, hw6⟩ : ∃ w6, w6 = w5.alloc (vpB vid (.slice xr rs.length cr) (.slice xt ts.length ct)) := ⟨_, rfl⟩
            rw [← hw6]
            have hb56 : Below w5.heap.size w5 w6 := by rw [hw6]; exact bl1 _ _
            have hn6 : w6.heap[w5.heap.size]? = some (vpB vid (.slice xr rs.length cr) (.slice xt ts.length ct)) := by rw [hw6]; exact heap_new _ rfl
            clear hw6
            have hT6 := hT5.later hb56
            have n2 : w6.cell? ⟨w5.heap.size, 2, none⟩ = some (.slice xt ts.length ct) := (box_cells hn6).1 2
            have n2' : ∀ o, (w6.alloc o).cell? ⟨w5.heap.size, 2, none⟩ = some (.slice xt ts.length ct) := fun o => cell_later_add (bl1 w6 o) n2
            have p0 : w6.cell? ⟨w.heap.size + 1, 0, none⟩ = some (.int .i64 c) := (box_cells hT6.hp).1 0
            have p1 : w6.cell? ⟨w.heap.size + 1, 1, none⟩ = some (.int .i64 m) := (box_cells hT6.hp).1 1
            have p0' : ∀ o, (w6.alloc o).cell? ⟨w.heap.size + 1, 0, none⟩ = some (.int .i64 c) := fun o => cell_later_add (bl1 w6 o) p0
            have p1' : ∀ o, (w6.alloc o).cell? ⟨w.heap.size + 1, 1, none⟩ = some (.int .i64 m) := fun o => cell_later_add (bl1 w6 o) p1
            have hput := fun W (hW : Below w6.heap.size w6 W) hby => putS_any ⟨id, c, m, none, 0, 0, []⟩ xt ts.length ct ts w6.heap.size 1 W ((ht1.later hb56).later hW) (by rw [htl.out]; omega) ht2 ht3 hxt hby
            go_wp2_with fail
            refine (hput _ (bl1 w6 _) (by simp)).mono ?_
            rintro e w7 ⟨v7, rfl, hb7, i, hi, hlow, hup, hO7⟩
            obtain ⟨qs, hqs⟩ : ∃ qs, Hid (qs = ts.take i ++ [(⟨id, c, m, none, 0, 0, []⟩ : Sb)] ++ ts.drop i) := ⟨_, rfl⟩
            rw [← hqs.out] at hO7
            obtain ⟨x7, c7, rfl, -⟩ := hO7.mem
            have hb67 : Below w6.heap.size w6 w7 := (bl1 w6 _).trans (hb7.mono (by simp))
            have hT7 := hT6.later hb67
            have hn7 := heap_later hb67 hn6
            have hOS7 := OSs.later (OSs.later hOS hb56) hb67
            have hOR7 := OwnR.later (OwnR.later hOR hb56) hb67
            clear n2 n2' p0 p1 p0' p1'
            have hsz4 : w.heap.size + 2 < w4.heap.size := (Array.getElem?_eq_some_iff.1 hT4.hs).1
            have hz5 : w.heap.size + 2 < w5.heap.size := Nat.lt_of_lt_of_le hsz4 hb5.size
            have hz6 : w.heap.size + 2 < w6.heap.size := Nat.lt_of_lt_of_le hz5 hb56.size
            have m0 : w7.cell? ⟨w5.heap.size, 0, none⟩ = some (.int .i64 vid) := (box_cells hn7).1 0
            have m1 : w7.cell? ⟨w5.heap.size, 1, none⟩ = some (.slice xr rs.length cr) := (box_cells hn7).1 1
            have m2 : w7.cell? ⟨w5.heap.size, 2, none⟩ = some (.slice xt ts.length ct) := (box_cells hn7).1 2
            have zm : w7.frozen? ⟨w5.heap.size, 2, none⟩ = false := (box_cells hn7).2 2
            have s0 : w7.cell? ⟨w.heap.size + 2, 0, none⟩ = some (.int .i64 0) := (box_cells hT7.hs).1 0
            have s1 : w7.cell? ⟨w.heap.size + 2, 1, none⟩ = some (.slice none 0 0) := (box_cells hT7.hs).1 1
            have s2 : w7.cell? ⟨w.heap.size + 2, 2, none⟩ = some (.slice none 0 0) := (box_cells hT7.hs).1 2
            have zs0 : w7.frozen? ⟨w.heap.size + 2, 0, none⟩ = false := (box_cells hT7.hs).2 0
            have zs1 : w7.frozen? ⟨w.heap.size + 2, 1, none⟩ = false := (box_cells hT7.hs).2 1
            have zs2 : w7.frozen? ⟨w.heap.size + 2, 2, none⟩ = false := (box_cells hT7.hs).2 2
            have ne1 : ¬ w5.heap.size = w.heap.size + 2 := by omega
            have ne2 : ¬ w.heap.size + 2 = w5.heap.size := by omega
            go_wp2
            refine bodyPost_ret (v := .tuple #[.agg #[.int .i64 vid, .slice xr rs.length cr, .slice x7 qs.length c7], .int .i64 0]) (by simp [results, Try.results29, go_sem, s0, s1, s2]) rfl ?_
            have hfin := (((hT7.below.setCell (p := ⟨w5.heap.size, 2, none⟩) (by show w.heap.size ≤ w5.heap.size; omega) (.slice x7 qs.length c7)).setCell (p := ⟨w.heap.size + 2, 0, none⟩) (Nat.le_add_right _ _) (.int .i64 vid)).setCell (p := ⟨w.heap.size + 2, 1, none⟩) (Nat.le_add_right _ _) (.slice xr rs.length cr)).setCell (p := ⟨w.heap.size + 2, 2, none⟩) (Nat.le_add_right _ _) (.slice x7 qs.length c7)
            have hos := (((hOS7.putBox (o := 2) (u := .slice x7 qs.length c7) hn7 (by decide) (by decide) (by decide)).put (o := 0) (u := .int .i64 vid) hsz4).put (o := 1) (u := .slice xr rs.length cr) hsz4).put (o := 2) (u := .slice x7 qs.length c7) hsz4
            have hor := (((hOR7.putBox (o := 2) (u := .slice x7 qs.length c7) hn7 (by decide)).put (o := 0) (u := .int .i64 vid) hsz4).put (o := 1) (u := .slice xr rs.length cr) hsz4).put (o := 2) (u := .slice x7 qs.length c7) hsz4
            have hoq := ((((hO7.low (base' := w6.heap.size) (by simp)).putBox (o := 2) (u := .slice x7 qs.length c7) hn7 (by decide)).put (o := 0) (u := .int .i64 vid) hz6).put (o := 1) (u := .slice xr rs.length cr) hz6).put (o := 2) (u := .slice x7 qs.length c7) hz6
            refine VPost.ok hE0.out hfin ⟨ts, qs, NV.mk hor hoq (fun s hs => ?_), hss, ⟨i, hi, fun j hj => by have := hlow j hj; simpa using this, hup, hqs.out⟩⟩
            rw [hqs.out] at hs
            simp only [List.mem_append, List.mem_singleton] at hs
            rcases hs with (hs | rfl) | hs
            · exact hos.all s (List.mem_of_mem_take hs)
            · exact ⟨Nat.le_refl _, by simp, ⟨rfl, fun i hi => absurd hi (Nat.not_lt_zero _), fun i hi => absurd hi (Nat.not_lt_zero _)⟩⟩
            · exact hos.all s (List.mem_of_mem_drop hs)
  · have hne : subE vid rn rs sn ss id c m = chkV vid rn rs sn ss ∧ chkV vid rn rs sn ss ≠ 0 := ⟨if_pos hc0, hc0⟩
    go_wp2_with fail
    refine (hck).mono ?_
    rintro e w1 ⟨rfl, hbw1⟩
    have hT1 := hT0.later hbw1
    clear b0 b1 b2 p0 p1 s0 zs0 s1 zs1 s2 zs2
    have b0 : w1.cell? ⟨w.heap.size, 0, none⟩ = some (.int .i64 vid) := (box_cells hT1.hb).1 0
    have b1 : w1.cell? ⟨w.heap.size, 1, none⟩ = some (.slice rx rn rc) := (box_cells hT1.hb).1 1
    have b2 : w1.cell? ⟨w.heap.size, 2, none⟩ = some (.slice sx sn sc) := (box_cells hT1.hb).1 2
    have p0 : w1.cell? ⟨w.heap.size + 1, 0, none⟩ = some (.int .i64 c) := (box_cells hT1.hp).1 0
    have p1 : w1.cell? ⟨w.heap.size + 1, 1, none⟩ = some (.int .i64 m) := (box_cells hT1.hp).1 1
    have s0 : w1.cell? ⟨w.heap.size + 2, 0, none⟩ = some (.int .i64 0) := (box_cells hT1.hs).1 0
    have zs0 : w1.frozen? ⟨w.heap.size + 2, 0, none⟩ = false := (box_cells hT1.hs).2 0
    have s1 : w1.cell? ⟨w.heap.size + 2, 1, none⟩ = some (.slice none 0 0) := (box_cells hT1.hs).1 1
    have zs1 : w1.frozen? ⟨w.heap.size + 2, 1, none⟩ = false := (box_cells hT1.hs).2 1
    have s2 : w1.cell? ⟨w.heap.size + 2, 2, none⟩ = some (.slice none 0 0) := (box_cells hT1.hs).1 2
    have zs2 : w1.frozen? ⟨w.heap.size + 2, 2, none⟩ = false := (box_cells hT1.hs).2 2
    go_wp2
    refine bodyPost_ret (v := .tuple #[.agg #[.int .i64 0, .slice none 0 0, .slice none 0 0], .int .i64 (chkV vid rn rs sn ss)]) (by simp [results, Try.results29, go_sem, s0, s1, s2]) rfl ?_
    exact VPost.err hne (((hT1.below.setCell (p := ⟨w.heap.size + 2, 0, none⟩) (Nat.le_add_right _ _) _).setCell (p := ⟨w.heap.size + 2, 1, none⟩) (Nat.le_add_right _ _) _).setCell (p := ⟨w.heap.size + 2, 2, none⟩) (Nat.le_add_right _ _) _)
end Go.Proofs.Ytpdhipjeobchfaa
