/- A law of my own: a region that draws its order, whose head reads and makes memory above a mark, and whose tail waits for all of the head. -/
import Derived.Test.YtlalgkjollgcbaaGreatMN11
import Derived.StillTail
namespace Go.Proofs.YtlalgkjollgcbaaGreat
open Go.RowKit

/-- The head's orders: so many operations, all of the first n, each quiet; then L. -/
def headQ (P : Program) (md : Region.Mode) (ops : Array Oper) (C : World → Prop) (n : Nat) (L : Array Bool → Act → Prop) : Nat → Array Bool → Act → Prop
  | 0, listed, a => L listed a
  | f + 1, listed, a => Region.ready md ops listed ≠ [] ∧ ∀ i ∈ Region.ready md ops listed, i < n ∧ qOp P ops C i (headQ P md ops C n L f (listed.setIfInBounds i true)) a
theorem headQ_sound {P : Program} {md : Region.Mode} {ops : Array Oper} {C : World → Prop} {n g : Nat} {L : Array Bool → Act → Prop} {Q : Exit → Act → World → Prop} (hL : ∀ listed a w, C w → L listed a → wpAny P md ops Q g listed a w) (f : Nat) :
    ∀ (listed : Array Bool) (a : Act) (w : World), C w → headQ P md ops C n L f listed a → wpAny P md ops Q (f + g) listed a w := by
  induction f with
  | zero => intro listed a w hw h; rw [Nat.zero_add]; exact hL _ _ _ hw h
  | succ f ih =>
    intro listed a w hw h
    rw [Nat.succ_add]
    refine ⟨fun h0 => absurd h0 h.1, fun i hi => ?_⟩
    exact wpOp_of_qOp hw (fun a' w' hw' h' => ih _ a' w' hw' h') (h.2 i hi).2
/-- What may come up now, and yields in every world of the class, may be taken first. -/
theorem headQ_first {P : Program} {md : Region.Mode} {ops : Array Oper} {C : World → Prop} {n i : Nat} {oi : Oper} {v : Value} {L : Array Bool → Act → Prop} (hi : ops[i]? = some oi) (hsel : ∀ (j : Nat) (o : Oper) cs b, ops[j]? = some o → o.op ≠ .select cs b)
    (hs : Region.sinkB md ops n = true) (hc : Region.chainB md ops n = true) (hn : n < ops.size) (hin : i < n) (hL : ∀ listed a, L listed a → ∀ j ∈ Region.ready md ops listed, n ≤ j) (f : Nat) :
    ∀ (listed : Array Bool) (a : Act), HeadInv md ops n listed → (∀ j oj, ops[j]? = some oj → j ≠ i → listed.getD j true = false → (∀ e ∈ oj.after, Region.binds md e = true → e.on ≠ i) → oi.apart ops oj = true) →
      i ∈ Region.ready md ops listed → YieldsIn P ops C oi v a → headQ P md ops C n L f (listed.setIfInBounds i true) (a.put oi.dst v) → headQ P md ops C n L (f + 1) listed a := by
  induction f with
  | zero =>
    intro listed a inv hfree hr hy H
    refine ⟨List.ne_nil_of_mem hr, fun j hj => ?_⟩
    have hjn : j < n := Nat.lt_of_not_le fun h => tail_waits hs hc hn inv _ i rfl hin (mem_ready.1 hr).1 j h hj
    refine ⟨hjn, ?_⟩
    by_cases e : j = i
    · subst e; exact hy.qOp hi H
    · exact absurd (hL _ _ H j (ready_mono hj e)) (by omega)
  | succ f ih =>
    intro listed a inv hfree hr hy H
    refine ⟨List.ne_nil_of_mem hr, fun j hj => ?_⟩
    have hjn : j < n := Nat.lt_of_not_le fun h => tail_waits hs hc hn inv _ i rfl hin (mem_ready.1 hr).1 j h hj
    refine ⟨hjn, ?_⟩
    by_cases e : j = i
    · subst e; exact hy.qOp hi H
    obtain ⟨hun, oj, hoj, hall⟩ := mem_ready.1 hj
    have hno : ∀ x ∈ oj.after, Region.binds md x = true → x.on ≠ i := fun x hx hb he => by
      have h1 := hall x hx hb
      rw [he, getD_both (mem_ready.1 hr).1] at h1
      cases h1
    have h2 := qOp_put hoj (hfree j oj hoj e hun hno) (fun cs b => hsel i oi cs b hi) (fun cs b => hsel j oj cs b hoj) hy (H.2 j (ready_mono hj e)).2
    refine qOp_mono (fun a' h3 => ih _ a' (inv.set hj hjn) (fun k ok hk hki hku => ?_) (ready_mono hr (Ne.symm e)) h3.1 ?_) h2
    · refine hfree k ok hk hki ?_
      by_cases hjk : j = k
      · subst hjk; exact hun
      · rw [getD_set_ne true hjk] at hku; exact hku
    · rw [Array.setIfInBounds_comm _ _ e]
      exact h3.2
theorem headQ_lex {P : Program} {md : Region.Mode} {ops : Array Oper} {C : World → Prop} {n g : Nat} {K : Act → Prop} (hsel : Region.noSelect ops = true) (hs : Region.sinkB md ops n = true) (hc : Region.chainB md ops n = true) (hn : n < ops.size) (l : List Oper) :
    ∀ (k : Nat) (listed : Array Bool) (a : Act), (∀ j, j < l.length → l[j]? = ops[k + j]?) → k + l.length = n → HeadInv md ops n listed → Region.lexHead md ops g l.length k listed = true → wpQuiet P ops C K l a →
      headQ P md ops C n (fun listed' a' => Region.seqB md ops g n listed' = true ∧ K a') l.length listed a := by
  induction l with
  | nil =>
    intro k listed a _ hk _ hB h
    obtain rfl : k = n := by simpa using hk
    exact ⟨by simpa [Region.lexHead] using hB, h⟩
  | cons o l ih =>
    intro k listed a hl hk inv hB h
    have h0 : ops[k]? = some o := by simpa using (hl 0 (by simp)).symm
    simp only [List.length_cons, Region.lexHead, Bool.and_eq_true] at hB
    have hkn : k < n := by simp only [List.length_cons] at hk; omega
    have hr : k ∈ Region.ready md ops listed := by simpa using hB.1.1
    have hq : qOp P ops C k (wpQuiet P ops C K l) a := by unfold qOp; simp only [h0]; exact h
    obtain ⟨v, hy, hK⟩ := yieldsIn_of_qOp h0 hq
    refine headQ_first h0 (Region.noSelect_spec hsel) hs hc hn hkn (fun _ _ hL => seqB_ready hL.1) l.length listed a inv (Region.free_spec h0 hB.1.2) hr hy ?_
    exact ih (k + 1) _ _ (fun j hj => by have := hl (j + 1) (by simp; omega); simpa [Nat.add_assoc, Nat.add_comm 1 j] using this) (by simp only [List.length_cons] at hk; omega) (inv.set hr hkn) hB.2 hK
theorem wp_region_tail {P : Program} {id : Nat} {Q : Exit → Act → World → Prop} {a : Act} {w : World} {l : List Oper} (m n : Nat) (hm : P.follows .mixedOrders = true) (hB : Region.lexTailB .any l.toArray n = true)
    (h : wpQuiet P l.toArray (fun w' => ∃ u : Ws m w, w' = u.val) (fun a' => ∀ u : Ws m w, wpList P l.toArray Q (l.drop n) a' u.val) (l.take n) a) : (Code.region id l.toArray true).wp P Q a w := by
  simp only [Region.lexTailB, Bool.and_eq_true, decide_eq_true_eq] at hB
  obtain ⟨⟨⟨⟨hsel, hn⟩, hs⟩, hc⟩, hlex⟩ := hB
  have htl : (l.take n).length = n := by simp at hn ⊢; omega
  have hdl : (l.drop n).length = l.toArray.size - n := by simp
  have inv0 : HeadInv .any l.toArray n (Array.replicate l.toArray.size false) :=
    ⟨by simp, fun j oj _ hl => (by rw [getD_replicate_false] at hl; cases hl), fun t _ ht => getD_in (by simpa using ht) (getD_replicate_false _ _)⟩
  have H := headQ_lex (md := .any) (g := l.toArray.size - n) hsel hs hc hn (l.take n) 0 _ a (fun j hj => by rw [htl] at hj; simp [hj]) (by simpa using htl) inv0 (by rw [htl]; exact hlex) h
  refine wp_region_any hm ?_
  have h2 := headQ_sound (Q := Q) (g := l.toArray.size - n) (C := fun w' => ∃ u : Ws m w, w' = u.val) (fun listed a' w' hw' hL => by
    obtain ⟨u, rfl⟩ := hw'
    have h3 := wpAny_of_seq (md := .any) (Q' := Q) (l.drop n) n listed a' u.val (fun j => by simp [List.getElem?_drop]) (by rw [hdl]; exact hL.1) (hL.2 u)
    rwa [hdl] at h3) _ _ _ _ ⟨⟨_, (Below.refl m w).drew⟩, rfl⟩ H
  rw [htl, show n + (l.toArray.size - n) = l.toArray.size by omega] at h2
  exact h2
end Go.Proofs.YtlalgkjollgcbaaGreat
/- Groups: head, groupsOf and apart of package net. -/
namespace Go.Proofs.YtlalgkjollgcbaaGreat
open Go.RowKit Go.Shelf Go.Maps

theorem under_groups : Tryz.prog.underlying 47 = some (.map 3 3) := by kernel_rfl
/-- The map leads from each number to that one. -/
structure GM (D : DataW Unit) (g : Int → Int) : Prop where
  isMap : IsMap D
  at_ : ∀ a : Int, D.atKey (.int .i64 a) (.lit (.int .i64 0)) = .lit (.int .i64 (g a))
theorem GM.empty : GM (.map []) (fun _ => 0) := ⟨isMap_empty, fun _ => rfl⟩
theorem GM.put {D : DataW Unit} {g : Int → Int} (h : GM D g) (a b : Int) : GM (D.put (.int .i64 a) (.lit (.int .i64 b))) (fun y => if y = a then b else g y) where
  isMap := h.isMap.put _ _
  at_ := fun y => by
    by_cases e : y = a
    · subst e
      rw [atKey_put_same h.isMap (by trivial), if_pos rfl]
    · rw [atKey_put_other (by intro e2; exact e (by cases e2; rfl)), h.at_ y, if_neg e]
/-- From x one comes in n steps to h, which leads to itself. -/
def Leads (g : Int → Int) : Nat → Int → Int → Prop
  | 0, x, h => g x = x ∧ h = x
  | n + 1, x, h => g x ≠ x ∧ Leads g n (g x) h
def dep (g : Int → Int) : Nat → Int → Nat
  | 0, _ => 0
  | n + 1, x => if g x = x then 0 else dep g n (g x) + 1
theorem Leads.dep_is {g : Int → Int} : ∀ {N n : Nat} {x h : Int}, Leads g n x h → n ≤ N → dep g N x = n
  | 0, n, x, h, _, hn => by simp [dep]; omega
  | N + 1, 0, x, h, hl, _ => by simp [dep, hl.1]
  | N + 1, n + 1, x, h, hl, hn => by
    simp only [dep, if_neg hl.1]
    rw [Leads.dep_is hl.2 (by omega)]
theorem Leads.root {g : Int → Int} : ∀ {n : Nat} {x h : Int}, Leads g n x h → g h = h
  | 0, x, h, hl => by rw [hl.2]; exact hl.1
  | n + 1, x, h, hl => Leads.root hl.2
theorem Leads.upd {g : Int → Int} {h0 h1 : Int} (r0 : g h0 = h0) (r1 : g h1 = h1) (hne : h0 ≠ h1) : ∀ {n : Nat} {x h : Int}, Leads g n x h → ∃ m, m ≤ n + 1 ∧ Leads (fun y => if y = h0 then h1 else g y) m x (if h = h0 then h1 else h)
  | 0, x, h, hl => by
    obtain ⟨hx, rfl⟩ := hl
    by_cases e : h = h0
    · subst e
      refine ⟨1, by omega, ?_⟩
      simp only [if_true]
      refine ⟨by simp only [if_true]; exact Ne.symm hne, ?_⟩
      simp only [if_true]
      exact ⟨by simp only [if_neg (Ne.symm hne)]; exact r1, rfl⟩
    · refine ⟨0, by omega, ?_⟩
      simp only [if_neg e]
      exact ⟨by simp only [if_neg e]; exact hx, rfl⟩
  | n + 1, x, h, hl => by
    obtain ⟨hx, hl⟩ := hl
    have e : x ≠ h0 := fun e => hx (by rw [e, r0])
    obtain ⟨m, hm, h2⟩ := Leads.upd r0 r1 hne hl
    refine ⟨m + 1, by omega, ?_, ?_⟩
    · simp only [if_neg e]; exact hx
    · simp only [if_neg e]; exact h2

set_option maxRecDepth 20000 in
set_option maxHeartbeats 800000 in
theorem head_any (bm m : Nat) (D : DataW Unit) (g : Int → Int) (n : Nat) (x h : Int) (w : World) (hO : w.ownsMap Tryz.prog 3 (plainElem Tryz.prog 3) bm m D) (hG : GM D g) (hx : (Lit.int .i64 x).wf = true) (hL : Leads g n x h) :
    Calls Tryz.prog 24 #[.map (some bm), .int .i64 x] w fun e w' => e = .returned (.int .i64 h) ∧ w' = w := by
  have hG' : Hid (GM D g) := hG
  clear hG
  go_enter Tryz.func24, Tryz.ntmps24
  go_wp2
  go_loopw [1] (fun i wr => ∃ (y : Int) (k : Nat), k ≤ n ∧ i = .int .i64 y ∧ (Lit.int .i64 y).wf = true ∧ Leads g k y h ∧ wr = w) (fun i _ => dep g n (intOf i))
  case atStart => exact ⟨x, n, Nat.le_refl _, rfl, hx, hL, rfl⟩
  case round =>
    obtain ⟨y, k, hk, rfl, hy, hLy, rfl⟩ := hrel
    have hkey : keyOf Tryz.prog 3 (.int .i64 y) = some (.int .i64 y) := keyOf_int_mk under_int hy
    have hat := hG'.out.at_ y
    have hLy' : Hid (Leads g k y h) := hLy
    rcases k with _ | k
    · obtain ⟨hr, rfl⟩ := hLy
      have hne : (g h != h) = false := by simp [hr]
      go_wp2_with (first
        | (at_lookup; refine wpList_lookup_own_int _ rfl _ _ 47 rfl 3 3 .i64 key_law under_groups under_int (zero_int _) bm _ _ rfl hO _ _ rfl hkey ?_; intro cc hat2 hwc; obtain rfl : cc = g h := (by rw [hat] at hat2; cases hat2; rfl))
        | go_in)
      go_ret
      exact ⟨rfl, rfl⟩
    · obtain ⟨hr, hl2⟩ := hLy
      have hne : (g y != y) = true := by simpa using hr
      have hwg : (Lit.int .i64 (g y)).wf = true := by
        obtain ⟨c, _, h2, h3⟩ := hO.lookup_int key_law under_groups under_int (zero_int _) hkey
        rw [hat] at h2
        cases h2
        exact h3
      go_wp2_with (first
        | (at_lookup; refine wpList_lookup_own_int _ rfl _ _ 47 rfl 3 3 .i64 key_law under_groups under_int (zero_int _) bm _ _ rfl hO _ _ rfl hkey ?_; intro cc hat2 hwc; obtain rfl : cc = g y := (by rw [hat] at hat2; cases hat2; rfl); clear hat2 hwc)
        | go_in)
      go_roundw
      case rel => exact ⟨g y, k, by omega, rfl, hwg, hl2, by first | rfl | trivial⟩
      case measure =>
        simp only [intOf]
        rw [hl2.dep_is (by omega), hLy'.out.dep_is hk]
        omega

/-- The head of each one's group, by these links. -/
def hdOf (ls : List (Int × Int)) : Int → Int := ls.foldl (fun hd l x => if hd x = hd l.1 then hd l.2 else hd x) id
theorem hdOf_snoc (ls : List (Int × Int)) (l : Int × Int) (x : Int) : hdOf (ls ++ [l]) x = if hdOf ls x = hdOf ls l.1 then hdOf ls l.2 else hdOf ls x := by
  unfold hdOf
  rw [List.foldl_append]
  rfl
theorem at_get {ls : List (Int × Int)} {k : Nat} (h : k < ls.length) : (at0 ls k, at1 ls k) = ls[k] := by simp [at0, at1, List.getD_eq_getElem?_getD, h]
theorem hdOf_take {ls : List (Int × Int)} {k : Nat} (h : k < ls.length) (x : Int) : hdOf (ls.take (k + 1)) x = if hdOf (ls.take k) x = hdOf (ls.take k) (at0 ls k) then hdOf (ls.take k) (at1 ls k) else hdOf (ls.take k) x := by
  rw [List.take_add_one, List.getElem?_eq_getElem h, ← at_get h, Option.toList_some, hdOf_snoc]
/-- The map of groups: each of these Ids leads to its head. -/
structure Grp (ids : List Int) (hd : Int → Int) (g : Int → Int) : Prop where
  lead : ∀ i ∈ ids, ∃ n, Leads g n i (hd i)
  mem : ∀ i ∈ ids, hd i ∈ ids
theorem Grp.link {ids : List Int} {hd g : Int → Int} (h : Grp ids hd g) {a b : Int} (ha : a ∈ ids) (hb : b ∈ ids) : Grp ids (fun x => if hd x = hd a then hd b else hd x) (fun y => if y = hd a then hd b else g y) where
  lead := fun i hi => by
    obtain ⟨n, hn⟩ := h.lead i hi
    obtain ⟨na, hna⟩ := h.lead a ha
    obtain ⟨nb, hnb⟩ := h.lead b hb
    by_cases e : hd a = hd b
    · have e1 : (fun y => if y = hd a then hd b else g y) = g := by
        funext y
        by_cases e2 : y = hd a
        · rw [if_pos e2, e2, ← e, hna.root]
        · rw [if_neg e2]
      refine ⟨n, ?_⟩
      rw [e1]
      by_cases e2 : hd i = hd a
      · rw [if_pos e2, ← e, ← e2]; exact hn
      · rw [if_neg e2]; exact hn
    · obtain ⟨m, -, h2⟩ := hn.upd hna.root hnb.root e
      exact ⟨m, h2⟩
  mem := fun i hi => by
    by_cases e : hd i = hd a
    · simp only [if_pos e]; exact h.mem b hb
    · simp only [if_neg e]; exact h.mem i hi
end Go.Proofs.YtlalgkjollgcbaaGreat
/- groupsOf of package net. -/
namespace Go.Proofs.YtlalgkjollgcbaaGreat
open Go.RowKit Go.Shelf Go.Maps

def idsOf (vs : List Vn) : List Int := vs.map (·.id)
theorem vnAt_get {vs : List Vn} {i : Nat} (h : i < vs.length) : vnAt vs i = vs[i] := by simp [vnAt, List.getD_eq_getElem?_getD, h]
theorem ids_mem {vs : List Vn} {i : Nat} (h : i < vs.length) : (vnAt vs i).id ∈ idsOf vs := by
  rw [vnAt_get h]
  exact List.mem_map_of_mem (List.getElem_mem h)
theorem mem_ids {vs : List Vn} {x : Int} (h : x ∈ idsOf vs) : ∃ i, i < vs.length ∧ (vnAt vs i).id = x := by
  obtain ⟨v, hv, rfl⟩ := List.mem_map.1 h
  obtain ⟨i, hi, rfl⟩ := List.getElem_of_mem hv
  exact ⟨i, hi, by rw [vnAt_get hi]⟩
theorem owns_later {w w' : World} {P : Program} {k : TypeId} {R : Value → Option (DataW Unit × List MemPlace)} {b n : Nat} {D : DataW Unit} (h : w.ownsMap P k R b n D) (hb : Below w.heap.size w w') : w'.ownsMap P k R b n D := by
  obtain ⟨es, clock, h0, h1⟩ := h
  exact ⟨es, clock, heap_later hb h0, h1⟩
abbrev netO (x : Option Addr) (n c : Nat) (lx : Option Addr) (ln lc : Nat) : Obj := .cells #[.slice x n c, .slice lx ln lc] 25

set_option maxRecDepth 100000 in
set_option maxHeartbeats 1600000 in
theorem groupsOf_any (x : Option Addr) (n c : Nat) (vs : List Vn) (lx : Option Addr) (ln lc : Nat) (ls : List (Int × Int)) (w : World) (hp : VS w x n vs) (hn : n ≤ 64) (hl : PS w lx ln ls) (hln : ln ≤ 64)
    (hid : ∀ i, i < n → 0 ≤ (vnAt vs i).id ∧ (vnAt vs i).id ≤ 1000000) (hlk : ∀ j, j < ln → at0 ls j ∈ idsOf vs ∧ at1 ls j ∈ idsOf vs) :
    Calls Tryz.prog 23 #[.agg #[.slice x n c, .slice lx ln lc]] w fun e w' => ∃ bm m D g, e = .returned (.map (some bm)) ∧ w.heap.size ≤ bm ∧ w'.ownsMap Tryz.prog 3 (plainElem Tryz.prog 3) bm m D ∧ GM D g ∧ Grp (idsOf vs) (hdOf ls) g ∧ Below w.heap.size w w' := by
  have hmm := @run_makeMap Tryz.prog
  have hvl : Hid (vs.length = n) := hp.len
  have hll : Hid (ls.length = ln) := hl.len
  go_enter Tryz.func23, Tryz.ntmps23
  go_upto_region 1 with fail
  obtain ⟨w2, hw2⟩ : ∃ w2, w2 = w.alloc (netO x n c lx ln lc) := ⟨_, rfl⟩
  rw [← hw2]
  have h02 : Below w.heap.size w w2 := by rw [hw2]; exact bl1 w _
  have hbox : w2.heap[w.heap.size]? = some (netO x n c lx ln lc) := by rw [hw2]; exact heap_new _ rfl
  clear hw2
  have hp2 := hp.later h02
  have hl2 := hl.later h02
  obtain ⟨hcl, -⟩ := box_cells hbox
  have q0 : w2.cell? ⟨w.heap.size, 0, none⟩ = some (.slice x n c) := hcl 0
  have q1 : w2.cell? ⟨w.heap.size, 1, none⟩ = some (.slice lx ln lc) := hcl 1
  clear hcl hbox
  have hsz : Hid (w.heap.size ≤ w2.heap.size) := h02.size
  have a0 : (w2.alloc (.map #[] 0)).cell? ⟨w.heap.size, 0, none⟩ = some (.slice x n c) := cell_later (bl1 w2 _) q0
  generalize hbk : w.heap.size = bk at *
  go_wp2
  go_loopw [12] (fun i wr => ∃ (k : Nat) (D : DataW Unit) (g : Int → Int), k ≤ n ∧ i = .int .i64 k ∧ Below w2.heap.size w2 wr ∧ wr.ownsMap Tryz.prog 3 (plainElem Tryz.prog 3) w2.heap.size k D ∧ GM D g ∧ (∀ j, j < k → g (vnAt vs j).id = (vnAt vs j).id)) (fun i _ => n - (intOf i).toNat)
  case atStart => exact ⟨0, .map [], _, by omega, rfl, bl1 w2 _, World.ownsMap_made w2 _ _ _, GM.empty, fun j hj => by omega⟩
  case round =>
    obtain ⟨k, D, g, hk, rfl, hB, hO, hG, hgo⟩ := hrel
    by_cases hlt : k < n
    · have hlt' : Hid (k < n) := hlt
      obtain ⟨b, o, rfl, c0, c1, c2⟩ := (hp2.later hB).cells k hlt
      have hkey : keyOf Tryz.prog 3 (.int .i64 (vnAt vs k).id) = some (.int .i64 (vnAt vs k).id) := keyOf_int_mk under_int (wf_small (hid k hlt).1 (hid k hlt).2)
      have hwf : (Lit.int .i64 (vnAt vs k).id).wf = true := wf_small (hid k hlt).1 (hid k hlt).2
      have hO2 := hO.alloc (.cells #[.int .i64 (vnAt vs k).id, .slice (vnAt vs k).rx (vnAt vs k).rn (vnAt vs k).rc, .slice (vnAt vs k).sx (vnAt vs k).sn (vnAt vs k).sc] 52)
      have hmx : k < maxLen := by unfold maxLen; omega
      have hP := hG.put (vnAt vs k).id (vnAt vs k).id
      have hgo' : Hid (∀ j, j < k → g (vnAt vs j).id = (vnAt vs j).id) := hgo
      clear hgo
      have hBa := hB.trans ((bl1 wr (.cells #[.int .i64 (vnAt vs k).id, .slice (vnAt vs k).rx (vnAt vs k).rn (vnAt vs k).rc, .slice (vnAt vs k).sx (vnAt vs k).sn (vnAt vs k).sc] 52)).mono hB.size)
      go_wp2_with (first
        | (at_mapUpdate; refine wpList_mapUpdate_own _ rfl _ _ _ 47 rfl 3 3 key_law under_groups _ w2.heap.size _ _ rfl hO2 hmx _ _ _ rfl rfl hkey _ [] (plainElem_int under_int hwf) ?_; intro w1 hown1 hgrow1)
        | go_in)
      go_roundw
      case rel => exact ⟨k + 1, _, _, hlt'.out, by go_num, hBa.grown hgrow1 hBa.size (fun j hj => by cases hj; omega), hown1, hP, fun j hj => by
        by_cases e : (vnAt vs j).id = (vnAt vs k).id
        · simp only [if_pos e]; exact e.symm
        · simp only [if_neg e]
          by_cases hj2 : j < k
          · exact hgo'.out j hj2
          · obtain rfl : j = k := by omega
            exact absurd rfl e⟩
      case measure => simp [intOf]; have := hlt'.out; omega
    · obtain rfl : k = n := by omega
      have r1 := cell_later hB q1
      have hGr0 : Grp (idsOf vs) (hdOf (ls.take 0)) g := ⟨fun i hi => by
        obtain ⟨j, hj, rfl⟩ := mem_ids hi
        exact ⟨0, hgo j (by rw [← hvl.out]; exact hj), rfl⟩, fun i hi => hi⟩
      clear hgo
      go_wp2
      obtain ⟨wo, rfl⟩ : ∃ wo, wo = wr := ⟨_, rfl⟩
      go_loopw [25] (fun i wr => ∃ (q : Nat) (D : DataW Unit) (g : Int → Int), q ≤ ln ∧ i = .int .i64 q ∧ Below w2.heap.size w2 wr ∧ wr.ownsMap Tryz.prog 3 (plainElem Tryz.prog 3) w2.heap.size (k + q) D ∧ GM D g ∧ Grp (idsOf vs) (hdOf (ls.take q)) g) (fun i _ => ln - (intOf i).toNat)
      case atStart => exact ⟨0, D, g, by omega, rfl, hB, hO, hG, hGr0⟩
      case round =>
        clear hO hG hGr0 hB
        obtain ⟨q, D, g, hq, rfl, hB, hO, hG, hGr⟩ := hrel
        by_cases hq2 : q < ln
        · have hq' : Hid (q < ln) := hq2
          obtain ⟨b2, o2, rfl, d0, d1⟩ := (hl2.later hB).cells q hq2
          obtain ⟨ha, hb⟩ := hlk q hq2
          have hst : Hid (∀ y, hdOf (ls.take (q + 1)) y = if hdOf (ls.take q) y = hdOf (ls.take q) (at0 ls q) then hdOf (ls.take q) (at1 ls q) else hdOf (ls.take q) y) := fun y => hdOf_take (by rw [hll.out]; exact hq2) y
          have hwid : ∀ y, y ∈ idsOf vs → (Lit.int .i64 y).wf = true := fun y hy => by
            obtain ⟨j, hj, rfl⟩ := mem_ids hy
            have := hid j (by rw [← hvl.out]; exact hj)
            exact wf_small this.1 this.2
          have hwa := hwid _ ha
          have hwb := hwid _ hb
          have hwA := hwid _ (hGr.mem _ ha)
          have hwB := hwid _ (hGr.mem _ hb)
          obtain ⟨na, hLa⟩ := hGr.lead _ ha
          obtain ⟨nb, hLb⟩ := hGr.lead _ hb
          have hGr2 := hGr.link ha hb
          have hP := hG.put (hdOf (ls.take q) (at0 ls q)) (hdOf (ls.take q) (at1 ls q))
          generalize at0 ls q = la at *
          generalize at1 ls q = lb at *
          generalize hdOf (ls.take q) = hd at *
          have hkey : keyOf Tryz.prog 3 (.int .i64 (hd la)) = some (.int .i64 (hd la)) := keyOf_int_mk under_int hwA
          have hmx : k + q < maxLen := by unfold maxLen; omega
          go_upto_region 10 with fail
          obtain ⟨w3, hw3⟩ : ∃ w3, w3 = wr.alloc (.cells #[.int .i64 la, .int .i64 lb] 63) := ⟨_, rfl⟩
          rw [← hw3]
          have h23 : Below wr.heap.size wr w3 := by rw [hw3]; exact bl1 wr _
          have hbox : w3.heap[wr.heap.size]? = some (.cells #[.int .i64 la, .int .i64 lb] 63) := by rw [hw3]; exact heap_new _ rfl
          clear hw3 d0 d1
          obtain ⟨hcl, -⟩ := box_cells hbox
          have t0 := Ws.here (v := .int .i64 la) (hcl 0)
          have t1 := Ws.here (v := .int .i64 lb) (hcl 1)
          clear hcl hbox
          have hO3 := owns_later hO h23
          have hB3 := hB.trans (h23.mono hB.size)
          have hcA : ∀ W, Below w3.heap.size w3 W → Calls Tryz.prog 24 #[.map (some w2.heap.size), .int .i64 la] W fun e w' => e = .returned (.int .i64 (hd la)) ∧ w' = W := fun W hW => head_any _ _ D g na la _ _ (owns_later hO3 hW) hG hwa hLa
          have hcB : ∀ W, Below w3.heap.size w3 W → Calls Tryz.prog 24 #[.map (some w2.heap.size), .int .i64 lb] W fun e w' => e = .returned (.int .i64 (hd lb)) ∧ w' = W := fun W hW => head_any _ _ D g nb lb _ _ (owns_later hO3 hW) hG hwb hLb
          refine wp_region_tail w3.heap.size 9 (by kernel_rfl) (by kernel_rfl) ?_
          simp only [List.take_succ_cons, List.take_zero, List.drop_succ_cons, List.drop_zero]
          repeat (go_big_quiet_step (first | (go_at_call_of 24 la; exact Calls.in_ws_same (hcA _ (Ws.property _))) | (go_at_call_of 24 lb; exact Calls.in_ws_same (hcB _ (Ws.property _)))))
          refine wpQuiet_nil ?_
          intro uu
          have hB8 := uu.property
          generalize uu.val = w8 at hB8 ⊢
          clear uu t0 t1
          have hO8 := owns_later hO3 hB8
          have hB8' := hB3.trans (hB8.mono hB3.size)
          go_wp2_with (first
            | (at_mapUpdate; refine wpList_mapUpdate_own _ rfl _ _ _ 47 rfl 3 3 key_law under_groups _ w2.heap.size _ _ rfl hO8 hmx _ _ _ rfl rfl hkey _ [] (plainElem_int under_int hwB) ?_; intro w1 hown1 hgrow1)
            | go_in)
          go_roundw
          case rel => exact ⟨q + 1, _, _, hq'.out, by go_num, hB8'.grown hgrow1 hB8'.size (fun j hj => by cases hj; omega), hown1, hP, by
            have e : hdOf (ls.take (q + 1)) = fun y => if hd y = hd la then hd lb else hd y := funext hst.out
            rw [e]
            exact hGr2⟩
          case measure => simp [intOf]; have := hq'.out; omega
        · obtain rfl : q = ln := by omega
          have e : ls.take q = ls := by rw [← hll.out, List.take_length]
          rw [e] at hGr
          go_wp2
          go_ret
          exact ⟨_, _, D, g, rfl, by rw [hbk]; exact hsz.out, hO, hG, hGr, by rw [hbk]; exact h02.trans (hB.mono hsz.out)⟩
end Go.Proofs.YtlalgkjollgcbaaGreat
/- apart of package net. -/
namespace Go.Proofs.YtlalgkjollgcbaaGreat
open Go.RowKit Go.Shelf Go.Maps

/-- Are the i-th and the j-th of one group, and have an address in common? -/
def clsh (hd : Int → Int) (vs : List Vn) (i j : Nat) : Bool := (hd (vnAt vs i).id == hd (vnAt vs j).id) && meetB (vnAt vs i).rn (vnAt vs i).rs (vnAt vs j).rn (vnAt vs j).rs
def apAt (hd : Int → Int) (vs : List Vn) (i : Nat) : Bool := (List.range i).all fun j => !clsh hd vs i j
def apB (ls : List (Int × Int)) (n : Nat) (vs : List Vn) : Bool := (List.range n).all (apAt (hdOf ls) vs)
abbrev vnO (p : Vn) : Obj := .cells #[.int .i64 p.id, .slice p.rx p.rn p.rc, .slice p.sx p.sn p.sc] 52

set_option maxRecDepth 100000 in
set_option maxHeartbeats 3200000 in
theorem napart_any (x : Option Addr) (n c : Nat) (vs : List Vn) (lx : Option Addr) (ln lc : Nat) (ls : List (Int × Int)) (w : World) (hp : VS w x n vs) (hn : n ≤ 64) (hnc : n ≤ c) (hl : PS w lx ln ls) (hln : ln ≤ 64)
    (hid : ∀ i, i < n → 0 ≤ (vnAt vs i).id ∧ (vnAt vs i).id ≤ 1000000) (hrn : ∀ i, i < n → (vnAt vs i).rn ≤ 64) (hlk : ∀ j, j < ln → at0 ls j ∈ idsOf vs ∧ at1 ls j ∈ idsOf vs) :
    Calls Tryz.prog 30 #[.agg #[.slice x n c, .slice lx ln lc]] w fun e w' => e = .returned (.bool (apB ls n vs)) ∧ Below w.heap.size w w' := by
  have hvl : Hid (vs.length = n) := hp.len
  have hbd : Hid (apB ls n vs = (List.range n).all (apAt (hdOf ls) vs)) := rfl
  go_enter Tryz.func30, Tryz.ntmps30
  go_upto_region 1 with fail
  obtain ⟨w2, hw2⟩ : ∃ w2, w2 = w.alloc (netO x n c lx ln lc) := ⟨_, rfl⟩
  rw [← hw2]
  have h02 : Below w.heap.size w w2 := by rw [hw2]; exact bl1 w _
  have hbox : w2.heap[w.heap.size]? = some (netO x n c lx ln lc) := by rw [hw2]; exact heap_new _ rfl
  clear hw2
  obtain ⟨hcl, -⟩ := box_cells hbox
  have q0 : w2.cell? ⟨w.heap.size, 0, none⟩ = some (.slice x n c) := hcl 0
  have q1 : w2.cell? ⟨w.heap.size, 1, none⟩ = some (.slice lx ln lc) := hcl 1
  clear hcl hbox
  have hsz : Hid (w.heap.size ≤ w2.heap.size) := h02.size
  have hp2 := hp.later h02
  have hl2 := hl.later h02
  generalize hbk : w.heap.size = bk at *
  go_wp2_with fail
  refine (groupsOf_any x n c vs lx ln lc ls _ hp2 hn hl2 hln hid hlk).mono ?_
  rintro e w3 ⟨bm, m, D, g, rfl, hbm, hO, hG, hGr, hb3⟩
  have h03 : Below bk w w3 := h02.trans (hb3.mono hsz.out)
  have hsz3 : Hid (bk ≤ w3.heap.size) := Nat.le_trans hsz.out hb3.size
  have hp3 := hp2.later hb3
  have r0 := cell_later hb3 q0
  clear q0 q1 hb3 h02
  have hwid : ∀ i, i < n → (Lit.int .i64 (vnAt vs i).id).wf = true := fun i hi => wf_small (hid i hi).1 (hid i hi).2
  have hHd : ∀ W, Below w3.heap.size w3 W → ∀ i, i < n → Calls Tryz.prog 24 #[.map (some bm), .int .i64 (vnAt vs i).id] W fun e w' => e = .returned (.int .i64 (hdOf ls (vnAt vs i).id)) ∧ w' = W := fun W hW i hi => by
    obtain ⟨q, hq⟩ := hGr.lead _ (ids_mem (by rw [hvl.out]; exact hi))
    exact head_any _ _ D g q _ _ _ (owns_later hO hW) hG (hwid i hi) hq
  generalize hhd : hdOf ls = hd at *
  clear hG hGr hO
  go_wp2
  go_loopw [13] (fun i wr => ∃ k : Nat, k ≤ n ∧ i = .int .i64 k ∧ Below w3.heap.size w3 wr ∧ (∀ j, j < k → apAt hd vs j = true)) (fun i _ => n - (intOf i).toNat)
  case atStart => exact ⟨0, by omega, rfl, Below.refl _ _, fun j hj => by omega⟩
  case round =>
    obtain ⟨k, hk, rfl, hB, hok⟩ := hrel
    have s0 := cell_later hB r0
    by_cases hlt : k < n
    · have hlt' : Hid (k < n) := hlt
      have hpr := hp3.later hB
      have hpk := hpr.cells k hlt
      have hvk := (hpr.vps k hlt).2.2.2.ranges
      have hrk := hrn k hlt
      have hHk : ∀ W, Below w3.heap.size w3 W → Calls Tryz.prog 24 #[.map (some bm), .int .i64 (vnAt vs k).id] W fun e w' => e = .returned (.int .i64 (hd (vnAt vs k).id)) ∧ w' = W := fun W hW => hHd W hW k hlt
      have hcd : Hid (∀ j, clsh hd vs k j = ((hd (vnAt vs k).id == hd (vnAt vs j).id) && meetB (vnAt vs k).rn (vnAt vs k).rs (vnAt vs j).rn (vnAt vs j).rs)) := fun j => rfl
      obtain ⟨b, o, rfl, c0, c1, c2⟩ := hpk
      go_upto_region 5 with fail
      obtain ⟨w4, hw4⟩ : ∃ w4, w4 = wr.alloc (vnO (vnAt vs k)) := ⟨_, rfl⟩
      rw [← hw4]
      have h34 : Below wr.heap.size wr w4 := by rw [hw4]; exact bl1 wr _
      have hbox : w4.heap[wr.heap.size]? = some (vnO (vnAt vs k)) := by rw [hw4]; exact heap_new _ rfl
      clear hw4 c0 c1 c2
      have s4 := cell_later h34 s0
      clear s0
      have hp4 := hpr.later h34
      have hv4 := hvk.later h34
      have hB4 := hB.trans (h34.mono hB.size)
      obtain ⟨hcl, -⟩ := box_cells hbox
      have t0 : w4.cell? ⟨wr.heap.size, 0, none⟩ = some (.int .i64 (vnAt vs k).id) := hcl 0
      have t1 : w4.cell? ⟨wr.heap.size, 1, none⟩ = some (.slice (vnAt vs k).rx (vnAt vs k).rn (vnAt vs k).rc) := hcl 1
      have t2 : w4.cell? ⟨wr.heap.size, 2, none⟩ = some (.slice (vnAt vs k).sx (vnAt vs k).sn (vnAt vs k).sc) := hcl 2
      clear hcl hbox hpr hvk
      generalize wr.heap.size = bv at *
      clear hB h34
      clear wr
      have hkc : (k : Int) ≤ c := by omega
      go_wp2
      go_loopw [23] (fun i wr => ∃ q : Nat, q ≤ k ∧ i = .int .i64 q ∧ Below w4.heap.size w4 wr ∧ (∀ j, j < q → clsh hd vs k j = false)) (fun i _ => k - (intOf i).toNat)
      case atStart => exact ⟨0, by omega, rfl, Below.refl _ _, fun j hj => by omega⟩
      case round =>
        obtain ⟨q, hq, rfl, hB, hno⟩ := hrel
        by_cases hq2 : q < k
        · have hq' : Hid (q < k) := hq2
          have hpr := hp4.later hB
          obtain ⟨b2, o2, hbo, d0, d1, d2⟩ := hpr.cells q (by omega)
          simp only [Option.some.injEq, Addr.mk.injEq, and_true] at hbo
          obtain ⟨rfl, rfl⟩ := hbo
          have hvq := (hpr.vps q (by omega)).2.2.2.ranges
          have hrq := hrn q (by omega)
          have hHq : ∀ W, Below w3.heap.size w3 W → Calls Tryz.prog 24 #[.map (some bm), .int .i64 (vnAt vs q).id] W fun e w' => e = .returned (.int .i64 (hd (vnAt vs q).id)) ∧ w' = W := fun W hW => hHd W hW q (by omega)
          have hcq : Hid (clsh hd vs k q = ((hd (vnAt vs k).id == hd (vnAt vs q).id) && meetB (vnAt vs k).rn (vnAt vs k).rs (vnAt vs q).rn (vnAt vs q).rs)) := hcd.out q
          have u0 := cell_later hB t0
          have u1 := cell_later hB t1
          have u2 := cell_later hB t2
          have hv5 := hv4.later hB
          go_upto_region 8 with fail
          obtain ⟨w5, hw5⟩ : ∃ w5, w5 = wr.alloc (vnO (vnAt vs q)) := ⟨_, rfl⟩
          rw [← hw5]
          have h45 : Below wr.heap.size wr w5 := by rw [hw5]; exact bl1 wr _
          have hbox : w5.heap[wr.heap.size]? = some (vnO (vnAt vs q)) := by rw [hw5]; exact heap_new _ rfl
          clear hw5 d0 d1 d2
          obtain ⟨hcl, -⟩ := box_cells hbox
          have k0 := Ws.here (v := .int .i64 (vnAt vs q).id) (hcl 0)
          have k1 := Ws.here (v := .slice (vnAt vs q).rx (vnAt vs q).rn (vnAt vs q).rc) (hcl 1)
          have k2 := Ws.here (v := .slice (vnAt vs q).sx (vnAt vs q).sn (vnAt vs q).sc) (hcl 2)
          have g0 := Ws.here (cell_later h45 u0)
          have g1 := Ws.here (cell_later h45 u1)
          have g2 := Ws.here (cell_later h45 u2)
          clear hcl hbox u0 u1 u2
          have hvq6 := hvq.later h45
          have hv6 := hv5.later h45
          have hB5 := hB.trans (h45.mono hB.size)
          have hB35 := hB4.trans (hB5.mono hB4.size)
          clear hpr hvq hv5
          generalize hik : hd (vnAt vs k).id = ik at hHk hcq
          generalize hiq : hd (vnAt vs q).id = iq at hHq hcq
          have hHk' : ∀ W, Below w5.heap.size w5 W → Calls Tryz.prog 24 #[.map (some bm), .int .i64 (vnAt vs k).id] W fun e w' => e = .returned (.int .i64 ik) ∧ w' = W := fun W hW => hHk W (hB35.trans (hW.mono hB35.size))
          have hHq' : ∀ W, Below w5.heap.size w5 W → Calls Tryz.prog 24 #[.map (some bm), .int .i64 (vnAt vs q).id] W fun e w' => e = .returned (.int .i64 iq) ∧ w' = W := fun W hW => hHq W (hB35.trans (hW.mono hB35.size))
          cases hde : (ik == iq)
          · refine wp_region_ws w5.heap.size (by kernel_rfl) (by kernel_rfl) ?_
            repeat (go_big_quiet_step (first | (go_at_call_of 24 ((vnAt vs k).id); exact Calls.in_ws_same (hHk' _ (Ws.property _))) | (go_at_call_of 24 ((vnAt vs q).id); exact Calls.in_ws_same (hHq' _ (Ws.property _)))))
            refine wpQuiet_nil ?_
            rintro _ ⟨u, rfl⟩
            have hu := hB5.trans (u.property.mono hB5.size)
            generalize u.val = wu at hu ⊢
            clear u k0 k1 k2 g0 g1 g2
            go_wp2
            go_roundw
            case rel => exact ⟨q + 1, hq'.out, by go_num, hu, fun j hj => by
              by_cases hj2 : j < q
              · exact hno j hj2
              · obtain rfl : j = q := by omega
                rw [hcq.out, hde]; rfl⟩
            case measure => simp [intOf]; have := hq'.out; omega
          · cases hme : meetB (vnAt vs k).rn (vnAt vs k).rs (vnAt vs q).rn (vnAt vs q).rs
            all_goals refine wp_region_ws w5.heap.size (by kernel_rfl) (by kernel_rfl) ?_
            all_goals repeat (go_big_quiet_step (first | (go_at_call_of 24 ((vnAt vs k).id); exact Calls.in_ws_same (hHk' _ (Ws.property _))) | (go_at_call_of 24 ((vnAt vs q).id); exact Calls.in_ws_same (hHq' _ (Ws.property _))) | (go_at_call 60; exact Calls.in_ws (Nat.le_refl _) (nmeet_is (vnAt vs k) (vnAt vs q) _ hme _ (hv6.later (Ws.property _)) (hvq6.later (Ws.property _)) hrk hrq))))
            all_goals refine wpQuiet_nil ?_
            all_goals rintro _ ⟨u, rfl⟩
            all_goals have hu := hB5.trans (u.property.mono hB5.size)
            all_goals generalize u.val = wu at hu ⊢
            all_goals clear u k0 k1 k2 g0 g1 g2
            · go_wp2
              go_roundw
              case rel => exact ⟨q + 1, hq'.out, by go_num, hu, fun j hj => by
                by_cases hj2 : j < q
                · exact hno j hj2
                · obtain rfl : j = q := by omega
                  rw [hcq.out, hde, hme]; rfl⟩
              case measure => simp [intOf]; have := hq'.out; omega
            · have hfin := hB4.trans (hu.mono hB4.size)
              go_wp2
              go_ret
              exact ⟨ret_bool (by rw [hbd.out, allR_no hlt'.out (allR_no hq'.out (by rw [hcq.out, hde, hme]; rfl))]), by rw [hbk]; exact h03.trans (hfin.mono hsz3.out)⟩
        · obtain rfl : q = k := by omega
          have hfin := hB4.trans (hB.mono hB4.size)
          go_wp2
          go_roundw
          case rel => exact ⟨q + 1, hlt'.out, by go_num, hfin, fun j hj => by
            by_cases hj2 : j < q
            · exact hok j hj2
            · obtain rfl : j = q := by omega
              exact allR_yes fun i hi => by rw [hno i hi]; rfl⟩
          case measure => simp [intOf]; have := hlt'.out; omega
    · obtain rfl : k = n := by omega
      go_wp2
      go_ret
      exact ⟨ret_bool (by rw [hbd.out, allR_yes hok]), by rw [hbk]; exact h03.trans (hB.mono hsz3.out)⟩
theorem napart_is (x : Option Addr) (n c : Nat) (vs : List Vn) (lx : Option Addr) (ln lc : Nat) (ls : List (Int × Int)) (t : Bool) (h : apB ls n vs = t) (w : World) (hp : VS w x n vs) (hn : n ≤ 64) (hnc : n ≤ c) (hl : PS w lx ln ls) (hln : ln ≤ 64)
    (hid : ∀ i, i < n → 0 ≤ (vnAt vs i).id ∧ (vnAt vs i).id ≤ 1000000) (hrn : ∀ i, i < n → (vnAt vs i).rn ≤ 64) (hlk : ∀ j, j < ln → at0 ls j ∈ idsOf vs ∧ at1 ls j ∈ idsOf vs) :
    Calls Tryz.prog 30 #[.agg #[.slice x n c, .slice lx ln lc]] w fun e w' => e = .returned (.bool t) ∧ Below w.heap.size w w' := by
  subst h
  exact napart_any x n c vs lx ln lc ls w hp hn hnc hl hln hid hrn hlk
end Go.Proofs.YtlalgkjollgcbaaGreat
/- Numbers and routes in memory of the call's own; Check of package net. -/
namespace Go.Proofs.YtlalgkjollgcbaaGreat
open Go.RowKit Go.Shelf

/-- The cells of numbers. -/
def flatI (es : List Int) : List Value := es.map (Value.int .i64)
theorem flatI_len (es : List Int) : (flatI es).length = es.length := by simp [flatI]
theorem flatI_app (es fs : List Int) : flatI (es ++ fs) = flatI es ++ flatI fs := by simp [flatI]
theorem flatI_one (es : List Int) : ∀ u ∈ flatI es, u.oneCell' = true := fun u hu => by
  obtain ⟨e, -, rfl⟩ := List.mem_map.1 hu
  rfl
theorem flatI_at {es : List Int} {i : Nat} (h : i < es.length) : (flatI es)[i]? = some (.int .i64 (inAt es i)) := by
  unfold flatI
  rw [List.getElem?_map, List.getElem?_eq_getElem h, inAt_get h]
  rfl
/-- numbers that lie in memory of the call's own. -/
def OwnI (w : World) (base : Nat) (v : Value) (es : List Int) : Prop := w.ownsRow base 3 1 v es.length (flatI es)
theorem OwnI.later {w w' : World} {base : Nat} {v : Value} {es : List Int} (h : OwnI w base v es) (hb : Below w.heap.size w w') : OwnI w' base v es := by
  refine World.ownsRow.kept h (grown_of_below hb) ?_
  cases hv : v.ownBlock
  · exact .inl rfl
  · exact .inr (by simp)
theorem OwnI.kept {w w' : World} {base g : Nat} {v : Value} {es : List Int} (h : OwnI w base v es) (hg : w.grownBy w' (some g)) (hne : ∀ k, v.ownBlock = some k → k ≠ g) : OwnI w' base v es := by
  refine World.ownsRow.kept h hg ?_
  cases hv : v.ownBlock
  · exact .inl rfl
  · rename_i k
    exact .inr fun e => hne k hv (Option.some.inj e)
theorem OwnI.low {w : World} {base base' : Nat} {v : Value} {es : List Int} (h : OwnI w base v es) (hb : base' ≤ base) : OwnI w base' v es := by
  refine ⟨h.1, ?_⟩
  rcases h.2 with h | ⟨g, cap, cur, h1, h2, h3⟩
  · exact .inl h
  · exact .inr ⟨g, cap, cur, h1, Nat.le_trans hb h2, h3⟩
theorem OwnI.lt {w : World} {base : Nat} {v : Value} {es : List Int} (h : OwnI w base v es) : ∀ k, v.ownBlock = some k → base ≤ k ∧ k < w.heap.size := World.ownsRow.lt h
theorem OwnI.ne {w : World} {base b : Nat} {v : Value} {es : List Int} {cs : Array Value} {t : TypeId} {fr : Nat × Nat} (h : OwnI w base v es) (hb : w.heap[b]? = some (.cells cs t fr)) (ht : t ≠ 3) : v.ownBlock ≠ some b := by
  rcases h.2 with ⟨rfl, -⟩ | ⟨g, cap, cur, rfl, -, h2, -⟩
  · simp [Value.ownBlock]
  · intro e
    simp only [Value.ownBlock, Option.some.injEq] at e
    rw [e, hb] at h2
    simp only [Option.some.injEq, Obj.cells.injEq] at h2
    exact ht h2.2.1
theorem info_I : (Tryz.prog.info? 3).map (fun i => (i.zero, i.size, i.bytes)) = some (some (.int .i64 0), 1, 8) := by kernel_rfl
theorem info_I' : ∃ i, Tryz.prog.info? 3 = some i ∧ i.zero = some (.int .i64 0) ∧ i.size = 1 ∧ i.bytes = 8 := by
  obtain ⟨i, hi, h⟩ := Option.map_eq_some_iff.1 info_I
  simp only [Prod.mk.injEq] at h
  exact ⟨i, hi, h.1, h.2.1, h.2.2⟩
theorem under_I : Tryz.prog.underlying 30 = some (.slice 3) := by kernel_rfl
/-- append of a whole slice to a row of the call's own. -/
theorem wpList_append_I {w : World} {ops : Array Oper} {rest : List Oper} {o : Oper} {a : Act} {Q : Exit → Act → World → Prop} (hgd : o.guard = none) (s x : Operand)
    (ho : o.op = .call { callee := .builtin .append, args := #[s, x], argTypes := #[30, 30] }) (base : Nat) (v : Value) (es : List Int) (hs : a.eval s = v) (hO : OwnI w base v es)
    (ad : Addr) (m c : Nat) (fs : List Int) (hx : a.eval x = .slice (some ad) m c) (hm : fs.length = m) (hy : ∀ j u, (flatI fs)[j]? = some u → w.cell? (ad.add j) = some u)
    (hlen : es.length + m ≤ 1000000000) (hbase : base ≤ w.heap.size)
    (h : ∀ v' w', OwnI w' base v' (es ++ fs) → w.grownBy w' v.ownBlock → wpList Tryz.prog ops Q rest (a.put o.dst v') w') : wpList Tryz.prog ops Q (o :: rest) a w := by
  obtain ⟨i0, hi, hz0, hz1, hz2⟩ := info_I'
  subst hm
  refine wpList_append_own w hgd s x 30 ho base 3 i0 _ 1 8 under_I hi hz0 hz1 hz2 rfl (by decide) v es.length (flatI es) hs hO ad fs.length c (flatI fs) hx (by rw [flatI_len]; omega) hy (flatI_one fs) (by unfold maxLen; omega) (by omega) hbase ?_
  intro v' w' h1 h2 _
  refine h v' w' ?_ h2
  unfold OwnI
  rw [flatI_app, List.length_append]
  exact h1
theorem OwnI.mem {w : World} {base : Nat} {v : Value} {es : List Int} (h : OwnI w base v es) : ∃ x c, v = .slice x es.length c ∧ es.length ≤ c ∧ c ≤ 9223372036854775807 ∧ (x = none → es.length = 0 ∧ c = 0) ∧ IS w x es.length es := by
  rcases h.2 with ⟨rfl, h0⟩ | ⟨g, cap, cur, rfl, -, -, h4, h5, -⟩
  · exact ⟨none, 0, by rw [h0], by omega, by omega, fun _ => ⟨h0, rfl⟩, ⟨rfl, fun i hi => by omega⟩⟩
  · refine ⟨some ⟨g, 0, none⟩, cap, rfl, h4, by unfold maxLen at h5; omega, fun e => by simp at e, ⟨rfl, fun i hi => ⟨g, 0, rfl, ?_⟩⟩⟩
    have := World.ownsRow.cells h (g := g) rfl i _ (flatI_at hi)
    rw [Addr.add_lit] at this
    exact this

/-- What Check tells of a net. -/
def chkN (n : Nat) (vs : List Vn) (ln : Nat) (ls : List (Int × Int)) : Int := if decide (6 < n) || decide (12 < ln) then 2 else if vpcsB n vs && linksB n vs ln ls && apB ls n vs then 0 else 1
theorem vplace_mem {n : Nat} {vs : List Vn} {id : Int} (hl : vs.length = n) (h : ¬ vplace n vs id < 0) : id ∈ idsOf vs := by
  unfold vplace at h
  split at h
  · rename_i i he
    have h1 := List.find?_some he
    have h2 := List.mem_of_find?_eq_some he
    simp only [List.mem_range, beq_iff_eq] at h1 h2
    rw [← h1]
    exact ids_mem (by rw [hl]; exact h2)
  · omega
theorem chkV_zero {id : Int} {rn : Nat} {rs : List Rg} {sn : Nat} {ss : List Sb} (h : chkV id rn rs sn ss = 0) : (1 ≤ id ∧ id ≤ 65536) ∧ rn ≤ 4 := by
  unfold chkV at h
  split at h
  · omega
  · rename_i hm
    split at h
    · rename_i hw
      simp only [Bool.and_eq_true, wth, decide_eq_true_eq] at hw
      exact ⟨⟨hw.1.1.1, hw.1.1.2⟩, (few (by simpa using hm)).1⟩
    · omega
theorem vpcs_few {n : Nat} {vs : List Vn} (h : vpcsB n vs = true) : ∀ i, i < n → (0 ≤ (vnAt vs i).id ∧ (vnAt vs i).id ≤ 1000000) ∧ (vnAt vs i).rn ≤ 64 := fun i hi => by
  unfold vpcsB at h
  rw [Bool.and_eq_true] at h
  have hb : vbad (vnAt vs i) = false := by
    cases e : vbad (vnAt vs i)
    · rfl
    · rw [any_yes (f := fun i => vbad (vnAt vs i)) hi e] at h
      exact absurd h.2 (by simp)
  unfold vbad at hb
  simp only [Bool.not_eq_false', beq_iff_eq] at hb
  have := chkV_zero hb
  omega
theorem links_mem {n : Nat} {vs : List Vn} {ln : Nat} {ls : List (Int × Int)} (hl : vs.length = n) (h : linksB n vs ln ls = true) : ∀ j, j < ln → at0 ls j ∈ idsOf vs ∧ at1 ls j ∈ idsOf vs := fun j hj => by
  unfold linksB at h
  rw [Bool.and_eq_true] at h
  have hb : lbad n vs ls j = false := by
    cases e : lbad n vs ls j
    · rfl
    · rw [any_yes hj e] at h
      exact absurd h.2 (by simp)
  unfold lbad at hb
  simp only [Bool.or_eq_false_iff, decide_eq_false_iff_not] at hb
  exact ⟨vplace_mem hl hb.1.2, vplace_mem hl hb.2⟩

set_option maxRecDepth 100000 in
set_option maxHeartbeats 1600000 in
theorem checkN_any (x : Option Addr) (n c : Nat) (vs : List Vn) (lx : Option Addr) (ln lc : Nat) (ls : List (Int × Int)) (w : World) (hp : VS w x n vs) (hn : n ≤ 9223372036854775807) (hnc : n ≤ c) (hl : PS w lx ln ls) (hln : ln ≤ 9223372036854775807) :
    Calls Tryz.prog 15 #[.agg #[.slice x n c, .slice lx ln lc]] w fun e w' => e = .returned (.int .i64 (chkN n vs ln ls)) ∧ Below w.heap.size w w' := by
  have hbd : Hid (chkN n vs ln ls = if decide (6 < n) || decide (12 < ln) then 2 else if vpcsB n vs && linksB n vs ln ls && apB ls n vs then 0 else 1) := rfl
  have hvl : Hid (vs.length = n) := hp.len
  go_enter Tryz.func15, Tryz.ntmps15
  go_upto_region 1 with fail
  obtain ⟨w2, hw2⟩ : ∃ w2, w2 = w.alloc (netO x n c lx ln lc) := ⟨_, rfl⟩
  rw [← hw2]
  have h02 : Below w.heap.size w w2 := by rw [hw2]; exact bl1 w _
  have hbox : w2.heap[w.heap.size]? = some (netO x n c lx ln lc) := by rw [hw2]; exact heap_new _ rfl
  clear hw2
  obtain ⟨hcl, -⟩ := box_cells hbox
  have q0 : w2.cell? ⟨w.heap.size, 0, none⟩ = some (.slice x n c) := hcl 0
  have q1 : w2.cell? ⟨w.heap.size, 1, none⟩ = some (.slice lx ln lc) := hcl 1
  clear hcl hbox
  have hp2 := hp.later h02
  have hl2 := hl.later h02
  have hsz : Hid (w.heap.size ≤ w2.heap.size) := h02.size
  generalize hbk : w.heap.size = bk at *
  by_cases h6 : 6 < n
  · have hd : (decide ((n : Int) > 6)) = true := by simp; omega
    go_wp2
    go_ret
    exact ⟨ret_int (by rw [hbd.out, decide_eq_true h6]; rfl), by rw [hbk]; exact h02⟩
  · have hd : (decide ((n : Int) > 6)) = false := by simp; omega
    have hd6 : Hid (decide (6 < n) = false) := by show _ = _; simp; omega
    by_cases h12 : 12 < ln
    · have hd2 : (decide ((ln : Int) > 12)) = true := by simp; omega
      go_wp2
      go_ret
      exact ⟨ret_int (by rw [hbd.out, decide_eq_true h12]; simp), by rw [hbk]; exact h02⟩
    · have hd2 : (decide ((ln : Int) > 12)) = false := by simp; omega
      have hd12 : Hid (decide (12 < ln) = false) := by show _ = _; simp; omega
      cases hv : vpcsB n vs
      · go_wp2_with (go_at_call 37; refine (vpcsRight_is _ _ _ _ _ hv _ hp2 (by omega)).mono ?_; rintro e w3 ⟨rfl, hb3⟩)
        go_ret
        exact ⟨ret_int (by rw [hbd.out, hd6.out, hd12.out, hv]; rfl), by rw [hbk]; exact h02.trans (hb3.mono hsz.out)⟩
      · go_wp2_with fail
        refine (vpcsRight_is _ _ _ _ _ hv _ hp2 (by omega)).mono ?_
        rintro e w3 ⟨rfl, hb3⟩
        have h03 : Below bk w w3 := h02.trans (hb3.mono hsz.out)
        have hsz3 : Hid (bk ≤ w3.heap.size) := Nat.le_trans hsz.out hb3.size
        have r0 := cell_later hb3 q0
        have r1 := cell_later hb3 q1
        clear q0 q1
        have hp3 := hp2.later hb3
        have hl3 := hl2.later hb3
        clear hb3
        cases hli : linksB n vs ln ls
        · go_wp2_with (go_at_call 38; refine (linksRight_is _ _ _ _ _ _ _ _ _ hli _ hp3 (by omega) hl3 (by omega)).mono ?_; rintro e w4 ⟨rfl, hb4⟩)
          go_ret
          exact ⟨ret_int (by rw [hbd.out, hd6.out, hd12.out, hv, hli]; rfl), by rw [hbk]; exact h03.trans (hb4.mono hsz3.out)⟩
        · go_wp2_with fail
          refine (linksRight_is _ _ _ _ _ _ _ _ _ hli _ hp3 (by omega) hl3 (by omega)).mono ?_
          rintro e w4 ⟨rfl, hb4⟩
          have h04 : Below bk w w4 := h03.trans (hb4.mono hsz3.out)
          have hsz4 : Hid (bk ≤ w4.heap.size) := Nat.le_trans hsz3.out hb4.size
          have s0 := cell_later hb4 r0
          have s1 := cell_later hb4 r1
          clear r0 r1
          have hp4 := hp3.later hb4
          have hl4 := hl3.later hb4
          clear hb4
          have hfw := vpcs_few hv
          have hlm := links_mem hvl.out hli
          cases ha : apB ls n vs
          all_goals go_wp2_with (go_at_call 30; refine (napart_is _ _ _ _ _ _ _ _ _ ha _ hp4 (by omega) hnc hl4 (by omega) (fun i hi => (hfw i hi).1) (fun i hi => (hfw i hi).2) hlm).mono ?_; rintro e w5 ⟨rfl, hb5⟩)
          all_goals go_ret
          all_goals exact ⟨ret_int (by rw [hbd.out, hd6.out, hd12.out, hv, hli, ha]; rfl), by rw [hbk]; exact h04.trans (hb5.mono hsz4.out)⟩
theorem checkN_is (x : Option Addr) (n c : Nat) (vs : List Vn) (lx : Option Addr) (ln lc : Nat) (ls : List (Int × Int)) (t : Int) (h : chkN n vs ln ls = t) (w : World) (hp : VS w x n vs) (hn : n ≤ 9223372036854775807) (hnc : n ≤ c) (hl : PS w lx ln ls) (hln : ln ≤ 9223372036854775807) :
    Calls Tryz.prog 15 #[.agg #[.slice x n c, .slice lx ln lc]] w fun e w' => e = .returned (.int .i64 t) ∧ Below w.heap.size w w' := by
  subst h
  exact checkN_any x n c vs lx ln lc ls w hp hn hnc hl hln
end Go.Proofs.YtlalgkjollgcbaaGreat
/- Group of package net. -/
namespace Go.Proofs.YtlalgkjollgcbaaGreat
open Go.RowKit Go.Shelf Go.Maps

/-- The Ids of those that are of one group with id. -/
def grpL (ls : List (Int × Int)) (vs : List Vn) (id : Int) : List Int := (idsOf vs).filter fun y => hdOf ls y == hdOf ls id
/-- What Group tells. -/
def grpE (n : Nat) (vs : List Vn) (ln : Nat) (ls : List (Int × Int)) (id : Int) : Int := if chkN n vs ln ls = 0 then (if vplace n vs id < 0 then 5 else 0) else chkN n vs ln ls
theorem ids_take {vs : List Vn} {k : Nat} (h : k < vs.length) : idsOf (vs.take (k + 1)) = idsOf (vs.take k) ++ [(vnAt vs k).id] := by
  unfold idsOf
  rw [List.take_add_one, List.getElem?_eq_getElem h, vnAt_get h, Option.toList_some, List.map_append]
  rfl
theorem own_ne_map {w : World} {base : Nat} {v : Value} {es : List Int} (h : OwnI w base v es) {P : Program} {k : TypeId} {R : Value → Option (DataW Unit × List MemPlace)} {b n : Nat} {D : DataW Unit} (hO : w.ownsMap P k R b n D) : some b ≠ v.ownBlock := by
  obtain ⟨em, clock, h0, -⟩ := hO
  rcases h.2 with ⟨rfl, -⟩ | ⟨g, cap, cur, rfl, -, h2, -⟩
  · simp [Value.ownBlock]
  · intro e
    simp only [Value.ownBlock, Option.some.injEq] at e
    rw [← e, h0] at h2
    cases h2

def GrpPost (n : Nat) (vs : List Vn) (ln : Nat) (ls : List (Int × Int)) (id : Int) (w : World) (e : Ending) (w' : World) : Prop := ∃ v, e = .returned (.tuple #[v, .int .i64 (grpE n vs ln ls id)]) ∧ OwnI w' w.heap.size v (if grpE n vs ln ls id = 0 then grpL ls vs id else []) ∧ Below w.heap.size w w'
set_option maxRecDepth 100000 in
set_option maxHeartbeats 3200000 in
theorem group_any (x : Option Addr) (n c : Nat) (vs : List Vn) (lx : Option Addr) (ln lc : Nat) (ls : List (Int × Int)) (id : Int) (w : World) (hp : VS w x n vs) (hn : n ≤ 9223372036854775807) (hnc : n ≤ c) (hl : PS w lx ln ls) (hln : ln ≤ 9223372036854775807) :
    Calls Tryz.prog 6 #[.agg #[.slice x n c, .slice lx ln lc], .int .i64 id] w (GrpPost n vs ln ls id w) := by
  have hbd : Hid (grpE n vs ln ls id = if chkN n vs ln ls = 0 then (if vplace n vs id < 0 then 5 else 0) else chkN n vs ln ls) := rfl
  have hvl : Hid (vs.length = n) := hp.len
  go_enter Tryz.func6, Tryz.ntmps6
  go_upto_region 1 with fail
  obtain ⟨w2, hw2⟩ : ∃ w2, w2 = w.alloc (netO x n c lx ln lc) := ⟨_, rfl⟩
  rw [← hw2]
  have h02 : Below w.heap.size w w2 := by rw [hw2]; exact bl1 w _
  have hbox : w2.heap[w.heap.size]? = some (netO x n c lx ln lc) := by rw [hw2]; exact heap_new _ rfl
  clear hw2
  obtain ⟨hcl, -⟩ := box_cells hbox
  have q0 : w2.cell? ⟨w.heap.size, 0, none⟩ = some (.slice x n c) := hcl 0
  have q1 : w2.cell? ⟨w.heap.size, 1, none⟩ = some (.slice lx ln lc) := hcl 1
  clear hcl hbox
  have hp2 := hp.later h02
  have hl2 := hl.later h02
  have hsz : Hid (w.heap.size ≤ w2.heap.size) := h02.size
  generalize hbk : w.heap.size = bk at *
  go_wp2_with fail
  refine (checkN_any x n c vs lx ln lc ls _ hp2 hn hnc hl2 hln).mono ?_
  rintro e w3 ⟨rfl, hb3⟩
  have h03 : Below bk w w3 := h02.trans (hb3.mono hsz.out)
  have hsz3 : Hid (bk ≤ w3.heap.size) := Nat.le_trans hsz.out hb3.size
  have r0 := cell_later hb3 q0
  have r1 := cell_later hb3 q1
  clear q0 q1
  have hp3 := hp2.later hb3
  have hl3 := hl2.later hb3
  clear hb3 h02
  by_cases hz : chkN n vs ln ls = 0
  · have hfw : vpcsB n vs = true ∧ linksB n vs ln ls = true ∧ n ≤ 6 ∧ ln ≤ 12 := by
      unfold chkN at hz
      split at hz
      · omega
      · rename_i hm
        simp only [Bool.or_eq_true, decide_eq_true_eq] at hm
        split at hz
        · rename_i hw
          simp only [Bool.and_eq_true] at hw
          exact ⟨hw.1.1, hw.1.2, by omega, by omega⟩
        · omega
    obtain ⟨hvb, hlb, hn6, hl12⟩ := hfw
    have hfw := vpcs_few hvb
    have hlm := links_mem hvl.out hlb
    rw [hz]
    rw [hz] at hbd
    by_cases hpl : vplace n vs id < 0
    · have hd : decide (vplace n vs id < 0) = true := by simpa using hpl
      have hge : Hid (grpE n vs ln ls id = 5) := by show _ = _; rw [hbd.out, if_pos rfl, if_pos hpl]
      go_wp2_with (go_at_call 22; refine (place_any id x n c vs lx ln lc _ hp3 (by omega)).mono ?_; rintro e w4 ⟨rfl, hb4⟩)
      refine bodyPost_ret (v := .tuple #[.slice none 0 0, .int .i64 5]) (by simp [results, Tryz.results6, go_sem]) rfl ⟨_, by rw [hge.out], ?_, ?_⟩
      · rw [hge.out, if_neg (by omega)]
        exact World.ownsRow_nil _ _ _ _
      · rw [hbk]; exact h03.trans (hb4.mono hsz3.out)
    · have hd : decide (vplace n vs id < 0) = false := by simpa using hpl
      have hge : Hid (grpE n vs ln ls id = 0) := by show _ = _; rw [hbd.out, if_pos rfl, if_neg hpl]
      have hidm := vplace_mem hvl.out hpl
      go_wp2_with fail
      refine (place_any id x n c vs lx ln lc _ hp3 (by omega)).mono ?_
      rintro e w4 ⟨rfl, hb4⟩
      have h04 : Below bk w w4 := h03.trans (hb4.mono hsz3.out)
      have hsz4 : Hid (bk ≤ w4.heap.size) := Nat.le_trans hsz3.out hb4.size
      have s0 := cell_later hb4 r0
      have s1 := cell_later hb4 r1
      clear r0 r1
      have hp4 := hp3.later hb4
      have hl4 := hl3.later hb4
      clear hb4 h03
      go_wp2_with fail
      refine (groupsOf_any x n c vs lx ln lc ls _ hp4 (by omega) hl4 (by omega) (fun i hi => (hfw i hi).1) hlm).mono ?_
      rintro e w5 ⟨bm, m, D, g, rfl, hbm, hO, hG, hGr, hb5⟩
      have h05 : Below bk w w5 := h04.trans (hb5.mono hsz4.out)
      have hsz5 : Hid (bk ≤ w5.heap.size) := Nat.le_trans hsz4.out hb5.size
      have t0 := cell_later hb5 s0
      have hp5 := hp4.later hb5
      clear s0 s1 hb5 h04 hp4 hl4 hp3 hl3 hp2 hl2
      have hbm' : Hid (bk ≤ bm) := Nat.le_trans hsz4.out hbm
      have hwid : ∀ y, y ∈ idsOf vs → (Lit.int .i64 y).wf = true := fun y hy => by
        obtain ⟨j, hj, rfl⟩ := mem_ids hy
        have := (hfw j (by rw [← hvl.out]; exact hj)).1
        exact wf_small this.1 this.2
      have hHd : ∀ W, W.ownsMap Tryz.prog 3 (plainElem Tryz.prog 3) bm m D → ∀ y, y ∈ idsOf vs → Calls Tryz.prog 24 #[.map (some bm), .int .i64 y] W fun e w' => e = .returned (.int .i64 (hdOf ls y)) ∧ w' = W := fun W hW y hy => by
        obtain ⟨q, hq⟩ := hGr.lead _ hy
        exact head_any _ _ D g q _ _ _ hW hG (hwid y hy) hq
      go_wp2
      go_loopw [8, 29] (fun v i wr => ∃ k : Nat, k ≤ n ∧ i = .int .i64 k ∧ Below bk w wr ∧ wr.ownsMap Tryz.prog 3 (plainElem Tryz.prog 3) bm m D ∧ OwnI wr bk v ((idsOf (vs.take k)).filter fun y => hdOf ls y == hdOf ls id)) (fun _ i _ => n - (intOf i).toNat)
      case atStart => exact ⟨0, by omega, rfl, h05, hO, World.ownsRow_nil _ _ _ _⟩
      case round =>
        obtain ⟨k, hk, rfl, hB, hOw, hI⟩ := hrel
        by_cases hlt : k < n
        · have hlt' : Hid (k < n) := hlt
          have hpr : VS wr x n vs := hp.later (by rw [hbk]; exact hB)
          obtain ⟨b, o, rfl, c0, c1, c2⟩ := hpr.cells k hlt
          have hidk : (vnAt vs k).id ∈ idsOf vs := ids_mem (by rw [hvl.out]; exact hlt)
          have hst : Hid (idsOf (vs.take (k + 1)) = idsOf (vs.take k) ++ [(vnAt vs k).id]) := ids_take (by rw [hvl.out]; exact hlt)
          go_upto_region 11 with fail
          obtain ⟨w6, hw6⟩ : ∃ w6, w6 = wr.alloc (vnO (vnAt vs k)) := ⟨_, rfl⟩
          rw [← hw6]
          have h56 : Below wr.heap.size wr w6 := by rw [hw6]; exact bl1 wr _
          have hbox : w6.heap[wr.heap.size]? = some (vnO (vnAt vs k)) := by rw [hw6]; exact heap_new _ rfl
          clear hw6 c0 c1 c2
          obtain ⟨hcl, -⟩ := box_cells hbox
          have u0 : w6.cell? ⟨wr.heap.size, 0, none⟩ = some (.int .i64 (vnAt vs k).id) := hcl 0
          clear hcl hbox
          have hwrs : Hid (bk ≤ wr.heap.size) := by have := hB.size; show _ ≤ _; omega
          have hB6 : Below bk w w6 := hB.trans (h56.mono hwrs.out)
          have hO6 := owns_later hOw h56
          have hI6 := hI.later h56
          have hs6 : Hid (bk ≤ w6.heap.size) := Nat.le_trans hwrs.out h56.size
          clear h56 hB hOw hI hpr
          have hc1 := hHd w6 hO6 _ hidk
          have hc2 := hHd w6 hO6 _ hidm
          cases hde : (hdOf ls (vnAt vs k).id == hdOf ls id)
          · go_wp2_with (first | (go_at_call_of 24 ((vnAt vs k).id); refine hc1.mono ?_; rintro e w7 ⟨rfl, rfl⟩) | (go_at_call_of 24 id; refine hc2.mono ?_; rintro e w7 ⟨rfl, rfl⟩))
            go_roundw
            case rel => exact ⟨k + 1, hlt'.out, by go_num, hB6, hO6, by rw [hst.out, List.filter_append]; simpa [hde] using hI6⟩
            case measure => simp [intOf]; have := hlt'.out; omega
          · go_wp2_with (first | (go_at_call_of 24 ((vnAt vs k).id); refine hc1.mono ?_; rintro e w7 ⟨rfl, rfl⟩) | (go_at_call_of 24 id; refine hc2.mono ?_; rintro e w7 ⟨rfl, rfl⟩) | (at_builtin; refine Hid.out ?_))
            unfold Hid
            refine wpList_append_I rfl _ _ rfl bk _ _ rfl (hI6.later (bl1 _ _)) ⟨w7.heap.size, 0, none⟩ 1 1 [(vnAt vs k).id] rfl rfl ?_ ?_ ?_ ?_
            · intro j u hj
              have hn := heap_new (W := w7) (.cells #[.int .i64 (vnAt vs k).id] 3) rfl
              rw [addr_add, Nat.zero_add]
              exact ((box_cells hn).1 j).trans (by rw [List.getElem?_toArray]; exact hj)
            · have h1 := List.length_filter_le (fun y => hdOf ls y == hdOf ls id) (idsOf (vs.take k))
              have h2 : (idsOf (vs.take k)).length ≤ k := by simp [idsOf, List.length_take]; omega
              omega
            · have := hs6.out
              simp
              omega
            intro v8 w8 hI8 hg8
            have hIa := hI6.later (bl1 w7 (.cells #[.int .i64 (vnAt vs k).id] 3))
            have hOa := hO6.alloc (.cells #[.int .i64 (vnAt vs k).id] 3)
            have hO8 := hOa.kept hg8 (own_ne_map hIa hOa)
            have hB8 : Below bk w w8 := by
              have h1 : Below bk w (w7.alloc (.cells #[.int .i64 (vnAt vs k).id] 3)) := hB6.trans ((bl1 w7 _).mono hs6.out)
              rw [← hbk] at h1 ⊢
              exact below_grownr h1 hg8 (fun k e => by rw [hbk]; exact (hIa.lt k e).1)
            have hI8' : Hid (OwnI w8 bk v8 ((idsOf (vs.take (k + 1))).filter fun y => hdOf ls y == hdOf ls id)) := by
              show OwnI _ _ _ _
              rw [hst.out, List.filter_append]
              simpa [hde] using hI8
            clear hIa hOa hg8 hI8 hI6 hO6 hB6
            go_wp2
            go_roundw
            case rel => exact ⟨k + 1, hlt'.out, by go_num, hB8, hO8, hI8'.out⟩
            case measure => simp [intOf]; have := hlt'.out; omega
        · obtain rfl : k = n := by omega
          have e : vs.take k = vs := by rw [← hvl.out, List.take_length]
          rw [e] at hI
          go_wp2
          refine bodyPost_ret (v := .tuple #[u8, .int .i64 0]) (by simp [results, Tryz.results6, go_sem]) rfl ⟨_, by rw [hge.out], ?_, ?_⟩
          · rw [hge.out, if_pos rfl, hbk]
            exact hI
          · rw [hbk]; exact hB
  · have hge : Hid (grpE n vs ln ls id = chkN n vs ln ls) := by show _ = _; rw [hbd.out, if_neg hz]
    have h1 : (chkN n vs ln ls == 0) = false := by simpa using hz
    have h2 : (chkN n vs ln ls != 0) = true := by simpa using hz
    go_wp2
    refine bodyPost_ret (v := .tuple #[.slice none 0 0, .int .i64 (chkN n vs ln ls)]) (by simp [results, Tryz.results6, go_sem]) rfl ⟨_, by rw [hge.out], ?_, ?_⟩
    · rw [hge.out, if_neg hz]
      exact World.ownsRow_nil _ _ _ _
    · rw [hbk]; exact h03
end Go.Proofs.YtlalgkjollgcbaaGreat
/- Routes in memory of the call's own. -/
namespace Go.Proofs.YtlalgkjollgcbaaGreat
open Go.RowKit Go.Shelf
end Go.Proofs.YtlalgkjollgcbaaGreat
/- slices.SortFunc of one route. -/
namespace Go.Proofs.YtlalgkjollgcbaaGreat
open Go.RowKit Go.Shelf
end Go.Proofs.YtlalgkjollgcbaaGreat
/- Table of package route at a net of one network with one range. -/
namespace Go.Proofs.YtlalgkjollgcbaaGreat
open Go.RowKit Go.Shelf

theorem bl3 (w : World) (o p q : Obj) : Below w.heap.size w (((w.alloc o).alloc p).alloc q) := (bl2 w o p).alloc (by simp; omega) _
end Go.Proofs.YtlalgkjollgcbaaGreat
/- findError and Find of package route. -/
namespace Go.Proofs.YtlalgkjollgcbaaGreat
open Go.RowKit Go.Shelf

/-- What is wrong with what Find is asked. -/
def findE (n : Nat) (ls : List Rg) (x : Int) : Int := if 64 < n then 2 else if anyAt n (fun i => !rt (rgAt ls i).a (rgAt ls i).l) then 1 else if x < 0 ∨ 65535 < x then 3 else 0
/-- The place of the best one of the first k; -1: none. -/
def bst (ls : List Rg) (x : Int) : Nat → Int
  | 0 => -1
  | k + 1 => if hld (rgAt ls k).a (rgAt ls k).l x && (decide (bst ls x k < 0) || decide ((rgAt ls (bst ls x k).toNat).l < (rgAt ls k).l)) then k else bst ls x k
theorem bst_lt (ls : List Rg) (x : Int) : ∀ k : Nat, bst ls x k < k ∧ -1 ≤ bst ls x k
  | 0 => by simp [bst]
  | k + 1 => by
    have := bst_lt ls x k
    simp only [bst]
    split <;> omega
/-- What Find answers. -/
def fndV (n : Nat) (ls : List Rg) (x : Int) : Value :=
  if findE n ls x = 0 ∧ 0 ≤ bst ls x n then .tuple #[.agg #[.int .i64 (rgAt ls (bst ls x n).toNat).a, .int .i64 (rgAt ls (bst ls x n).toNat).l, .int .i64 (rgAt ls (bst ls x n).toNat).p], .bool true, .int .i64 0]
  else .tuple #[.agg #[.int .i64 0, .int .i64 0, .int .i64 0], .bool false, .int .i64 (findE n ls x)]
theorem holds_is (a l x : Int) (t : Bool) (h : hld a l x = t) (w : World) : Calls Tryz.prog 128 #[.agg #[.int .i64 a, .int .i64 l], .int .i64 x] w fun e w' => e = .returned (.bool t) ∧ Below w.heap.size w w' := by
  subst h
  exact holds_any a l x w
theorem below_set3 {B : Nat} {a w : World} (h : Below B a w) {b : Nat} (hp : B ≤ b) (u v z : Value) : Below B a (((w.setCell ⟨b, 0, none⟩ u).setCell ⟨b, 1, none⟩ v).setCell ⟨b, 2, none⟩ z) := ((h.setCell (p := ⟨b, 0, none⟩) hp u).setCell (p := ⟨b, 1, none⟩) hp v).setCell (p := ⟨b, 2, none⟩) hp z
end Go.Proofs.YtlalgkjollgcbaaGreat
/- FindOf of package parcelwayref. -/
namespace Go.Proofs.YtlalgkjollgcbaaGreat
open Go.RowKit Go.Shelf

theorem right_is (a l : Int) (t : Bool) (h : rt a l = t) (w : World) : Calls Tryz.prog 62 #[.agg #[.int .i64 a, .int .i64 l]] w fun e w' => e = .returned (.bool t) ∧ Below w.heap.size w w' := by
  subst h
  exact right_any a l w
theorem within_is (x lo hi : Int) (t : Bool) (h : wth x lo hi = t) (w : World) : Calls Tryz.prog 34 #[.int .i64 x, .int .i64 lo, .int .i64 hi] w fun e w' => e = .returned (.bool t) ∧ w' = w := by
  subst h
  exact within_any x lo hi w
theorem holdsIt_is (a l x : Int) (t : Bool) (h : hld a l x = t) (w : World) : Calls Tryz.prog 115 #[.agg #[.int .i64 a, .int .i64 l], .int .i64 x] w fun e w' => e = .returned (.bool t) ∧ Below w.heap.size w w' := by
  subst h
  exact holdsIt_any a l x w
theorem box3_set {V : World} {b : Nat} {t : TypeId} {p q r : Value} (p' q' r' : Value) (h : V.heap[b]? = some (.cells #[p, q, r] t)) : (((V.setCell ⟨b, 0, none⟩ p').setCell ⟨b, 1, none⟩ q').setCell ⟨b, 2, none⟩ r').heap[b]? = some (.cells #[p', q', r'] t) := by
  have h1 := heap_setCell_same V b 0 _ t p' h
  have h2 := heap_setCell_same (V.setCell ⟨b, 0, none⟩ p') b 1 _ t q' h1
  have h3 := heap_setCell_same ((V.setCell ⟨b, 0, none⟩ p').setCell ⟨b, 1, none⟩ q') b 2 _ t r' h2
  simpa using h3
/-- The best one of the first k; zeros, if there is none. -/
def bstR (ls : List Rg) (x : Int) (k : Nat) : Rg := if bst ls x k < 0 then ⟨0, 0, 0⟩ else rgAt ls (bst ls x k).toNat

end Go.Proofs.YtlalgkjollgcbaaGreat
/- house. -/
namespace Go.Proofs.YtlalgkjollgcbaaGreat
open Go.RowKit Go.Shelf

/-- The network of house, its memory from block n on. -/
def houseV (n : Nat) : Vn := ⟨3, some ⟨n + 1, 0, none⟩, 1, 1, [⟨256, 10, 7⟩], some ⟨n + 1 + 1 + 1 + 1, 0, none⟩, 1, 1, [⟨1, 256, 13, some ⟨n + 1 + 1 + 1, 0, none⟩, 1, 1, [⟨2, some ⟨n + 1 + 1, 0, none⟩, 1, 1, [257]⟩]⟩]⟩
theorem heap_five (w : World) (A B C D E : Obj) : let W := ((((w.alloc A).alloc B).alloc C).alloc D).alloc E
    W.heap[w.heap.size + 1]? = some B ∧ W.heap[w.heap.size + 1 + 1]? = some C ∧ W.heap[w.heap.size + 1 + 1 + 1]? = some D ∧ W.heap[w.heap.size + 1 + 1 + 1 + 1]? = some E :=
  ⟨heap_old _ (heap_old _ (heap_old _ (heap_new (W := w.alloc A) B (by simp)))), heap_old _ (heap_old _ (heap_new (W := (w.alloc A).alloc B) C (by simp))), heap_old _ (heap_new (W := ((w.alloc A).alloc B).alloc C) D (by simp)), heap_new (W := (((w.alloc A).alloc B).alloc C).alloc D) E (by simp)⟩
end Go.Proofs.YtlalgkjollgcbaaGreat
/- house and routeBegun. -/
namespace Go.Proofs.YtlalgkjollgcbaaGreat
open Go.RowKit Go.Shelf

theorem house_chk (n : Nat) : chkN 1 [houseV n] 0 [] = 0 := by kernel_rfl
abbrev vnV (p : Vn) : Value := .agg #[.int .i64 p.id, .slice p.rx p.rn p.rc, .slice p.sx p.sn p.sc]
def begunL : List Rg := [⟨0, 0, 1⟩, ⟨256, 8, 2⟩, ⟨256, 8, 3⟩]
theorem begun_find : fndV 3 begunL 300 = .tuple #[.agg #[.int .i64 256, .int .i64 8, .int .i64 2], .bool true, .int .i64 0] := by kernel_rfl
end Go.Proofs.YtlalgkjollgcbaaGreat
