/- A law of my own: a region that draws its order, whose head reads and makes memory above a mark, and whose tail waits for all of the head. -/
import Derived.Test.YtpdoonkhnabfjaaGreatMO14
import Derived.StillTail
namespace Go.Proofs.YtpdoonkhnabfjaaGreat
open Go.RowKit

/-- The head's orders: so many operations, all of the first n, each quiet; then L. -/
def headQ (P : Program) (md : Region.Mode) (ops : Array Oper) (C : World → Prop) (n : Nat) (L : Array Bool → Act → Prop) : Nat → Array Bool → Act → Prop
  | 0, listed, a => L listed a
  | f + 1, listed, a => Region.ready md ops listed ≠ [] ∧ ∀ i ∈ Region.ready md ops listed, i < n ∧ qOp P ops C i (headQ P md ops C n L f (listed.setIfInBounds i true)) a
theorem headQ_sound {P : Program} {md : Region.Mode} {ops : Array Oper} {C : World → Prop} {n g : Nat} {L : Array Bool → Act → Prop} {Q : Exit → Act → World → Prop} (hL : ∀ listed a w, C w → L listed a → wpAny P md ops Q g listed a w) (f : Nat) :
    ∀ (listed : Array Bool) (a : Act) (w : World), C w → headQ P md ops C n L f listed a → wpAny P md ops Q (f + g) listed a w := by
  induction f with
  | zero => intro listed a w hw h; rw [Nat.zero_add]; exact hL _ _ _ hw h
  | succ f ih =>
    intro listed a w hw h
    rw [Nat.succ_add]
    refine ⟨fun h0 => absurd h0 h.1, fun i hi => ?_⟩
    exact wpOp_of_qOp hw (fun a' w' hw' h' => ih _ a' w' hw' h') (h.2 i hi).2
/-- What may come up now, and yields in every world of the class, may be taken first. -/
theorem headQ_first {P : Program} {md : Region.Mode} {ops : Array Oper} {C : World → Prop} {n i : Nat} {oi : Oper} {v : Value} {L : Array Bool → Act → Prop} (hi : ops[i]? = some oi) (hsel : ∀ (j : Nat) (o : Oper) cs b, ops[j]? = some o → o.op ≠ .select cs b)
    (hs : Region.sinkB md ops n = true) (hc : Region.chainB md ops n = true) (hn : n < ops.size) (hin : i < n) (hL : ∀ listed a, L listed a → ∀ j ∈ Region.ready md ops listed, n ≤ j) (f : Nat) :
    ∀ (listed : Array Bool) (a : Act), HeadInv md ops n listed → (∀ j oj, ops[j]? = some oj → j ≠ i → listed.getD j true = false → (∀ e ∈ oj.after, Region.binds md e = true → e.on ≠ i) → oi.apart ops oj = true) →
      i ∈ Region.ready md ops listed → YieldsIn P ops C oi v a → headQ P md ops C n L f (listed.setIfInBounds i true) (a.put oi.dst v) → headQ P md ops C n L (f + 1) listed a := by
  induction f with
  | zero =>
    intro listed a inv hfree hr hy H
    refine ⟨List.ne_nil_of_mem hr, fun j hj => ?_⟩
    have hjn : j < n := Nat.lt_of_not_le fun h => tail_waits hs hc hn inv _ i rfl hin (mem_ready.1 hr).1 j h hj
    refine ⟨hjn, ?_⟩
    by_cases e : j = i
    · subst e; exact hy.qOp hi H
    · exact absurd (hL _ _ H j (ready_mono hj e)) (by omega)
  | succ f ih =>
    intro listed a inv hfree hr hy H
    refine ⟨List.ne_nil_of_mem hr, fun j hj => ?_⟩
    have hjn : j < n := Nat.lt_of_not_le fun h => tail_waits hs hc hn inv _ i rfl hin (mem_ready.1 hr).1 j h hj
    refine ⟨hjn, ?_⟩
    by_cases e : j = i
    · subst e; exact hy.qOp hi H
    obtain ⟨hun, oj, hoj, hall⟩ := mem_ready.1 hj
    have hno : ∀ x ∈ oj.after, Region.binds md x = true → x.on ≠ i := fun x hx hb he => by
      have h1 := hall x hx hb
      rw [he, getD_both (mem_ready.1 hr).1] at h1
      cases h1
    have h2 := qOp_put hoj (hfree j oj hoj e hun hno) (fun cs b => hsel i oi cs b hi) (fun cs b => hsel j oj cs b hoj) hy (H.2 j (ready_mono hj e)).2
    refine qOp_mono (fun a' h3 => ih _ a' (inv.set hj hjn) (fun k ok hk hki hku => ?_) (ready_mono hr (Ne.symm e)) h3.1 ?_) h2
    · refine hfree k ok hk hki ?_
      by_cases hjk : j = k
      · subst hjk; exact hun
      · rw [getD_set_ne true hjk] at hku; exact hku
    · rw [Array.setIfInBounds_comm _ _ e]
      exact h3.2
theorem headQ_lex {P : Program} {md : Region.Mode} {ops : Array Oper} {C : World → Prop} {n g : Nat} {K : Act → Prop} (hsel : Region.noSelect ops = true) (hs : Region.sinkB md ops n = true) (hc : Region.chainB md ops n = true) (hn : n < ops.size) (l : List Oper) :
    ∀ (k : Nat) (listed : Array Bool) (a : Act), (∀ j, j < l.length → l[j]? = ops[k + j]?) → k + l.length = n → HeadInv md ops n listed → Region.lexHead md ops g l.length k listed = true → wpQuiet P ops C K l a →
      headQ P md ops C n (fun listed' a' => Region.seqB md ops g n listed' = true ∧ K a') l.length listed a := by
  induction l with
  | nil =>
    intro k listed a _ hk _ hB h
    obtain rfl : k = n := by simpa using hk
    exact ⟨by simpa [Region.lexHead] using hB, h⟩
  | cons o l ih =>
    intro k listed a hl hk inv hB h
    have h0 : ops[k]? = some o := by simpa using (hl 0 (by simp)).symm
    simp only [List.length_cons, Region.lexHead, Bool.and_eq_true] at hB
    have hkn : k < n := by simp only [List.length_cons] at hk; omega
    have hr : k ∈ Region.ready md ops listed := by simpa using hB.1.1
    have hq : qOp P ops C k (wpQuiet P ops C K l) a := by unfold qOp; simp only [h0]; exact h
    obtain ⟨v, hy, hK⟩ := yieldsIn_of_qOp h0 hq
    refine headQ_first h0 (Region.noSelect_spec hsel) hs hc hn hkn (fun _ _ hL => seqB_ready hL.1) l.length listed a inv (Region.free_spec h0 hB.1.2) hr hy ?_
    exact ih (k + 1) _ _ (fun j hj => by have := hl (j + 1) (by simp; omega); simpa [Nat.add_assoc, Nat.add_comm 1 j] using this) (by simp only [List.length_cons] at hk; omega) (inv.set hr hkn) hB.2 hK
theorem wp_region_tail {P : Program} {id : Nat} {Q : Exit → Act → World → Prop} {a : Act} {w : World} {l : List Oper} (m n : Nat) (hm : P.follows .mixedOrders = true) (hB : Region.lexTailB .any l.toArray n = true)
    (h : wpQuiet P l.toArray (fun w' => ∃ u : Ws m w, w' = u.val) (fun a' => ∀ u : Ws m w, wpList P l.toArray Q (l.drop n) a' u.val) (l.take n) a) : (Code.region id l.toArray true).wp P Q a w := by
  simp only [Region.lexTailB, Bool.and_eq_true, decide_eq_true_eq] at hB
  obtain ⟨⟨⟨⟨hsel, hn⟩, hs⟩, hc⟩, hlex⟩ := hB
  have htl : (l.take n).length = n := by simp at hn ⊢; omega
  have hdl : (l.drop n).length = l.toArray.size - n := by simp
  have inv0 : HeadInv .any l.toArray n (Array.replicate l.toArray.size false) :=
    ⟨by simp, fun j oj _ hl => (by rw [getD_replicate_false] at hl; cases hl), fun t _ ht => getD_in (by simpa using ht) (getD_replicate_false _ _)⟩
  have H := headQ_lex (md := .any) (g := l.toArray.size - n) hsel hs hc hn (l.take n) 0 _ a (fun j hj => by rw [htl] at hj; simp [hj]) (by simpa using htl) inv0 (by rw [htl]; exact hlex) h
  refine wp_region_any hm ?_
  have h2 := headQ_sound (Q := Q) (g := l.toArray.size - n) (C := fun w' => ∃ u : Ws m w, w' = u.val) (fun listed a' w' hw' hL => by
    obtain ⟨u, rfl⟩ := hw'
    have h3 := wpAny_of_seq (md := .any) (Q' := Q) (l.drop n) n listed a' u.val (fun j => by simp [List.getElem?_drop]) (by rw [hdl]; exact hL.1) (hL.2 u)
    rwa [hdl] at h3) _ _ _ _ ⟨⟨_, (Below.refl m w).drew⟩, rfl⟩ H
  rw [htl, show n + (l.toArray.size - n) = l.toArray.size by omega] at h2
  exact h2
end Go.Proofs.YtpdoonkhnabfjaaGreat
/- What Close of package pool comes to. -/
namespace Go.Proofs.YtpdoonkhnabfjaaGreat
open Go.RowKit Go.Shelf

theorem poAt_del {qs : List Po} {i : Nat} (hi : i < qs.length) (j : Nat) : poAt (qs.take i ++ qs.drop (i + 1)) j = if j < i then poAt qs j else poAt qs (j + 1) := by
  unfold poAt
  rw [List.getD_eq_getElem?_getD, List.getD_eq_getElem?_getD, List.getD_eq_getElem?_getD]
  have hl : (qs.take i).length = i := by rw [List.length_take]; omega
  by_cases h1 : j < i
  · rw [if_pos h1, List.getElem?_append_left (by omega), List.getElem?_take_of_lt h1]
  · rw [if_neg h1, List.getElem?_append_right (by omega), hl, List.getElem?_drop, show i + 1 + (j - i) = j + 1 by omega]
theorem OBk.del {W W' : World} {base g n m cap : Nat} {qs : List Po} {i : Nat} (h : OBk W base (.slice (some ⟨g, 0, none⟩) n cap) qs qs.length) (hi : i < qs.length) (hg : W.grownBy W' (some g)) (hr : OwnP W' base (.slice (some ⟨g, 0, none⟩) m cap) (qs.take i ++ qs.drop (i + 1))) :
    OBk W' base (.slice (some ⟨g, 0, none⟩) m cap) (qs.take i ++ qs.drop (i + 1)) (qs.take i ++ qs.drop (i + 1)).length := by
  have hl : (qs.take i ++ qs.drop (i + 1)).length + 1 = qs.length := by simp; omega
  obtain ⟨-, cur, hgc⟩ := h.row.block
  have hk : ∀ j, j < qs.length → OwnL W' base (.slice (poAt qs j).x (poAt qs j).n (poAt qs j).c) (poAt qs j).ls := fun j hj => (h.own j hj).kept hg (fun k hk e => by subst e; exact (h.own j hj).ne hgc (by decide) hk)
  refine ⟨hr, fun j hj => ?_, fun j hj hj2 => by omega, fun j k hj hk hjk b hbj hbk => ?_⟩
  · rw [poAt_del hi]
    by_cases c1 : j < i
    · rw [if_pos c1]; exact hk j (by omega)
    · rw [if_neg c1]; exact hk (j + 1) (by omega)
  · rw [poAt_del hi] at hbj hbk
    by_cases c1 : j < i
    · rw [if_pos c1] at hbj
      by_cases d1 : k < i
      · rw [if_pos d1] at hbk; exact h.apart j k (by omega) (by omega) hjk b hbj hbk
      · rw [if_neg d1] at hbk; exact h.apart j (k + 1) (by omega) (by omega) (by omega) b hbj hbk
    · rw [if_neg c1] at hbj
      by_cases d1 : k < i
      · rw [if_pos d1] at hbk; exact h.apart (j + 1) k (by omega) (by omega) (by omega) b hbj hbk
      · rw [if_neg d1] at hbk; exact h.apart (j + 1) (k + 1) (by omega) (by omega) (by omega) b hbj hbk
theorem atId_first {ps : List Po} {id : Int} {i : Nat} (h : atId ps id = i) : i < ps.length ∧ (poAt ps i).id = id ∧ ∀ j, j < i → (poAt ps j).id ≠ id := by
  unfold atId at h
  cases hf : ps.findIdx? (fun p => p.id == id) with
  | none => rw [hf] at h; simp only at h; omega
  | some k =>
    rw [hf] at h
    simp only at h
    obtain rfl : k = i := by omega
    rw [List.findIdx?_eq_some_iff_getElem] at hf
    obtain ⟨hi, h1, h2⟩ := hf
    refine ⟨hi, by rw [poAt_get hi]; simpa using h1, fun j hj => ?_⟩
    have := h2 j hj
    rw [poAt_get (by omega)]
    simpa using this
theorem atId_none {ps : List Po} {id : Int} (h : atId ps id < 0) : ∀ j, j < ps.length → (poAt ps j).id ≠ id := by
  intro j hj e
  unfold atId at h
  cases hf : ps.findIdx? (fun p => p.id == id) with
  | none =>
    rw [List.findIdx?_eq_none_iff] at hf
    have := hf _ (List.getElem_mem hj)
    rw [poAt_get hj] at e
    simp [e] at this
  | some k => rw [hf] at h; simp only at h; omega
theorem atId_same {ps qs : List Po} (h : sameB ps qs) (id : Int) : atId qs id = atId ps id := by
  by_cases h1 : atId ps id < 0
  · have h2 := atId_none h1
    rw [atId_no (ps := ps) h2, atId_no]
    intro j hj
    rw [← h.1] at hj
    rw [← (h.2 j hj).1]
    exact h2 j hj
  · obtain ⟨i, hi, hat, -⟩ := atId_range h1
    obtain ⟨-, h3, h4⟩ := atId_first hat
    rw [hat]
    refine atId_yes (by rw [← h.1]; exact hi) (by rw [← (h.2 i hi).1]; exact h3) (fun j hj => ?_)
    rw [← (h.2 j (by omega)).1]
    exact h4 j hj
theorem ids_ok {ps : List Po} (h : idsB ps.length ps = true) (i : Nat) (hi : i < ps.length) : 1 ≤ (poAt ps i).id ∧ (poAt ps i).id ≤ 65536 := by
  unfold idsB at h
  simp only [Bool.and_eq_true, Bool.not_eq_true'] at h
  have h2 := h.2
  by_cases hw : wth (poAt ps i).id 1 65536 = true
  · unfold wth at hw; simpa using hw
  · have := any_yes (n := ps.length) (f := fun i => !wth (poAt ps i).id 1 65536) hi (by simpa using hw)
    rw [this] at h2
    cases h2
theorem up_has {t : Int} {ps : List Po} {i k : Nat} (h : chkB t ps = 0) (hi : i < ps.length) (hk : atId ps (poAt ps i).up = k) : ∃ j : Nat, j < (poAt ps k).n ∧ firstAt (poAt ps k).n (forB (poAt ps k).ls (poAt ps i).id) = j := by
  obtain ⟨-, -, hids, -, hp⟩ := chk_ok h
  obtain ⟨-, -, hup, -⟩ := pool_ok (hp i hi)
  obtain ⟨hkl, hkid, -⟩ := atId_first hk
  have hu : (poAt ps i).up ≠ 0 := by have := ids_ok hids k hkl; omega
  obtain ⟨f, hf⟩ : ∃ f, ps.length = f + 1 := ⟨ps.length - 1, by omega⟩
  rw [hf] at hup
  unfold upB at hup
  rw [if_neg hu, hk, if_neg (by omega)] at hup
  simp only [Int.toNat_natCast] at hup
  split at hup
  · rename_i ha
    obtain ⟨j, hj, h1, h2⟩ := least_at ha
    exact ⟨j, hj, firstAt_yes hj h1 h2⟩
  · cases hup
theorem OwnP.cells9 {w : World} {base g n cap : Nat} {ps : List Po} (h : OwnP w base (.slice (some ⟨g, 0, none⟩) n cap) ps) (i : Nat) (hi : i < ps.length) : w.cell? ⟨g, i * 9, none⟩ = some (.int .i64 (poAt ps i).id) ∧ w.cell? ⟨g, i * 9 + 1, none⟩ = some (.int .i64 (poAt ps i).up) ∧ w.cell? ⟨g, i * 9 + 2, none⟩ = some (.int .i64 (poAt ps i).a) ∧ w.cell? ⟨g, i * 9 + 3, none⟩ = some (.int .i64 (poAt ps i).l) ∧ w.cell? ⟨g, i * 9 + 4, none⟩ = some (.int .i64 (poAt ps i).mn) ∧ w.cell? ⟨g, i * 9 + 5, none⟩ = some (.int .i64 (poAt ps i).mx) ∧ w.cell? ⟨g, i * 9 + 6, none⟩ = some (.int .i64 (poAt ps i).us) ∧ w.cell? ⟨g, i * 9 + 7, none⟩ = some (.int .i64 (poAt ps i).co) ∧ w.cell? ⟨g, i * 9 + 8, none⟩ = some (.slice (poAt ps i).x (poAt ps i).n (poAt ps i).c) := by
  obtain ⟨xw, cw, he4, -, -, -, hm4⟩ := h.mem
  obtain ⟨b4, o4, he5, k0, k1, k2, k3, k4, k5, k6, k7, k8⟩ := hm4 i hi
  simp only [Value.slice.injEq] at he4
  rw [← he4.1] at he5
  simp only [Option.some.injEq, Addr.mk.injEq] at he5
  obtain ⟨rfl, rfl, -⟩ := he5
  simp only [Nat.zero_add] at k0 k1 k2 k3 k4 k5 k6 k7 k8
  exact ⟨k0, k1, k2, k3, k4, k5, k6, k7, k8⟩
/-- A lease that is not cooling. -/
def busyB (ls : List Le) (i : Nat) : Bool := !((leAt ls i).kd == 3)
set_option maxRecDepth 20000 in
theorem close1_any (p : Le) (w : World) :
    Calls Tryz.prog 68 #[.agg #[.int .i64 p.a, .int .i64 p.l, .int .i64 p.kd, .int .i64 p.ow, .int .i64 p.un]] w fun e w' => e = .returned (.bool (!(p.kd == 3))) ∧ Below w.heap.size w w' := by
  go_enter Tryz.func68, Tryz.ntmps68
  go_wp2
  go_ret
  exact ⟨rfl, bl1 w _⟩
theorem call_close1 (args : Array Value) (W : World) : (callFunc 68 args).run Tryz.prog W = .ok (.enter 68 args) W := by simp [go_sem]
theorem close_fn (n : Nat) (ls : List Le) (w : World) : FnLeAt 68 #[] n ls (busyB ls) w := fun i _ W _ => close1_any (leAt ls i) W
def closeE (t : Int) (ps : List Po) (id : Int) : Int :=
  if chkB t ps ≠ 0 then chkB t ps else if atId ps id < 0 then 5 else if anyAt (poAt ps (atId ps id).toNat).n (busyB (poAt ps (atId ps id).toNat).ls) = true then 9 else 0
/-- The pool i is gone; the lease of the pool above it, if there is one, cools. -/
def CloseAt (t : Int) (ps : List Po) (i : Nat) (rs : List Po) : Prop :=
  ∃ qs, (atId ps (poAt ps i).up < 0 → sameB ps qs) ∧ (∀ k : Nat, atId ps (poAt ps i).up = k → CoolAt ps k (firstAt (poAt ps k).n (forB (poAt ps k).ls (poAt ps i).id)).toNat t qs) ∧ rs = qs.take i ++ qs.drop (i + 1)
def CloseR (t : Int) (ps : List Po) (id : Int) (t' : Int) (rs : List Po) : Prop := t' = t ∧ CloseAt t ps (atId ps id).toNat rs
def ClosePost (t : Int) (ps : List Po) (id : Int) (w : World) : Ending → World → Prop := BkPost (closeE t ps id) (CloseR t ps id) w

set_option maxRecDepth 100000 in
set_option maxHeartbeats 1600000 in
theorem close_any (t : Int) (x : Option Addr) (n c : Nat) (ps : List Po) (id : Int) (w : World) (hk : Bk w x n c ps) :
    Calls Tryz.prog 36 #[.agg #[.int .i64 t, .slice x n c], .int .i64 id] w (ClosePost t ps id w) := by
  have hpl : Hid (ps.length = n) := hk.ps.len
  go_enter Tryz.func36, Tryz.ntmps36
  go_upto_region 1 with fail
  obtain ⟨w0, hw0⟩ : ∃ w0, w0 = (w.alloc (bkV t (.slice x n c))).alloc (bkV 0 (.slice none 0 0)) := ⟨_, rfl⟩
  rw [← hw0]
  have hT0 : TC w w0 t (.slice x n c) := by
    rw [hw0]
    exact ⟨heap_old _ (heap_new _ rfl), heap_new _ (by simp), bl2 w _ _⟩
  clear hw0
  have b0 : w0.cell? ⟨w.heap.size, 0, none⟩ = some (.int .i64 t) := (box_cells hT0.hb).1 0
  have b1 : w0.cell? ⟨w.heap.size, 1, none⟩ = some (.slice x n c) := (box_cells hT0.hb).1 1
  have s0 : w0.cell? ⟨w.heap.size + 1, 0, none⟩ = some (.int .i64 0) := (box_cells hT0.hs).1 0
  have s1 : w0.cell? ⟨w.heap.size + 1, 1, none⟩ = some (.slice none 0 0) := (box_cells hT0.hs).1 1
  have zs0 : w0.frozen? ⟨w.heap.size + 1, 0, none⟩ = false := (box_cells hT0.hs).2 0
  have zs1 : w0.frozen? ⟨w.heap.size + 1, 1, none⟩ = false := (box_cells hT0.hs).2 1
  have hck := checkB_any t x n c ps w0 (hk.later hT0.below)
  by_cases hc0 : chkB t ps = 0
  · rw [hc0] at hck
    obtain ⟨hn8, ⟨ht0, ht1⟩, -⟩ := chk_ok hc0
    rw [hpl.out] at hn8
    have hE1 : Hid (closeE t ps id = if atId ps id < 0 then 5 else if anyAt (poAt ps (atId ps id).toNat).n (busyB (poAt ps (atId ps id).toNat).ls) = true then 9 else 0) := if_neg (c := chkB t ps ≠ 0) (by simp [hc0])
    go_wp2_with fail
    refine hck.mono ?_
    rintro e w1 ⟨rfl, hb1⟩
    have hT1 := hT0.later hb1
    clear b0 b1 s0 s1 zs0 zs1 hb1 hck
    have b0 : w1.cell? ⟨w.heap.size, 0, none⟩ = some (.int .i64 t) := (box_cells hT1.hb).1 0
    have b1 : w1.cell? ⟨w.heap.size, 1, none⟩ = some (.slice x n c) := (box_cells hT1.hb).1 1
    have s0 : w1.cell? ⟨w.heap.size + 1, 0, none⟩ = some (.int .i64 0) := (box_cells hT1.hs).1 0
    have s1 : w1.cell? ⟨w.heap.size + 1, 1, none⟩ = some (.slice none 0 0) := (box_cells hT1.hs).1 1
    have zs0 : w1.frozen? ⟨w.heap.size + 1, 0, none⟩ = false := (box_cells hT1.hs).2 0
    have zs1 : w1.frozen? ⟨w.heap.size + 1, 1, none⟩ = false := (box_cells hT1.hs).2 1
    have hpc := place_any t id x n c ps w1 (hk.later hT1.below).ps (by omega)
    by_cases hat : atId ps id < 0
    · have hne : Hid (closeE t ps id = 5 ∧ (5 : Int) ≠ 0) := ⟨hE1.out.trans (if_pos hat), by decide⟩
      go_wp2_with fail
      refine hpc.mono ?_
      rintro e w2 ⟨rfl, hb2⟩
      have hT2 := hT1.later hb2
      clear b0 b1 s0 s1 zs0 zs1 hb2 hE1
      have b0 : w2.cell? ⟨w.heap.size, 0, none⟩ = some (.int .i64 t) := (box_cells hT2.hb).1 0
      have b1 : w2.cell? ⟨w.heap.size, 1, none⟩ = some (.slice x n c) := (box_cells hT2.hb).1 1
      have s0 : w2.cell? ⟨w.heap.size + 1, 0, none⟩ = some (.int .i64 0) := (box_cells hT2.hs).1 0
      have s1 : w2.cell? ⟨w.heap.size + 1, 1, none⟩ = some (.slice none 0 0) := (box_cells hT2.hs).1 1
      have zs0 : w2.frozen? ⟨w.heap.size + 1, 0, none⟩ = false := (box_cells hT2.hs).2 0
      have zs1 : w2.frozen? ⟨w.heap.size + 1, 1, none⟩ = false := (box_cells hT2.hs).2 1
      go_wp2
      refine bodyPost_ret (v := .tuple #[.agg #[.int .i64 0, .slice none 0 0], .int .i64 5]) (by simp [results, Tryz.results36, go_sem, s0, s1]) rfl ?_
      exact BkPost.err hne.out ((hT2.below.setCell (p := ⟨w.heap.size + 1, 0, none⟩) (Nat.le_add_right _ _) _).setCell (p := ⟨w.heap.size + 1, 1, none⟩) (Nat.le_add_right _ _) _)
    · obtain ⟨i, hi, hati, hiid⟩ := atId_range hat
      have hin0 : Hid (i < ps.length) := hi
      rw [hpl.out] at hi
      have hto : (atId ps id).toNat = i := by rw [hati]; rfl
      have hR : Hid (∀ rs, CloseAt t ps i rs → CloseR t ps id t rs) := fun rs h => ⟨rfl, by rw [hto]; exact h⟩
      have hE2 : Hid (closeE t ps id = if anyAt (poAt ps i).n (busyB (poAt ps i).ls) = true then 9 else 0) := by
        have h := hE1.out
        rw [if_neg hat, hto] at h
        exact h
      have hid : Hid ((poAt ps i).id = id) := hiid
      rw [hati] at hpc
      clear hat hati hto hE1 hiid
      go_wp2_with fail
      refine hpc.mono ?_
      rintro e w2 ⟨rfl, hb2⟩
      have hT2 := hT1.later hb2
      have hi0 : (0 : Int) ≤ i := by omega
      clear b0 b1 s0 s1 zs0 zs1 hb2 hpc
      have b0 : w2.cell? ⟨w.heap.size, 0, none⟩ = some (.int .i64 t) := (box_cells hT2.hb).1 0
      have b1 : w2.cell? ⟨w.heap.size, 1, none⟩ = some (.slice x n c) := (box_cells hT2.hb).1 1
      have s0 : w2.cell? ⟨w.heap.size + 1, 0, none⟩ = some (.int .i64 0) := (box_cells hT2.hs).1 0
      have s1 : w2.cell? ⟨w.heap.size + 1, 1, none⟩ = some (.slice none 0 0) := (box_cells hT2.hs).1 1
      have zs0 : w2.frozen? ⟨w.heap.size + 1, 0, none⟩ = false := (box_cells hT2.hs).2 0
      have zs1 : w2.frozen? ⟨w.heap.size + 1, 1, none⟩ = false := (box_cells hT2.hs).2 1
      have hk2 := hk.later hT2.below
      obtain ⟨b, o, rfl, c0, c1, c2, c3, c4, c5, c6, c7, c8⟩ := hk2.ps.cells i hi
      obtain ⟨hlc, hlm, hLS⟩ := hk2.ps.leases i hi
      have hin : (i : Int) < n := by omega
      have hcf := containsFuncLe_any 68 #[] (poAt ps i).x (poAt ps i).n (poAt ps i).c (poAt ps i).ls (busyB (poAt ps i).ls) w2 hLS hlm (close_fn _ _ w2) call_close1
      cases hany : anyAt (poAt ps i).n (busyB (poAt ps i).ls) with
      | true =>
        have hne : Hid (closeE t ps id = 9 ∧ (9 : Int) ≠ 0) := ⟨hE2.out.trans (if_pos hany), by decide⟩
        rw [hany] at hcf
        clear hR hE2
        go_wp2_with fail
        refine hcf.mono ?_
        rintro e w3 ⟨rfl, hb3⟩
        have hT3 := hT2.later hb3
        clear b0 b1 s0 s1 zs0 zs1 hb3 c0 c1 c2 c3 c4 c5 c6 c7 c8
        have b0 : w3.cell? ⟨w.heap.size, 0, none⟩ = some (.int .i64 t) := (box_cells hT3.hb).1 0
        have b1 : w3.cell? ⟨w.heap.size, 1, none⟩ = some (.slice (some ⟨b, o, none⟩) n c) := (box_cells hT3.hb).1 1
        have s0 : w3.cell? ⟨w.heap.size + 1, 0, none⟩ = some (.int .i64 0) := (box_cells hT3.hs).1 0
        have s1 : w3.cell? ⟨w.heap.size + 1, 1, none⟩ = some (.slice none 0 0) := (box_cells hT3.hs).1 1
        have zs0 : w3.frozen? ⟨w.heap.size + 1, 0, none⟩ = false := (box_cells hT3.hs).2 0
        have zs1 : w3.frozen? ⟨w.heap.size + 1, 1, none⟩ = false := (box_cells hT3.hs).2 1
        go_wp2
        refine bodyPost_ret (v := .tuple #[.agg #[.int .i64 0, .slice none 0 0], .int .i64 9]) (by simp [results, Tryz.results36, go_sem, s0, s1]) rfl ?_
        exact BkPost.err hne.out ((hT3.below.setCell (p := ⟨w.heap.size + 1, 0, none⟩) (Nat.le_add_right _ _) _).setCell (p := ⟨w.heap.size + 1, 1, none⟩) (Nat.le_add_right _ _) _)
      | false =>
        have hE0 : Hid (closeE t ps id = 0) := hE2.out.trans (if_neg (by rw [hany]; decide))
        rw [hany] at hcf
        clear hE2
        go_wp2_with fail
        refine hcf.mono ?_
        rintro e w3 ⟨rfl, hb3⟩
        have hT3 := hT2.later hb3
        clear b0 b1 s0 s1 zs0 zs1 hb3 c0 c1 c2 c3 c4 c5 c6 c7 c8 hcf
        have b0 : w3.cell? ⟨w.heap.size, 0, none⟩ = some (.int .i64 t) := (box_cells hT3.hb).1 0
        have b1 : w3.cell? ⟨w.heap.size, 1, none⟩ = some (.slice (some ⟨b, o, none⟩) n c) := (box_cells hT3.hb).1 1
        have s0 : w3.cell? ⟨w.heap.size + 1, 0, none⟩ = some (.int .i64 0) := (box_cells hT3.hs).1 0
        have s1 : w3.cell? ⟨w.heap.size + 1, 1, none⟩ = some (.slice none 0 0) := (box_cells hT3.hs).1 1
        have zs0 : w3.frozen? ⟨w.heap.size + 1, 0, none⟩ = false := (box_cells hT3.hs).2 0
        have zs1 : w3.frozen? ⟨w.heap.size + 1, 1, none⟩ = false := (box_cells hT3.hs).2 1
        go_wp2_with fail
        refine (freshBook_any t (some ⟨b, o, none⟩) n c ps w3 (hk.later hT3.below) (by omega)).mono ?_
        rintro e w5 ⟨v5, qs, rfl, hs, hOB, hb5⟩
        obtain ⟨k, hqk⟩ : ∃ k, qs.length = k + 1 := ⟨n - 1, by rw [← hs.1, hpl.out]; omega⟩
        have hkn : Hid (k + 1 = n) := by unfold Hid; rw [← hqk, ← hs.1, hpl.out]
        have hik : i ≤ k := by have := hkn.out; omega
        obtain ⟨xq, capq, hvq, hcap1, hcap2, -, hmq⟩ := hOB.row.mem
        rcases hOB.row.2 with ⟨-, h0⟩ | ⟨g, cap, cur, hv5, hg1, hg2, -⟩
        · omega
        obtain ⟨bq, oq, hxq, -, hup, -, -, -, -, -, -, -⟩ := hmq i (by omega)
        rw [hv5] at hvq
        simp only [Value.slice.injEq] at hvq
        obtain ⟨hvx, -, hvc⟩ := hvq
        rw [← hvx] at hxq
        simp only [Option.some.injEq, Addr.mk.injEq] at hxq
        obtain ⟨rfl, rfl, -⟩ := hxq
        subst hvc
        rw [hqk] at hcap1
        clear hvx hmq
        rw [hqk] at hv5
        subst hv5
        clear b0 b1 s0 s1 zs0 zs1
        go_upto_region 10 with fail
        obtain ⟨w6, hw6⟩ : ∃ w6, w6 = w5.alloc (bkV t (.slice (some ⟨g, 0, none⟩) (k + 1) cap)) := ⟨_, rfl⟩
        rw [← hw6]
        have hT6 : TC w w6 t (.slice (some ⟨b, o, none⟩) n c) := by rw [hw6]; exact (hT3.later hb5).later (bl1 _ _)
        have hn6 : w6.heap[w5.heap.size]? = some (bkV t (.slice (some ⟨g, 0, none⟩) (k + 1) cap)) := by rw [hw6]; exact heap_new _ rfl
        have hOB6 : OBk w6 w3.heap.size (.slice (some ⟨g, 0, none⟩) (k + 1) cap) qs qs.length := by
          rw [hw6]
          exact hOB.later (bl1 _ _)
        have hs6 : w3.heap.size ≤ w6.heap.size := by rw [hw6]; have := hb5.size; simp; omega
        have hup6 : w6.cell? ⟨g, i * 9 + 1, none⟩ = some (.int .i64 (poAt qs i).up) := by rw [hw6]; exact cell_later_add (bl1 _ _) (by simpa using hup)
        have hsz : w.heap.size + 1 < w3.heap.size := (Array.getElem?_eq_some_iff.1 hT3.hs).1
        have hnb : w.heap.size + 1 < w5.heap.size := by have := hb5.size; omega
        clear hw6 hOB hb5 hg2 hup
        have hsp := hs.2 i (by rw [hpl.out]; exact hi)
        rw [← hsp.2.1] at hup6
        have hik2 : (i : Int) < (k : Int) + 1 := by omega
        have m0 : w6.cell? ⟨w5.heap.size, 0, none⟩ = some (.int .i64 t) := (box_cells hn6).1 0
        have m1 : w6.cell? ⟨w5.heap.size, 1, none⟩ = some (.slice (some ⟨g, 0, none⟩) (k + 1) cap) := (box_cells hn6).1 1
        obtain ⟨xq2, cq2, hvq2, hBk2⟩ := (hOB6.later (Below.refl _ _).drew).bk (fun j hj => by
          have hj2 : j < ps.length := by rw [hs.1]; exact hj
          have h1 := (hs.2 j hj2).2.2.2.2.2.2.2.2.1
          have h2 := (chk_pool hc0 j hj2).1
          omega)
        simp only [Value.slice.injEq] at hvq2
        obtain ⟨rfl, -, rfl⟩ := hvq2
        have hk7 : k ≤ 7 := by have := hkn.out; omega
        have hpl2 := place_any t (poAt ps i).up (some ⟨g, 0, none⟩) qs.length cap qs w6.drew hBk2.ps (by omega)
        rw [atId_same hs, hqk] at hpl2
        obtain ⟨ua, hua⟩ : ∃ ua, Hid (ua = atId ps (poAt ps i).up) := ⟨_, rfl⟩
        rw [← hua.out] at hpl2
        go_cut [9] (fun s wc => s = .int .i64 ua ∧ Below w6.heap.size w6 wc)
        case first =>
          clear hBk2
          go_region_with (go_at_call 19; refine hpl2.mono ?_; rintro e w7 ⟨rfl, hb7⟩; have hB7 : Below w6.heap.size w6 w7 := ⟨hb7.os, hb7.tape, hb7.output, hb7.size, hb7.block⟩; have hup7 := cell_later_add hB7 hup6)
          all_goals go_wp2
          all_goals go_meet
          all_goals (case rel => exact ⟨rfl, hB7⟩)
        case rest =>
          obtain ⟨rfl, hB7⟩ := hcut
          have hT7 := hT6.later hB7
          have hOB7 := hOB6.later hB7
          have hn7 := heap_later hB7 hn6
          have hs7 : w3.heap.size ≤ wc.heap.size := Nat.le_trans hs6 hB7.size
          clear m0 m1 hpl2 hup6 hBk2 hB7 hT6 hOB6 hn6
          go_upto_if 41 with fail
          go_cut [9] (fun s wd => ∃ qq, Hid (CloseR t ps id t (qq.take i ++ qq.drop (i + 1))) ∧ qq.length = k + 1 ∧ OBk wd w3.heap.size (.slice (some ⟨g, 0, none⟩) (k + 1) cap) qq qq.length ∧ TC w wd t (.slice (some ⟨b, o, none⟩) n c) ∧ wd.heap[w5.heap.size]? = some (bkV t (.slice (some ⟨g, 0, none⟩) (k + 1) cap)) ∧ w3.heap.size ≤ wd.heap.size)
          case first =>
            by_cases hun : ua < 0
            · have hR2 : Hid (CloseR t ps id t (qs.take i ++ qs.drop (i + 1))) := hR.out _ ⟨qs, fun _ => hs, fun k hk => by have := hua.out; omega, rfl⟩
              go_wp2
              go_meet
              case rel => exact ⟨qs, hR2, hqk, hOB7, hT7, hn7, hs7⟩
            · obtain ⟨u, hul, hue, -⟩ := atId_range (ps := ps) (id := (poAt ps i).up) (by rw [← hua.out]; exact hun)
              obtain ⟨j, hj, hjf⟩ := up_has hc0 hin0.out hue
              rw [hid.out] at hjf
              have hspu := hs.2 u hul
              have hR2 : Hid (∀ x' c', CloseR t ps id t ((qs.set u (withL (poAt qs u) x' (coolL (poAt qs u) j t).length c' (coolL (poAt qs u) j t))).take i ++ (qs.set u (withL (poAt qs u) x' (coolL (poAt qs u) j t).length c' (coolL (poAt qs u) j t))).drop (i + 1))) := fun x' c' => hR.out _ ⟨_, fun h => by omega, fun k hk => by
                have hku : k = u := by omega
                subst hku
                refine ⟨qs, x', c', hs, ?_⟩
                rw [hid.out, hjf, coolL_same hspu]
                rfl, rfl⟩
              obtain rfl : ua = (u : Int) := hua.out.trans hue
              have hcpu := chk_pool hc0 u hul
              have hspu2 := hspu
              obtain ⟨-, -, -, -, -, -, -, hqc, hqn, hqls⟩ := hspu2
              have huq : u < qs.length := by rw [← hs.1]; exact hul
              have huk : u < k + 1 := by rw [← hqk]; exact huq
              rw [hqn] at hj hjf
              rw [hqls] at hjf
              have hlf := fun W h => leaseFor_is id (poAt qs u) W h (by omega)
              rw [hjf] at hlf
              have hLSu := (hOB7.own u huq).ls.1
              have hu0 : (0 : Int) ≤ u := by omega
              have hu1 : (u : Int) < (k : Int) + 1 := by omega
              have hj0 : (0 : Int) ≤ j := by omega
              clear hun hue hjf hspu hid hR hua
              have m0 : wc.cell? ⟨w5.heap.size, 0, none⟩ = some (.int .i64 t) := (box_cells hn7).1 0
              have m1 : wc.cell? ⟨w5.heap.size, 1, none⟩ = some (.slice (some ⟨g, 0, none⟩) (k + 1) cap) := (box_cells hn7).1 1
              obtain ⟨r0, r1, r2, r3, r4, r5, r6, r7, r8⟩ := hOB7.row.cells9 u huq
              go_upto_region 12 with fail
              have g0 := Ws.here m0
              have g1 := Ws.here m1
              have q0 := Ws.here r0
              have q1 := Ws.here r1
              have q2 := Ws.here r2
              have q3 := Ws.here r3
              have q4 := Ws.here r4
              have q5 := Ws.here r5
              have q6 := Ws.here r6
              have q7 := Ws.here r7
              have q8 := Ws.here r8
              clear m0 m1 r0 r1 r2 r3 r4 r5 r6 r7 r8
              refine wp_region_tail wc.heap.size 13 (by kernel_rfl) (by kernel_rfl) ?_
              simp only [List.take_succ_cons, List.take_zero, List.drop_succ_cons, List.drop_zero]
              repeat (go_big_quiet_step ((go_at_call 69; exact Calls.in_ws (Nat.le_refl _) (hlf _ (hLSu.later (Ws.property _))))))
              refine wpQuiet_nil ?_
              intro uu
              have hB8 := uu.property
              generalize uu.val = w8 at hB8 ⊢
              clear uu g0 g1 q0 q1 q2 q3 q4 q5 q6 q7 q8 hlf
              have hcool := cool_any w3.heap.size g (k + 1) cap qs u j t w8 (hOB7.later hB8) huq hj (by omega) (Nat.le_trans hs7 hB8.size) ht0 ht1 (by omega) (by omega)
              go_wp2_with fail
              refine hcool.mono ?_
              rintro e w9' ⟨rfl, x', c', hOB9', hK9'⟩
              have hKu : Kept w3.heap.size wc w9' := (Kept.of_below hB8 hs7).trans hK9'
              go_wp2
              go_meet
              case rel => exact ⟨_, hR2.out x' c', by rw [List.length_set]; exact hqk, hOB9', hT7.kept hKu hT3.below.size, hKu.box _ _ _ hn7 (by decide) (by decide), Nat.le_trans hs7 hKu.size⟩
          case rest =>
            obtain ⟨qq, hR3, hqqL, hOBq, hTq, hnW, hsq⟩ := hcut
            have m1 : wc.cell? ⟨w5.heap.size, 1, none⟩ = some (.slice (some ⟨g, 0, none⟩) (k + 1) cap) := (box_cells hnW).1 1
            have hdel := deleteP_any w3.heap.size g k cap i (i + 1) qq wc hOBq.row hqqL hik rfl (by omega) hcap1 hcap2
            rw [show ((i + 1 : Nat) : Int) = (i : Int) + 1 by omega] at hdel
            go_wp2_with fail
            refine hdel.mono ?_
            rintro e w8 ⟨rfl, hO8, hg8⟩
            have hOB8 := hOBq.del (by rw [hqqL]; omega) hg8 hO8
            obtain ⟨hbg, curg, hgc⟩ := hOBq.row.block
            have hK8 : Kept w3.heap.size wc w8 := Kept.of_grown hg8 hbg hsq hgc (.inl rfl)
            have hT8 := hTq.kept hK8 hT3.below.size
            have hn8 := hK8.box _ _ _ hnW (by decide) (by decide)
            clear m1 hdel hO8
            have q0 : w8.cell? ⟨w5.heap.size, 0, none⟩ = some (.int .i64 t) := (box_cells hn8).1 0
            have q1 : w8.cell? ⟨w5.heap.size, 1, none⟩ = some (.slice (some ⟨g, 0, none⟩) (k + 1) cap) := (box_cells hn8).1 1
            have zq1 : w8.frozen? ⟨w5.heap.size, 1, none⟩ = false := (box_cells hn8).2 1
            go_upto_region 14 with fail
            obtain ⟨w9, hw9⟩ : ∃ w9, w9 = w8.setCell ⟨w5.heap.size, 1, none⟩ (.slice (some ⟨g, 0, none⟩) k cap) := ⟨_, rfl⟩
            rw [← hw9]
            have hT9 : TC w w9 t (.slice (some ⟨b, o, none⟩) n c) := by rw [hw9]; exact hT8.put hnb
            have hn9 : w9.heap[w5.heap.size]? = some (bkV t (.slice (some ⟨g, 0, none⟩) k cap)) := by
              rw [hw9]
              have := heap_setCell_same w8 w5.heap.size 1 _ _ (.slice (some ⟨g, 0, none⟩) k cap) hn8
              simpa [bkV] using this
            have hOB9 : OBk w9 w3.heap.size (.slice (some ⟨g, 0, none⟩) k cap) (qq.take i ++ qq.drop (i + 1)) (qq.take i ++ qq.drop (i + 1)).length := by rw [hw9]; exact hOB8.putBox hn8 (by decide) (by decide)
            clear hw9 q0 q1 zq1 hOB8 hT8 hn8
            have q0 : w9.cell? ⟨w5.heap.size, 0, none⟩ = some (.int .i64 t) := (box_cells hn9).1 0
            have q1 : w9.cell? ⟨w5.heap.size, 1, none⟩ = some (.slice (some ⟨g, 0, none⟩) k cap) := (box_cells hn9).1 1
            have s0 : w9.cell? ⟨w.heap.size + 1, 0, none⟩ = some (.int .i64 0) := (box_cells hT9.hs).1 0
            have s1 : w9.cell? ⟨w.heap.size + 1, 1, none⟩ = some (.slice none 0 0) := (box_cells hT9.hs).1 1
            have zs0 : w9.frozen? ⟨w.heap.size + 1, 0, none⟩ = false := (box_cells hT9.hs).2 0
            have zs1 : w9.frozen? ⟨w.heap.size + 1, 1, none⟩ = false := (box_cells hT9.hs).2 1
            go_wp2
            refine bodyPost_ret (v := .tuple #[.agg #[.int .i64 t, .slice (some ⟨g, 0, none⟩) k cap], .int .i64 0]) (by simp [results, Tryz.results36, go_sem, s0, s1]) rfl ?_
            have hfin := (hT9.below.setCell (p := ⟨w.heap.size + 1, 0, none⟩) (Nat.le_add_right _ _) (.int .i64 t)).setCell (p := ⟨w.heap.size + 1, 1, none⟩) (Nat.le_add_right _ _) (.slice (some ⟨g, 0, none⟩) k cap)
            have hob := ((hOB9.put (o := 0) (u := .int .i64 t) hsz).put (o := 1) (u := .slice (some ⟨g, 0, none⟩) k cap) hsz).low hT3.below.size
            exact ⟨_, _, t, by rw [hE0.out], hfin, hob, fun h => absurd hE0.out h, fun _ => hR3.out⟩
  · have hne : Hid (closeE t ps id = chkB t ps ∧ chkB t ps ≠ 0) := ⟨if_pos hc0, hc0⟩
    go_wp2_with fail
    refine hck.mono ?_
    rintro e w1 ⟨rfl, hb1⟩
    have hT1 := hT0.later hb1
    clear b0 b1 s0 s1 zs0 zs1 hck hb1
    have b0 : w1.cell? ⟨w.heap.size, 0, none⟩ = some (.int .i64 t) := (box_cells hT1.hb).1 0
    have b1 : w1.cell? ⟨w.heap.size, 1, none⟩ = some (.slice x n c) := (box_cells hT1.hb).1 1
    have s0 : w1.cell? ⟨w.heap.size + 1, 0, none⟩ = some (.int .i64 0) := (box_cells hT1.hs).1 0
    have s1 : w1.cell? ⟨w.heap.size + 1, 1, none⟩ = some (.slice none 0 0) := (box_cells hT1.hs).1 1
    have zs0 : w1.frozen? ⟨w.heap.size + 1, 0, none⟩ = false := (box_cells hT1.hs).2 0
    have zs1 : w1.frozen? ⟨w.heap.size + 1, 1, none⟩ = false := (box_cells hT1.hs).2 1
    go_wp2
    refine bodyPost_ret (v := .tuple #[.agg #[.int .i64 0, .slice none 0 0], .int .i64 (chkB t ps)]) (by simp [results, Tryz.results36, go_sem, s0, s1]) rfl ?_
    exact BkPost.err hne.out ((hT1.below.setCell (p := ⟨w.heap.size + 1, 0, none⟩) (Nat.le_add_right _ _) _).setCell (p := ⟨w.heap.size + 1, 1, none⟩) (Nat.le_add_right _ _) _)
end Go.Proofs.YtpdoonkhnabfjaaGreat
/- What nestRoot of package pool comes to. -/
namespace Go.Proofs.YtpdoonkhnabfjaaGreat
open Go.RowKit Go.Shelf

def nestRE (t : Int) (ps : List Po) (id up z : Int) : Int :=
  if chkB t ps ≠ 0 then chkB t ps else if wth id 1 65536 = false then 3 else if atId ps up < 0 then 5 else if 0 ≤ atId ps id then 6 else pfitE (poAt ps (atId ps up).toNat) z
def nestRO (t : Int) (ps : List Po) (id up z : Int) : Int × Int :=
  if nestRE t ps id up z ≠ 0 then (0, 0) else pfitO (poAt ps (atId ps up).toNat) z
def NestRPost (t : Int) (ps : List Po) (id up z : Int) (w : World) (r : Ending) (w' : World) : Prop :=
  r = .returned (.tuple #[.agg #[.int .i64 (nestRO t ps id up z).1, .int .i64 (nestRO t ps id up z).2], .int .i64 (nestRE t ps id up z)]) ∧ Below w.heap.size w w'
theorem NestRPost.err {t : Int} {ps : List Po} {id up z E : Int} {w w' : World} (hE : nestRE t ps id up z = E ∧ E ≠ 0) (hb : Below w.heap.size w w') :
    NestRPost t ps id up z w (.returned (.tuple #[.agg #[.int .i64 0, .int .i64 0], .int .i64 E])) w' := by
  refine ⟨?_, hb⟩
  have h : nestRO t ps id up z = (0, 0) := if_pos (by rw [hE.1]; exact hE.2)
  rw [h, hE.1]
theorem pfitO_err {p : Po} {z : Int} (h : pfitE p z ≠ 0) : pfitO p z = (0, 0) := by
  unfold pfitE at h
  unfold pfitO
  by_cases h1 : z < p.mn ∨ p.mx < z
  · rw [if_pos h1]
  · rw [if_neg h1] at h ⊢
    cases hq : pfitS p z with
    | none => rfl
    | some y => rw [hq] at h; exact absurd rfl h
/-- A book, and room for a prefix, at the end of the memory that was. -/
structure TR (w W : World) (t : Int) (v : Value) : Prop where
  hb : W.heap[w.heap.size]? = some (bkV t v)
  hr : W.heap[w.heap.size + 1]? = some (.cells #[.int .i64 0, .int .i64 0] 26)
  below : Below w.heap.size w W
theorem TR.later {w W W' : World} {t : Int} {v : Value} (h : TR w W t v) (hb : Below W.heap.size W W') : TR w W' t v :=
  ⟨heap_later hb h.hb, heap_later hb h.hr, h.below.trans (hb.mono h.below.size)⟩

set_option maxRecDepth 100000 in
set_option maxHeartbeats 1600000 in
theorem nestRoot_any (t : Int) (x : Option Addr) (n c : Nat) (ps : List Po) (id up z : Int) (w : World) (hk : Bk w x n c ps) :
    Calls Tryz.prog 23 #[.agg #[.int .i64 t, .slice x n c], .int .i64 id, .int .i64 up, .int .i64 z] w (NestRPost t ps id up z w) := by
  have hpl : Hid (ps.length = n) := hk.ps.len
  go_enter Tryz.func23, Tryz.ntmps23
  go_upto_region 1 with fail
  obtain ⟨w0, hw0⟩ : ∃ w0, w0 = (w.alloc (bkV t (.slice x n c))).alloc (.cells #[.int .i64 0, .int .i64 0] 26) := ⟨_, rfl⟩
  rw [← hw0]
  have hT0 : TR w w0 t (.slice x n c) := by
    rw [hw0]
    exact ⟨heap_old _ (heap_new _ rfl), heap_new _ (by simp), bl2 w _ _⟩
  clear hw0
  have b0 : w0.cell? ⟨w.heap.size, 0, none⟩ = some (.int .i64 t) := (box_cells hT0.hb).1 0
  have b1 : w0.cell? ⟨w.heap.size, 1, none⟩ = some (.slice x n c) := (box_cells hT0.hb).1 1
  have r0 : w0.cell? ⟨w.heap.size + 1, 0, none⟩ = some (.int .i64 0) := (box_cells hT0.hr).1 0
  have r1 : w0.cell? ⟨w.heap.size + 1, 1, none⟩ = some (.int .i64 0) := (box_cells hT0.hr).1 1
  have zr0 : w0.frozen? ⟨w.heap.size + 1, 0, none⟩ = false := (box_cells hT0.hr).2 0
  have zr1 : w0.frozen? ⟨w.heap.size + 1, 1, none⟩ = false := (box_cells hT0.hr).2 1
  have hck := checkB_any t x n c ps w0 (hk.later hT0.below)
  by_cases hc0 : chkB t ps = 0
  · rw [hc0] at hck
    obtain ⟨hn8, -, -⟩ := chk_ok hc0
    rw [hpl.out] at hn8
    have hE1 : Hid (nestRE t ps id up z = if wth id 1 65536 = false then 3 else if atId ps up < 0 then 5 else if 0 ≤ atId ps id then 6 else pfitE (poAt ps (atId ps up).toNat) z) := if_neg (c := chkB t ps ≠ 0) (by simp [hc0])
    go_wp2_with fail
    refine (hck).mono ?_
    rintro e w1 ⟨rfl, hb_⟩
    have hT1 := hT0.later hb_
    clear b0 b1 r0 r1 zr0 zr1 hb_ 
    have b0 : w1.cell? ⟨w.heap.size, 0, none⟩ = some (.int .i64 t) := (box_cells hT1.hb).1 0
    have b1 : w1.cell? ⟨w.heap.size, 1, none⟩ = some (.slice x n c) := (box_cells hT1.hb).1 1
    have r0 : w1.cell? ⟨w.heap.size + 1, 0, none⟩ = some (.int .i64 0) := (box_cells hT1.hr).1 0
    have r1 : w1.cell? ⟨w.heap.size + 1, 1, none⟩ = some (.int .i64 0) := (box_cells hT1.hr).1 1
    have zr0 : w1.frozen? ⟨w.heap.size + 1, 0, none⟩ = false := (box_cells hT1.hr).2 0
    have zr1 : w1.frozen? ⟨w.heap.size + 1, 1, none⟩ = false := (box_cells hT1.hr).2 1
    have hpc := place_any t up x n c ps w1 (hk.later hT1.below).ps (by omega)
    obtain ⟨ua, hua⟩ : ∃ ua, Hid (ua = atId ps up) := ⟨_, rfl⟩
    rw [← hua.out] at hpc
    go_wp2_with fail
    refine (hpc).mono ?_
    rintro e w2 ⟨rfl, hb_⟩
    have hT2 := hT1.later hb_
    clear b0 b1 r0 r1 zr0 zr1 hb_ 
    have b0 : w2.cell? ⟨w.heap.size, 0, none⟩ = some (.int .i64 t) := (box_cells hT2.hb).1 0
    have b1 : w2.cell? ⟨w.heap.size, 1, none⟩ = some (.slice x n c) := (box_cells hT2.hb).1 1
    have r0 : w2.cell? ⟨w.heap.size + 1, 0, none⟩ = some (.int .i64 0) := (box_cells hT2.hr).1 0
    have r1 : w2.cell? ⟨w.heap.size + 1, 1, none⟩ = some (.int .i64 0) := (box_cells hT2.hr).1 1
    have zr0 : w2.frozen? ⟨w.heap.size + 1, 0, none⟩ = false := (box_cells hT2.hr).2 0
    have zr1 : w2.frozen? ⟨w.heap.size + 1, 1, none⟩ = false := (box_cells hT2.hr).2 1
    cases hid : wth id 1 65536 with
    | false =>
      have hne : Hid (nestRE t ps id up z = 3 ∧ (3 : Int) ≠ 0) := ⟨hE1.out.trans (if_pos hid), by decide⟩
      clear hE1
      go_wp2_with fail
      refine (isId_is id false hid _).mono ?_
      rintro e w2 ⟨rfl, rfl⟩
      go_wp2
      refine bodyPost_ret (v := .tuple #[.agg #[.int .i64 0, .int .i64 0], .int .i64 3]) (by simp [results, Tryz.results23, go_sem, r0, r1]) rfl ?_
      exact NestRPost.err hne.out ((hT2.below.setCell (p := ⟨w.heap.size + 1, 0, none⟩) (Nat.le_add_right _ _) _).setCell (p := ⟨w.heap.size + 1, 1, none⟩) (Nat.le_add_right _ _) _)
    | true =>
      have hE2 : Hid (nestRE t ps id up z = if atId ps up < 0 then 5 else if 0 ≤ atId ps id then 6 else pfitE (poAt ps (atId ps up).toNat) z) := hE1.out.trans (if_neg (by rw [hid]; decide))
      clear hE1
      by_cases hun : ua < 0
      · have hne : Hid (nestRE t ps id up z = 5 ∧ (5 : Int) ≠ 0) := ⟨hE2.out.trans (if_pos (by rw [← hua.out]; exact hun)), by decide⟩
        clear hE2
        go_wp2_with fail
        refine (isId_is id true hid _).mono ?_
        rintro e w2 ⟨rfl, rfl⟩
        go_wp2
        refine bodyPost_ret (v := .tuple #[.agg #[.int .i64 0, .int .i64 0], .int .i64 5]) (by simp [results, Tryz.results23, go_sem, r0, r1]) rfl ?_
        exact NestRPost.err hne.out ((hT2.below.setCell (p := ⟨w.heap.size + 1, 0, none⟩) (Nat.le_add_right _ _) _).setCell (p := ⟨w.heap.size + 1, 1, none⟩) (Nat.le_add_right _ _) _)
      · obtain ⟨i, hi, hie, -⟩ := atId_range (ps := ps) (id := up) (by rw [← hua.out]; exact hun)
        obtain rfl : ua = (i : Int) := hua.out.trans hie
        rw [hpl.out] at hi
        have hto : (atId ps up).toNat = i := by rw [hie]; rfl
        have hE3 : Hid (nestRE t ps id up z = if 0 ≤ atId ps id then 6 else pfitE (poAt ps i) z) := by
          have h := hE2.out
          rw [if_neg (by rw [hie]; omega), hto] at h
          exact h
        have hO3 : Hid (nestRE t ps id up z = 0 → nestRO t ps id up z = pfitO (poAt ps i) z) := fun h => by
          unfold nestRO
          rw [if_neg (by rw [h]; decide), hto]
        have hi0 : (0 : Int) ≤ i := by omega
        have hin : (i : Int) < n := by omega
        clear hE2 hto hie hua hun
        have hpc2 := place_any t id x n c ps w2 (hk.later hT2.below).ps (by omega)
        by_cases hia : 0 ≤ atId ps id
        · have hne : Hid (nestRE t ps id up z = 6 ∧ (6 : Int) ≠ 0) := ⟨hE3.out.trans (if_pos hia), by decide⟩
          clear hE3 hO3
          go_wp2_with fail
          refine (isId_is id true hid _).mono ?_
          rintro e w2 ⟨rfl, rfl⟩
          go_wp2_with fail
          refine (hpc2).mono ?_
          rintro e w3 ⟨rfl, hb_⟩
          have hT3 := hT2.later hb_
          clear b0 b1 r0 r1 zr0 zr1 hb_ 
          have b0 : w3.cell? ⟨w.heap.size, 0, none⟩ = some (.int .i64 t) := (box_cells hT3.hb).1 0
          have b1 : w3.cell? ⟨w.heap.size, 1, none⟩ = some (.slice x n c) := (box_cells hT3.hb).1 1
          have r0 : w3.cell? ⟨w.heap.size + 1, 0, none⟩ = some (.int .i64 0) := (box_cells hT3.hr).1 0
          have r1 : w3.cell? ⟨w.heap.size + 1, 1, none⟩ = some (.int .i64 0) := (box_cells hT3.hr).1 1
          have zr0 : w3.frozen? ⟨w.heap.size + 1, 0, none⟩ = false := (box_cells hT3.hr).2 0
          have zr1 : w3.frozen? ⟨w.heap.size + 1, 1, none⟩ = false := (box_cells hT3.hr).2 1
          go_wp2
          refine bodyPost_ret (v := .tuple #[.agg #[.int .i64 0, .int .i64 0], .int .i64 6]) (by simp [results, Tryz.results23, go_sem, r0, r1]) rfl ?_
          exact NestRPost.err hne.out ((hT3.below.setCell (p := ⟨w.heap.size + 1, 0, none⟩) (Nat.le_add_right _ _) _).setCell (p := ⟨w.heap.size + 1, 1, none⟩) (Nat.le_add_right _ _) _)
        · have hE4 : Hid (nestRE t ps id up z = pfitE (poAt ps i) z) := hE3.out.trans (if_neg hia)
          clear hE3
          have hia2 : atId ps id < 0 := by omega
          go_wp2_with fail
          refine (isId_is id true hid _).mono ?_
          rintro e w2 ⟨rfl, rfl⟩
          go_wp2_with fail
          refine (hpc2).mono ?_
          rintro e w3 ⟨rfl, hb_⟩
          have hT3 := hT2.later hb_
          clear b0 b1 r0 r1 zr0 zr1 hb_ 
          have b0 : w3.cell? ⟨w.heap.size, 0, none⟩ = some (.int .i64 t) := (box_cells hT3.hb).1 0
          have b1 : w3.cell? ⟨w.heap.size, 1, none⟩ = some (.slice x n c) := (box_cells hT3.hb).1 1
          have r0 : w3.cell? ⟨w.heap.size + 1, 0, none⟩ = some (.int .i64 0) := (box_cells hT3.hr).1 0
          have r1 : w3.cell? ⟨w.heap.size + 1, 1, none⟩ = some (.int .i64 0) := (box_cells hT3.hr).1 1
          have zr0 : w3.frozen? ⟨w.heap.size + 1, 0, none⟩ = false := (box_cells hT3.hr).2 0
          have zr1 : w3.frozen? ⟨w.heap.size + 1, 1, none⟩ = false := (box_cells hT3.hr).2 1
          have hk3 := hk.later hT3.below
          obtain ⟨b, o, rfl, c0, c1, c2, c3, c4, c5, c6, c7, c8⟩ := hk3.ps.cells i hi
          obtain ⟨hlc, hlm, hLS⟩ := hk3.ps.leases i hi
          have hpf := pfit_any (poAt ps i) z w3 hLS hlm
          unfold PFitPost at hpf
          obtain ⟨pA, hpA⟩ : ∃ pA, Hid (pA = (pfitO (poAt ps i) z).1) := ⟨_, rfl⟩
          obtain ⟨pL, hpL⟩ : ∃ pL, Hid (pL = (pfitO (poAt ps i) z).2) := ⟨_, rfl⟩
          obtain ⟨pE, hpE⟩ : ∃ pE, Hid (pE = pfitE (poAt ps i) z) := ⟨_, rfl⟩
          rw [← hpA.out, ← hpL.out, ← hpE.out] at hpf
          go_wp2_with fail
          refine hpf.mono ?_
          rintro e w4 ⟨rfl, hb4⟩
          have hT4 := hT3.later hb4
          clear b0 b1 r0 r1 zr0 zr1 hb4 c0 c1 c2 c3 c4 c5 c6 c7 c8 hpf
          have b0 : w4.cell? ⟨w.heap.size, 0, none⟩ = some (.int .i64 t) := (box_cells hT4.hb).1 0
          have b1 : w4.cell? ⟨w.heap.size, 1, none⟩ = some (.slice (some ⟨b, o, none⟩) n c) := (box_cells hT4.hb).1 1
          have r0 : w4.cell? ⟨w.heap.size + 1, 0, none⟩ = some (.int .i64 0) := (box_cells hT4.hr).1 0
          have r1 : w4.cell? ⟨w.heap.size + 1, 1, none⟩ = some (.int .i64 0) := (box_cells hT4.hr).1 1
          have zr0 : w4.frozen? ⟨w.heap.size + 1, 0, none⟩ = false := (box_cells hT4.hr).2 0
          have zr1 : w4.frozen? ⟨w.heap.size + 1, 1, none⟩ = false := (box_cells hT4.hr).2 1
          go_wp2
          refine bodyPost_ret (v := .tuple #[.agg #[.int .i64 pA, .int .i64 pL], .int .i64 pE]) (by simp [results, Tryz.results23, go_sem, r0, r1]) rfl ?_
          refine ⟨?_, ((hT4.below.setCell (p := ⟨w.heap.size + 1, 0, none⟩) (Nat.le_add_right _ _) _).setCell (p := ⟨w.heap.size + 1, 1, none⟩) (Nat.le_add_right _ _) _)⟩
          have hEE : nestRE t ps id up z = pE := hE4.out.trans hpE.out.symm
          have hOO : nestRO t ps id up z = (pA, pL) := by
            by_cases h0 : nestRE t ps id up z = 0
            · rw [hO3.out h0, hpA.out, hpL.out]
            · have h1 : nestRO t ps id up z = (0, 0) := if_pos h0
              have h2 := pfitO_err (p := poAt ps i) (z := z) (by rw [← hE4.out]; exact h0)
              rw [h1, hpA.out, hpL.out, h2]
          rw [hOO, hEE]
  · have hne : Hid (nestRE t ps id up z = chkB t ps ∧ chkB t ps ≠ 0) := ⟨if_pos hc0, hc0⟩
    go_wp2_with fail
    refine (hck).mono ?_
    rintro e w1 ⟨rfl, hb_⟩
    have hT1 := hT0.later hb_
    clear b0 b1 r0 r1 zr0 zr1 hb_ 
    have b0 : w1.cell? ⟨w.heap.size, 0, none⟩ = some (.int .i64 t) := (box_cells hT1.hb).1 0
    have b1 : w1.cell? ⟨w.heap.size, 1, none⟩ = some (.slice x n c) := (box_cells hT1.hb).1 1
    have r0 : w1.cell? ⟨w.heap.size + 1, 0, none⟩ = some (.int .i64 0) := (box_cells hT1.hr).1 0
    have r1 : w1.cell? ⟨w.heap.size + 1, 1, none⟩ = some (.int .i64 0) := (box_cells hT1.hr).1 1
    have zr0 : w1.frozen? ⟨w.heap.size + 1, 0, none⟩ = false := (box_cells hT1.hr).2 0
    have zr1 : w1.frozen? ⟨w.heap.size + 1, 1, none⟩ = false := (box_cells hT1.hr).2 1
    go_wp2
    refine bodyPost_ret (v := .tuple #[.agg #[.int .i64 0, .int .i64 0], .int .i64 (chkB t ps)]) (by simp [results, Tryz.results23, go_sem, r0, r1]) rfl ?_
    exact NestRPost.err hne.out ((hT1.below.setCell (p := ⟨w.heap.size + 1, 0, none⟩) (Nat.le_add_right _ _) _).setCell (p := ⟨w.heap.size + 1, 1, none⟩) (Nat.le_add_right _ _) _)
end Go.Proofs.YtpdoonkhnabfjaaGreat
/- What Nest of package pool comes to. -/
namespace Go.Proofs.YtpdoonkhnabfjaaGreat
open Go.RowKit Go.Shelf

def nestE (t : Int) (ps : List Po) (id up z mn mx us co : Int) : Int :=
  if nestRE t ps id up z ≠ 0 then nestRE t ps id up z else addE ps (nestRO t ps id up z).2 mn mx us co
/-- The pool e is there, too, and the pool up has a lease for it. -/
def NestAt (ps : List Po) (e : Po) (up : Int) (rs : List Po) : Prop :=
  ∃ qs ms x' c' ls', sameB ps qs ∧ PutPo e qs ms ∧ PutLe ⟨e.a, e.l, 2, e.id, 0⟩ (poAt ms (atId ms up).toNat).ls ls' ∧ rs = ms.set (atId ms up).toNat (withL (poAt ms (atId ms up).toNat) x' ls'.length c' ls')
def NestPost (t : Int) (ps : List Po) (id up z mn mx us co : Int) (w : World) (r : Ending) (w' : World) : Prop :=
  ∃ v rs t' a l, r = .returned (.tuple #[.agg #[.int .i64 t', v], .agg #[.int .i64 a, .int .i64 l], .int .i64 (nestE t ps id up z mn mx us co)]) ∧ Below w.heap.size w w' ∧ OBk w' w.heap.size v rs rs.length ∧
    (nestE t ps id up z mn mx us co ≠ 0 → t' = 0 ∧ rs = [] ∧ a = 0 ∧ l = 0) ∧
    (nestE t ps id up z mn mx us co = 0 → t' = t ∧ (a, l) = nestRO t ps id up z ∧ NestAt ps ⟨id, up, a, l, mn, mx, us, co, none, 0, 0, []⟩ up rs)
theorem NestPost.err {t : Int} {ps : List Po} {id up z mn mx us co E : Int} {w w' : World} (hE : nestE t ps id up z mn mx us co = E ∧ E ≠ 0) (hb : Below w.heap.size w w') :
    NestPost t ps id up z mn mx us co w (.returned (.tuple #[.agg #[.int .i64 0, .slice none 0 0], .agg #[.int .i64 0, .int .i64 0], .int .i64 E])) w' :=
  ⟨_, [], 0, 0, 0, by rw [hE.1], hb, OBk.nil _ _, fun _ => ⟨rfl, rfl, rfl, rfl⟩, fun h => absurd (hE.1.symm.trans h) hE.2⟩
/-- A book, a rule, and room for a book and a prefix, at the end of the memory that was. -/
structure TN (w W : World) (t mn mx us co : Int) (v : Value) : Prop where
  hb : W.heap[w.heap.size]? = some (bkV t v)
  hu : W.heap[w.heap.size + 1]? = some (.cells #[.int .i64 mn, .int .i64 mx, .int .i64 us, .int .i64 co] 28)
  hs : W.heap[w.heap.size + 2]? = some (bkV 0 (.slice none 0 0))
  hr : W.heap[w.heap.size + 3]? = some (.cells #[.int .i64 0, .int .i64 0] 26)
  below : Below w.heap.size w W
theorem TN.later {w W W' : World} {t mn mx us co : Int} {v : Value} (h : TN w W t mn mx us co v) (hb : Below W.heap.size W W') : TN w W' t mn mx us co v :=
  ⟨heap_later hb h.hb, heap_later hb h.hu, heap_later hb h.hs, heap_later hb h.hr, h.below.trans (hb.mono h.below.size)⟩
theorem TN.kept {w W W' : World} {t mn mx us co : Int} {v : Value} {base : Nat} (h : TN w W t mn mx us co v) (hk : Kept base W W') (hb : w.heap.size ≤ base) : TN w W' t mn mx us co v :=
  ⟨hk.box _ _ _ h.hb (by decide) (by decide), hk.box _ _ _ h.hu (by decide) (by decide), hk.box _ _ _ h.hs (by decide) (by decide), hk.box _ _ _ h.hr (by decide) (by decide), h.below.trans (hk.below.mono hb)⟩
theorem TN.fin {w W : World} {t mn mx us co : Int} {v : Value} (h : TN w W t mn mx us co v) (a b c d : Value) : Below w.heap.size w ((((W.setCell ⟨w.heap.size + 2, 0, none⟩ a).setCell ⟨w.heap.size + 2, 1, none⟩ b).setCell ⟨w.heap.size + 3, 0, none⟩ c).setCell ⟨w.heap.size + 3, 1, none⟩ d) :=
  (((h.below.setCell (p := ⟨w.heap.size + 2, 0, none⟩) (Nat.le_add_right _ _) _).setCell (p := ⟨w.heap.size + 2, 1, none⟩) (Nat.le_add_right _ _) _).setCell (p := ⟨w.heap.size + 3, 0, none⟩) (Nat.le_add_right _ _) _).setCell (p := ⟨w.heap.size + 3, 1, none⟩) (Nat.le_add_right _ _) _
theorem PutPo.len {e : Po} {qs rs : List Po} (h : PutPo e qs rs) : rs.length = qs.length + 1 := by
  obtain ⟨i, hi, -, -, rfl⟩ := h
  simp
  omega
theorem PutPo.all {e : Po} {qs rs : List Po} {p : Po → Prop} (h : PutPo e qs rs) (he : p e) (hq : ∀ j, j < qs.length → p (poAt qs j)) : ∀ j, j < rs.length → p (poAt rs j) := by
  intro j hj
  have hl := h.len
  obtain ⟨i, hi, -, -, rfl⟩ := h
  rw [poAt_ins hi]
  by_cases c1 : j < i
  · rw [if_pos c1]; exact hq j (by omega)
  · rw [if_neg c1]
    by_cases c2 : j = i
    · rw [if_pos c2]; exact he
    · rw [if_neg c2]; exact hq (j - 1) (by omega)
theorem PutPo.has {e : Po} {qs rs : List Po} {up : Int} (h : PutPo e qs rs) (hq : ¬ atId qs up < 0) : ∃ k : Nat, k < rs.length ∧ atId rs up = k := by
  have hl := h.len
  obtain ⟨q, hq1, -, hq3⟩ := atId_range hq
  by_cases hn : atId rs up < 0
  · have h2 := atId_none hn
    obtain ⟨i, hi, -, -, rfl⟩ := h
    by_cases c1 : q < i
    · have := h2 q (by omega)
      rw [poAt_ins hi, if_pos c1] at this
      exact absurd hq3 this
    · have := h2 (q + 1) (by omega)
      rw [poAt_ins hi, if_neg (by omega), if_neg (by omega)] at this
      exact absurd hq3 this
  · obtain ⟨k, h1, h2, -⟩ := atId_range hn
    exact ⟨k, h1, h2⟩
theorem nest_up {t : Int} {ps : List Po} {id up z : Int} (h : nestRE t ps id up z = 0) : chkB t ps = 0 ∧ ¬ atId ps up < 0 ∧ ∀ i, i < ps.length → (poAt ps i).n ≤ 32 := by
  unfold nestRE at h
  by_cases h1 : chkB t ps = 0
  · refine ⟨h1, fun h2 => ?_, fun i hi => (chk_pool h1 i hi).1⟩
    rw [if_neg (by simp [h1])] at h
    split at h
    · cases h
    · first | (rw [if_pos h2] at h; cases h) | cases h
  · rw [if_pos h1] at h; exact absurd h h1

set_option maxRecDepth 100000 in
set_option maxHeartbeats 1600000 in
theorem nest_any (t : Int) (x : Option Addr) (n c : Nat) (ps : List Po) (id up z mn mx us co : Int) (w : World) (hk : Bk w x n c ps) :
    Calls Tryz.prog 6 #[.agg #[.int .i64 t, .slice x n c], .int .i64 id, .int .i64 up, .int .i64 z, .agg #[.int .i64 mn, .int .i64 mx, .int .i64 us, .int .i64 co]] w (NestPost t ps id up z mn mx us co w) := by
  have hpl : Hid (ps.length = n) := hk.ps.len
  go_enter Tryz.func6, Tryz.ntmps6
  go_upto_region 1 with fail
  obtain ⟨w0, hw0⟩ : ∃ w0, w0 = (((w.alloc (bkV t (.slice x n c))).alloc (.cells #[.int .i64 mn, .int .i64 mx, .int .i64 us, .int .i64 co] 28)).alloc (bkV 0 (.slice none 0 0))).alloc (.cells #[.int .i64 0, .int .i64 0] 26) := ⟨_, rfl⟩
  rw [← hw0]
  have hT0 : TN w w0 t mn mx us co (.slice x n c) := by
    rw [hw0]
    exact ⟨heap_old _ (heap_old _ (heap_old _ (heap_new _ rfl))), heap_old _ (heap_old _ (heap_new _ (by simp))), heap_old _ (heap_new _ (by simp)), heap_new _ (by simp), ((bl2 w _ _).alloc (by simp; omega) _).alloc (by simp; omega) _⟩
  clear hw0
  have b0 : w0.cell? ⟨w.heap.size, 0, none⟩ = some (.int .i64 t) := (box_cells hT0.hb).1 0
  have b1 : w0.cell? ⟨w.heap.size, 1, none⟩ = some (.slice x n c) := (box_cells hT0.hb).1 1
  have u0 : w0.cell? ⟨w.heap.size + 1, 0, none⟩ = some (.int .i64 mn) := (box_cells hT0.hu).1 0
  have u1 : w0.cell? ⟨w.heap.size + 1, 1, none⟩ = some (.int .i64 mx) := (box_cells hT0.hu).1 1
  have u2 : w0.cell? ⟨w.heap.size + 1, 2, none⟩ = some (.int .i64 us) := (box_cells hT0.hu).1 2
  have u3 : w0.cell? ⟨w.heap.size + 1, 3, none⟩ = some (.int .i64 co) := (box_cells hT0.hu).1 3
  have s0 : w0.cell? ⟨w.heap.size + 2, 0, none⟩ = some (.int .i64 0) := (box_cells hT0.hs).1 0
  have s1 : w0.cell? ⟨w.heap.size + 2, 1, none⟩ = some (.slice none 0 0) := (box_cells hT0.hs).1 1
  have zs0 : w0.frozen? ⟨w.heap.size + 2, 0, none⟩ = false := (box_cells hT0.hs).2 0
  have zs1 : w0.frozen? ⟨w.heap.size + 2, 1, none⟩ = false := (box_cells hT0.hs).2 1
  have r0 : w0.cell? ⟨w.heap.size + 3, 0, none⟩ = some (.int .i64 0) := (box_cells hT0.hr).1 0
  have r1 : w0.cell? ⟨w.heap.size + 3, 1, none⟩ = some (.int .i64 0) := (box_cells hT0.hr).1 1
  have zr0 : w0.frozen? ⟨w.heap.size + 3, 0, none⟩ = false := (box_cells hT0.hr).2 0
  have zr1 : w0.frozen? ⟨w.heap.size + 3, 1, none⟩ = false := (box_cells hT0.hr).2 1
  have hnr := nestRoot_any t x n c ps id up z w0 (hk.later hT0.below)
  unfold NestRPost at hnr
  obtain ⟨pA, hpA⟩ : ∃ pA, Hid (pA = (nestRO t ps id up z).1) := ⟨_, rfl⟩
  obtain ⟨pL, hpL⟩ : ∃ pL, Hid (pL = (nestRO t ps id up z).2) := ⟨_, rfl⟩
  rw [← hpA.out, ← hpL.out] at hnr
  by_cases hne0 : nestRE t ps id up z = 0
  · obtain ⟨hc0, hup, hn32⟩ := nest_up hne0
    have hc0' : Hid (chkB t ps = 0) := hc0
    have hup' : Hid (¬ atId ps up < 0) := hup
    have hn32' : Hid (∀ i, i < ps.length → (poAt ps i).n ≤ 32) := hn32
    have hn8 : n ≤ 8 := by rw [← hpl.out]; exact chk_len hc0
    have hE1 : Hid (nestE t ps id up z mn mx us co = addE ps pL mn mx us co) := by
      unfold Hid nestE
      rw [if_neg (by simp [hne0]), hpL.out]
    rw [hne0] at hnr
    clear hc0 hup hn32 hne0
    go_wp2_with fail
    refine hnr.mono ?_
    rintro e w1 ⟨rfl, hb1⟩
    have hT1 := hT0.later hb1
    clear b0 b1 u0 u1 u2 u3 s0 s1 zs0 zs1 r0 r1 zr0 zr1 hb1 hnr
    go_upto_region 2 with fail
    obtain ⟨w2, hw2⟩ : ∃ w2, w2 = w1.alloc (.cells #[.int .i64 pA, .int .i64 pL] 26) := ⟨_, rfl⟩
    rw [← hw2]
    have hT2 : TN w w2 t mn mx us co (.slice x n c) := by rw [hw2]; exact hT1.later (bl1 _ _)
    have hp2 : w2.heap[w1.heap.size]? = some (.cells #[.int .i64 pA, .int .i64 pL] 26) := by rw [hw2]; exact heap_new _ rfl
    have hsz1 : w.heap.size + 3 < w1.heap.size := (Array.getElem?_eq_some_iff.1 hT1.hr).1
    clear hw2
    have b0 : w2.cell? ⟨w.heap.size, 0, none⟩ = some (.int .i64 t) := (box_cells hT2.hb).1 0
    have b1 : w2.cell? ⟨w.heap.size, 1, none⟩ = some (.slice x n c) := (box_cells hT2.hb).1 1
    have u0 : w2.cell? ⟨w.heap.size + 1, 0, none⟩ = some (.int .i64 mn) := (box_cells hT2.hu).1 0
    have u1 : w2.cell? ⟨w.heap.size + 1, 1, none⟩ = some (.int .i64 mx) := (box_cells hT2.hu).1 1
    have u2 : w2.cell? ⟨w.heap.size + 1, 2, none⟩ = some (.int .i64 us) := (box_cells hT2.hu).1 2
    have u3 : w2.cell? ⟨w.heap.size + 1, 3, none⟩ = some (.int .i64 co) := (box_cells hT2.hu).1 3
    have s0 : w2.cell? ⟨w.heap.size + 2, 0, none⟩ = some (.int .i64 0) := (box_cells hT2.hs).1 0
    have s1 : w2.cell? ⟨w.heap.size + 2, 1, none⟩ = some (.slice none 0 0) := (box_cells hT2.hs).1 1
    have zs0 : w2.frozen? ⟨w.heap.size + 2, 0, none⟩ = false := (box_cells hT2.hs).2 0
    have zs1 : w2.frozen? ⟨w.heap.size + 2, 1, none⟩ = false := (box_cells hT2.hs).2 1
    have r0 : w2.cell? ⟨w.heap.size + 3, 0, none⟩ = some (.int .i64 0) := (box_cells hT2.hr).1 0
    have r1 : w2.cell? ⟨w.heap.size + 3, 1, none⟩ = some (.int .i64 0) := (box_cells hT2.hr).1 1
    have zr0 : w2.frozen? ⟨w.heap.size + 3, 0, none⟩ = false := (box_cells hT2.hr).2 0
    have zr1 : w2.frozen? ⟨w.heap.size + 3, 1, none⟩ = false := (box_cells hT2.hr).2 1
    have p0 : w2.cell? ⟨w1.heap.size, 0, none⟩ = some (.int .i64 pA) := (box_cells hp2).1 0
    have p1 : w2.cell? ⟨w1.heap.size, 1, none⟩ = some (.int .i64 pL) := (box_cells hp2).1 1
    have had := addError_any t pA pL mn mx us co x n c ps hpl.out w2
    by_cases hae : addE ps pL mn mx us co = 0
    · have hE0 : Hid (nestE t ps id up z mn mx us co = 0) := hE1.out.trans hae
      rw [hae] at had
      clear hE1 hae
      go_wp2_with fail
      refine had.mono ?_
      rintro e w3 ⟨rfl, hb3⟩
      have hT3 := hT2.later hb3
      have hp3 := heap_later hb3 hp2
      clear b0 b1 u0 u1 u2 u3 s0 s1 zs0 zs1 r0 r1 zr0 zr1 p0 p1 hb3 hp2 had
      have b0 : w3.cell? ⟨w.heap.size, 0, none⟩ = some (.int .i64 t) := (box_cells hT3.hb).1 0
      have b1 : w3.cell? ⟨w.heap.size, 1, none⟩ = some (.slice x n c) := (box_cells hT3.hb).1 1
      have u0 : w3.cell? ⟨w.heap.size + 1, 0, none⟩ = some (.int .i64 mn) := (box_cells hT3.hu).1 0
      have u1 : w3.cell? ⟨w.heap.size + 1, 1, none⟩ = some (.int .i64 mx) := (box_cells hT3.hu).1 1
      have u2 : w3.cell? ⟨w.heap.size + 1, 2, none⟩ = some (.int .i64 us) := (box_cells hT3.hu).1 2
      have u3 : w3.cell? ⟨w.heap.size + 1, 3, none⟩ = some (.int .i64 co) := (box_cells hT3.hu).1 3
      have s0 : w3.cell? ⟨w.heap.size + 2, 0, none⟩ = some (.int .i64 0) := (box_cells hT3.hs).1 0
      have s1 : w3.cell? ⟨w.heap.size + 2, 1, none⟩ = some (.slice none 0 0) := (box_cells hT3.hs).1 1
      have zs0 : w3.frozen? ⟨w.heap.size + 2, 0, none⟩ = false := (box_cells hT3.hs).2 0
      have zs1 : w3.frozen? ⟨w.heap.size + 2, 1, none⟩ = false := (box_cells hT3.hs).2 1
      have r0 : w3.cell? ⟨w.heap.size + 3, 0, none⟩ = some (.int .i64 0) := (box_cells hT3.hr).1 0
      have r1 : w3.cell? ⟨w.heap.size + 3, 1, none⟩ = some (.int .i64 0) := (box_cells hT3.hr).1 1
      have zr0 : w3.frozen? ⟨w.heap.size + 3, 0, none⟩ = false := (box_cells hT3.hr).2 0
      have zr1 : w3.frozen? ⟨w.heap.size + 3, 1, none⟩ = false := (box_cells hT3.hr).2 1
      have p0 : w3.cell? ⟨w1.heap.size, 0, none⟩ = some (.int .i64 pA) := (box_cells hp3).1 0
      have p1 : w3.cell? ⟨w1.heap.size, 1, none⟩ = some (.int .i64 pL) := (box_cells hp3).1 1
      have hwp := withPool_any t x n c ps ⟨id, up, pA, pL, mn, mx, us, co, none, 0, 0, []⟩ w3 (hk.later hT3.below) hn8 rfl rfl rfl rfl
      go_wp2_with fail
      refine hwp.mono ?_
      rintro e w5 ⟨v5, qs, ms, rfl, hb5, hs, hput, hOB⟩
      obtain ⟨k, hkl, hke⟩ := hput.has (up := up) (by rw [atId_same hs]; have := hup'.out; omega)
      have hmn : ∀ j, j < ms.length → (poAt ms j).n ≤ 32 := PutPo.all (p := fun p => p.n ≤ 32) hput (Nat.zero_le _) (fun j hj => by
        have hj2 : j < ps.length := by rw [hs.1]; exact hj
        rw [← (hs.2 j hj2).2.2.2.2.2.2.2.2.1]
        exact hn32'.out j hj2)
      have hml : ms.length ≤ 9 := by have := hput.len; rw [← hs.1, hpl.out] at this; omega
      rcases hOB.row.2 with ⟨-, h0⟩ | ⟨g, cap, cur, rfl, hg1, hg2, -⟩
      · omega
      clear b0 b1 u0 u1 u2 u3 s0 s1 zs0 zs1 r0 r1 zr0 zr1 p0 p1 hwp
      go_upto_region 7 with fail
      obtain ⟨w6, hw6⟩ : ∃ w6, w6 = w5.alloc (bkV t (.slice (some ⟨g, 0, none⟩) ms.length cap)) := ⟨_, rfl⟩
      rw [← hw6]
      have hT6 : TN w w6 t mn mx us co (.slice x n c) := by rw [hw6]; exact (hT3.later hb5).later (bl1 _ _)
      have hp6 : w6.heap[w1.heap.size]? = some (.cells #[.int .i64 pA, .int .i64 pL] 26) := by rw [hw6]; exact heap_old _ (heap_later hb5 hp3)
      have hn6 : w6.heap[w5.heap.size]? = some (bkV t (.slice (some ⟨g, 0, none⟩) ms.length cap)) := by rw [hw6]; exact heap_new _ rfl
      have hOB6 : OBk w6 w3.heap.size (.slice (some ⟨g, 0, none⟩) ms.length cap) ms ms.length := by rw [hw6]; exact hOB.later (bl1 _ _)
      have hs6 : w3.heap.size ≤ w6.heap.size := by rw [hw6]; have := hb5.size; simp; omega
      have hsz3 : w.heap.size + 3 < w3.heap.size := (Array.getElem?_eq_some_iff.1 hT3.hr).1
      have hsz5 : w.heap.size + 3 < w5.heap.size := by have := hb5.size; omega
      clear hw6 hOB hb5 hg2 hp3
      obtain ⟨xq2, cq2, hvq2, hBk2⟩ := hOB6.bk (fun j hj => by have := hmn j hj; omega)
      simp only [Value.slice.injEq] at hvq2
      obtain ⟨rfl, -, rfl⟩ := hvq2
      have hpl2 := fun W h => place_any t up (some ⟨g, 0, none⟩) ms.length cap ms W h (by omega)
      rw [hke] at hpl2
      have hps6 := hBk2.ps
      have g0 := Ws.here (v := .int .i64 t) ((box_cells hn6).1 0)
      have g1 := Ws.here (v := .slice (some ⟨g, 0, none⟩) ms.length cap) ((box_cells hn6).1 1)
      have g2 := Ws.here (v := .int .i64 pA) ((box_cells hp6).1 0)
      have g3 := Ws.here (v := .int .i64 pL) ((box_cells hp6).1 1)
      have hk0 : (0 : Int) ≤ k := by omega
      have hk1 : (k : Int) < ms.length := by omega
      have hR : Hid (∀ x' c' ls', PutLe ⟨pA, pL, 2, id, 0⟩ (poAt ms k).ls ls' → NestAt ps ⟨id, up, pA, pL, mn, mx, us, co, none, 0, 0, []⟩ up (ms.set k (withL (poAt ms k) x' ls'.length c' ls'))) := fun x' c' ls' h => ⟨qs, ms, x', c', ls', hs, hput, by rw [hke]; exact h, by rw [hke]; rfl⟩
      clear hke
      refine wp_region_tail w6.heap.size 9 (by kernel_rfl) (by kernel_rfl) ?_
      simp only [List.take_succ_cons, List.take_zero, List.drop_succ_cons, List.drop_zero]
      repeat (go_big_quiet_step ((go_at_call 19; exact Calls.in_ws (Nat.le_refl _) (hpl2 _ (hps6.later (Ws.property _))))))
      refine wpQuiet_nil ?_
      intro uu
      have hB7 := uu.property
      generalize uu.val = w7 at hB7 ⊢
      clear uu g0 g1 g2 g3 hpl2
      have hadd := addLease_any ⟨pA, pL, 2, id, 0⟩ w3.heap.size g ms.length cap ms k w7 (hOB6.later hB7) hkl (hmn k hkl) (Nat.le_trans hs6 hB7.size)
      go_wp2_with fail
      refine hadd.mono ?_
      rintro e w8 ⟨rfl, x', c', ls', hpl3, hOB8, hg8⟩
      obtain ⟨hbg, cur7, hgc7⟩ := (hOB6.later hB7).row.block
      have hKu : Kept w3.heap.size w6 w8 := (Kept.of_below hB7 hs6).trans (Kept.of_grown hg8 hbg (Nat.le_trans hs6 hB7.size) hgc7 (.inl rfl))
      have hT8 := hT6.kept hKu hT3.below.size
      have hp8 := hKu.box _ _ _ hp6 (by decide) (by decide)
      have hn8' := hKu.box _ _ _ hn6 (by decide) (by decide)
      have hR2 : Hid (NestAt ps ⟨id, up, pA, pL, mn, mx, us, co, none, 0, 0, []⟩ up (ms.set k (withL (poAt ms k) x' ls'.length c' ls'))) := hR.out x' c' ls' hpl3
      clear hadd hB7 hg8 hgc7 hKu hT6 hp6 hn6 hOB6 hR hpl3
      have m0 : w8.cell? ⟨w5.heap.size, 0, none⟩ = some (.int .i64 t) := (box_cells hn8').1 0
      have m1 : w8.cell? ⟨w5.heap.size, 1, none⟩ = some (.slice (some ⟨g, 0, none⟩) ms.length cap) := (box_cells hn8').1 1
      have p0 : w8.cell? ⟨w1.heap.size, 0, none⟩ = some (.int .i64 pA) := (box_cells hp8).1 0
      have p1 : w8.cell? ⟨w1.heap.size, 1, none⟩ = some (.int .i64 pL) := (box_cells hp8).1 1
      have n1 : ¬ w1.heap.size = w.heap.size + 2 := by omega
      have n2 : ¬ w1.heap.size = w.heap.size + 1 + 1 := by omega
      have n3 : ¬ w1.heap.size = w.heap.size + 3 := by omega
      have n4 : ¬ w1.heap.size = w.heap.size + 1 + 1 + 1 := by omega
      have n5 : ¬ w5.heap.size = w.heap.size + 2 := by omega
      have n6 : ¬ w5.heap.size = w.heap.size + 1 + 1 := by omega
      have n7 : ¬ w5.heap.size = w.heap.size + 3 := by omega
      have n8 : ¬ w5.heap.size = w.heap.size + 1 + 1 + 1 := by omega
      have s0 : w8.cell? ⟨w.heap.size + 2, 0, none⟩ = some (.int .i64 0) := (box_cells hT8.hs).1 0
      have s1 : w8.cell? ⟨w.heap.size + 2, 1, none⟩ = some (.slice none 0 0) := (box_cells hT8.hs).1 1
      have zs0 : w8.frozen? ⟨w.heap.size + 2, 0, none⟩ = false := (box_cells hT8.hs).2 0
      have zs1 : w8.frozen? ⟨w.heap.size + 2, 1, none⟩ = false := (box_cells hT8.hs).2 1
      have r0 : w8.cell? ⟨w.heap.size + 3, 0, none⟩ = some (.int .i64 0) := (box_cells hT8.hr).1 0
      have r1 : w8.cell? ⟨w.heap.size + 3, 1, none⟩ = some (.int .i64 0) := (box_cells hT8.hr).1 1
      have zr0 : w8.frozen? ⟨w.heap.size + 3, 0, none⟩ = false := (box_cells hT8.hr).2 0
      have zr1 : w8.frozen? ⟨w.heap.size + 3, 1, none⟩ = false := (box_cells hT8.hr).2 1
      go_upto_region 8 with fail
      go_region_with fail
      all_goals go_wp2
      all_goals refine bodyPost_ret (v := .tuple #[.agg #[.int .i64 t, .slice (some ⟨g, 0, none⟩) ms.length cap], .agg #[.int .i64 pA, .int .i64 pL], .int .i64 0]) (by simp [results, Tryz.results6, go_sem, s0, s1, r0, r1]) rfl ?_
      all_goals have hsz2 : w.heap.size + 2 < w3.heap.size := by omega
      all_goals have hfin := (hT8.fin (.int .i64 t) (.slice (some ⟨g, 0, none⟩) ms.length cap) (.int .i64 pA) (.int .i64 pL)).drew
      all_goals have hob := (((((hOB8.put (o := 0) (u := .int .i64 t) hsz2).put (o := 1) (u := .slice (some ⟨g, 0, none⟩) ms.length cap) hsz2).put (o := 0) (u := .int .i64 pA) hsz3).put (o := 1) (u := .int .i64 pL) hsz3).later (Below.refl _ _).drew).low hT3.below.size
      all_goals exact ⟨_, _, t, pA, pL, by rw [hE0.out], hfin, hob, fun h => absurd hE0.out h, fun _ => ⟨rfl, by rw [hpA.out, hpL.out], hR2.out⟩⟩
    · have hne : Hid (nestE t ps id up z mn mx us co = addE ps pL mn mx us co ∧ addE ps pL mn mx us co ≠ 0) := ⟨hE1.out, hae⟩
      go_wp2_with fail
      refine had.mono ?_
      rintro e w3 ⟨rfl, hb3⟩
      have hT3 := hT2.later hb3
      clear b0 b1 u0 u1 u2 u3 s0 s1 zs0 zs1 r0 r1 zr0 zr1 p0 p1 hb3 hp2 had
      have b0 : w3.cell? ⟨w.heap.size, 0, none⟩ = some (.int .i64 t) := (box_cells hT3.hb).1 0
      have b1 : w3.cell? ⟨w.heap.size, 1, none⟩ = some (.slice x n c) := (box_cells hT3.hb).1 1
      have u0 : w3.cell? ⟨w.heap.size + 1, 0, none⟩ = some (.int .i64 mn) := (box_cells hT3.hu).1 0
      have u1 : w3.cell? ⟨w.heap.size + 1, 1, none⟩ = some (.int .i64 mx) := (box_cells hT3.hu).1 1
      have u2 : w3.cell? ⟨w.heap.size + 1, 2, none⟩ = some (.int .i64 us) := (box_cells hT3.hu).1 2
      have u3 : w3.cell? ⟨w.heap.size + 1, 3, none⟩ = some (.int .i64 co) := (box_cells hT3.hu).1 3
      have s0 : w3.cell? ⟨w.heap.size + 2, 0, none⟩ = some (.int .i64 0) := (box_cells hT3.hs).1 0
      have s1 : w3.cell? ⟨w.heap.size + 2, 1, none⟩ = some (.slice none 0 0) := (box_cells hT3.hs).1 1
      have zs0 : w3.frozen? ⟨w.heap.size + 2, 0, none⟩ = false := (box_cells hT3.hs).2 0
      have zs1 : w3.frozen? ⟨w.heap.size + 2, 1, none⟩ = false := (box_cells hT3.hs).2 1
      have r0 : w3.cell? ⟨w.heap.size + 3, 0, none⟩ = some (.int .i64 0) := (box_cells hT3.hr).1 0
      have r1 : w3.cell? ⟨w.heap.size + 3, 1, none⟩ = some (.int .i64 0) := (box_cells hT3.hr).1 1
      have zr0 : w3.frozen? ⟨w.heap.size + 3, 0, none⟩ = false := (box_cells hT3.hr).2 0
      have zr1 : w3.frozen? ⟨w.heap.size + 3, 1, none⟩ = false := (box_cells hT3.hr).2 1
      go_wp2
      refine bodyPost_ret (v := .tuple #[.agg #[.int .i64 0, .slice none 0 0], .agg #[.int .i64 0, .int .i64 0], .int .i64 (addE ps pL mn mx us co)]) (by simp [results, Tryz.results6, go_sem, s0, s1, r0, r1]) rfl ?_
      exact NestPost.err hne.out (hT3.fin _ _ _ _)
  · have hne : Hid (nestE t ps id up z mn mx us co = nestRE t ps id up z ∧ nestRE t ps id up z ≠ 0) := ⟨if_pos hne0, hne0⟩
    go_wp2_with fail
    refine hnr.mono ?_
    rintro e w1 ⟨rfl, hb1⟩
    have hT1 := hT0.later hb1
    clear b0 b1 u0 u1 u2 u3 s0 s1 zs0 zs1 r0 r1 zr0 zr1 hb1 hnr
    go_upto_region 2 with fail
    obtain ⟨w2, hw2⟩ : ∃ w2, w2 = w1.alloc (.cells #[.int .i64 pA, .int .i64 pL] 26) := ⟨_, rfl⟩
    rw [← hw2]
    have hT2 : TN w w2 t mn mx us co (.slice x n c) := by rw [hw2]; exact hT1.later (bl1 _ _)
    clear hw2
    have b0 : w2.cell? ⟨w.heap.size, 0, none⟩ = some (.int .i64 t) := (box_cells hT2.hb).1 0
    have b1 : w2.cell? ⟨w.heap.size, 1, none⟩ = some (.slice x n c) := (box_cells hT2.hb).1 1
    have u0 : w2.cell? ⟨w.heap.size + 1, 0, none⟩ = some (.int .i64 mn) := (box_cells hT2.hu).1 0
    have u1 : w2.cell? ⟨w.heap.size + 1, 1, none⟩ = some (.int .i64 mx) := (box_cells hT2.hu).1 1
    have u2 : w2.cell? ⟨w.heap.size + 1, 2, none⟩ = some (.int .i64 us) := (box_cells hT2.hu).1 2
    have u3 : w2.cell? ⟨w.heap.size + 1, 3, none⟩ = some (.int .i64 co) := (box_cells hT2.hu).1 3
    have s0 : w2.cell? ⟨w.heap.size + 2, 0, none⟩ = some (.int .i64 0) := (box_cells hT2.hs).1 0
    have s1 : w2.cell? ⟨w.heap.size + 2, 1, none⟩ = some (.slice none 0 0) := (box_cells hT2.hs).1 1
    have zs0 : w2.frozen? ⟨w.heap.size + 2, 0, none⟩ = false := (box_cells hT2.hs).2 0
    have zs1 : w2.frozen? ⟨w.heap.size + 2, 1, none⟩ = false := (box_cells hT2.hs).2 1
    have r0 : w2.cell? ⟨w.heap.size + 3, 0, none⟩ = some (.int .i64 0) := (box_cells hT2.hr).1 0
    have r1 : w2.cell? ⟨w.heap.size + 3, 1, none⟩ = some (.int .i64 0) := (box_cells hT2.hr).1 1
    have zr0 : w2.frozen? ⟨w.heap.size + 3, 0, none⟩ = false := (box_cells hT2.hr).2 0
    have zr1 : w2.frozen? ⟨w.heap.size + 3, 1, none⟩ = false := (box_cells hT2.hr).2 1
    go_wp2
    refine bodyPost_ret (v := .tuple #[.agg #[.int .i64 0, .slice none 0 0], .agg #[.int .i64 0, .int .i64 0], .int .i64 (nestRE t ps id up z)]) (by simp [results, Tryz.results6, go_sem, s0, s1, r0, r1]) rfl ?_
    exact NestPost.err hne.out (hT2.fin _ _ _ _)
end Go.Proofs.YtpdoonkhnabfjaaGreat
/- The numbers of poolBegun. -/
namespace Go.Proofs.YtpdoonkhnabfjaaGreat
open Go.RowKit Go.Shelf

def pA0 (x : Option Addr) (n c : Nat) (ls : List Le) : Po := ⟨7, 0, 256, 8, 8, 16, 12, 3, x, n, c, ls⟩
def pB0 (x : Option Addr) (c : Nat) : Po := ⟨8, 7, 320, 10, 11, 14, 12, 0, x, 0, c, []⟩
def leU : Le := ⟨256, 12, 1, 5, 0⟩
def leN : Le := ⟨320, 10, 2, 8, 0⟩
def leC : Le := ⟨256, 12, 3, 0, 3⟩
theorem n_open : openE 0 [] 7 256 8 8 16 12 3 = 0 := by decide +kernel
theorem n_take1 : takeE 0 [pA0 none 0 0 []] 7 0 5 = 0 := by decide +kernel
theorem n_take1o : pfitO (pA0 none 0 0 []) (sizeZ (pA0 none 0 0 []) 0) = (256, 12) := by decide +kernel
theorem n_at (x : Option Addr) (n c : Nat) (ls : List Le) (ps : List Po) : atId (pA0 x n c ls :: ps) 7 = 0 := by kernel_rfl
theorem n_nest (x : Option Addr) (c : Nat) : nestE 0 [pA0 x 1 c [leU]] 8 7 10 11 14 12 0 = 0 := by kernel_rfl
theorem n_nesto (x : Option Addr) (c : Nat) : nestRO 0 [pA0 x 1 c [leU]] 8 7 10 = (320, 10) := by kernel_rfl
theorem n_give (x y : Option Addr) (c d : Nat) : giveE 0 [pA0 x 2 c [leU, leN], pB0 y d] 7 256 12 = 0 := by kernel_rfl
theorem n_givej (ls : List Le) : firstAt 2 (useB (leU :: ls) 256 12) = 0 := by kernel_rfl
theorem n_take2 (x y : Option Addr) (c d : Nat) : takeE 0 [pA0 x 2 c [leC, leN], pB0 y d] 7 12 5 = 0 := by kernel_rfl
theorem n_take2o (x : Option Addr) (c : Nat) : pfitO (pA0 x 2 c [leC, leN]) (sizeZ (pA0 x 2 c [leC, leN]) 12) = (272, 12) := by kernel_rfl
theorem n_pass (x y : Option Addr) (c d : Nat) : passE 0 [pA0 x 2 c [leC, leN], pB0 y d] 3 = 0 := by kernel_rfl
theorem n_passl : passL 3 [leC, leN] = [leN] := by kernel_rfl
theorem n_take3 (x y : Option Addr) (c d : Nat) : takeE 3 [pA0 x 1 c [leN], pB0 y d] 7 12 5 = 0 := by kernel_rfl
theorem n_take3o (x : Option Addr) (c : Nat) : pfitO (pA0 x 1 c [leN]) (sizeZ (pA0 x 1 c [leN]) 12) = (256, 12) := by kernel_rfl
theorem n_close (x y : Option Addr) (c d : Nat) : closeE 3 [pA0 x 1 c [leN], pB0 y d] 7 = 9 := by kernel_rfl
theorem sameP.eq {p q : Po} (h : sameP p q) : q = ⟨p.id, p.up, p.a, p.l, p.mn, p.mx, p.us, p.co, q.x, p.n, q.c, p.ls⟩ := by
  obtain ⟨h1, h2, h3, h4, h5, h6, h7, h8, h9, h10⟩ := h
  rw [h1, h2, h3, h4, h5, h6, h7, h8, h9, h10]
theorem sameB.one {p : Po} {qs : List Po} (h : sameB [p] qs) : ∃ q, qs = [q] ∧ sameP p q := by
  obtain ⟨h1, h2⟩ := h
  match qs, h1 with
  | [q], _ => exact ⟨q, rfl, h2 0 (by simp)⟩
theorem sameB.two {p p2 : Po} {qs : List Po} (h : sameB [p, p2] qs) : ∃ q q2, qs = [q, q2] ∧ sameP p q ∧ sameP p2 q2 := by
  obtain ⟨h1, h2⟩ := h
  match qs, h1 with
  | [q, q2], _ => exact ⟨q, q2, rfl, h2 0 (by simp), h2 1 (by simp)⟩
theorem sameA {x : Option Addr} {n c : Nat} {ls : List Le} {q : Po} (h : sameP (pA0 x n c ls) q) : ∃ x' c', q = pA0 x' n c' ls := ⟨_, _, h.eq⟩
theorem sameB0 {x : Option Addr} {c : Nat} {q : Po} (h : sameP (pB0 x c) q) : ∃ x' c', q = pB0 x' c' := ⟨_, _, h.eq⟩
/-- Open: one pool. -/
theorem b_open {qs rs : List Po} (h1 : sameB [] qs) (h2 : PutPo ⟨7, 0, 256, 8, 8, 16, 12, 3, none, 0, 0, []⟩ qs rs) : rs = [pA0 none 0 0 []] := by
  obtain rfl : qs = [] := List.length_eq_zero_iff.1 h1.1.symm
  obtain ⟨i, hi, -, -, rfl⟩ := h2
  simp at hi ⊢
  rfl
theorem put_empty {e : Le} {ls : List Le} (h : PutLe e [] ls) : ls = [e] := by
  obtain ⟨i, hi, -, -, rfl⟩ := h
  simp
theorem b_take {qs rs ls' : List _} {x' : Option Addr} {c' : Nat} (h1 : sameB [pA0 none 0 0 []] qs) (h2 : PutLe ⟨256, 12, 1, 5, 0⟩ [] ls') (h3 : rs = qs.set 0 (withL (poAt qs 0) x' ls'.length c' ls')) : rs = [pA0 x' 1 c' [leU]] := by
  obtain ⟨q, rfl, hq⟩ := h1.one
  obtain ⟨x2, c2, rfl⟩ := sameA hq
  rw [put_empty h2] at h3
  exact h3
theorem put_last {qs rs : List Po} {x : Option Addr} {c : Nat} {ls : List Le} (h1 : sameB [pA0 x 1 c ls] qs) (h2 : PutPo ⟨8, 7, 320, 10, 11, 14, 12, 0, none, 0, 0, []⟩ qs rs) : ∃ x' c', rs = [pA0 x' 1 c' ls, pB0 none 0] := by
  obtain ⟨q, rfl, hq⟩ := h1.one
  obtain ⟨x2, c2, rfl⟩ := sameA hq
  obtain ⟨i, hi, h3, h4, rfl⟩ := h2
  match i with
  | 0 => exact absurd (h4 (by simp)) (show ¬ ((8 : Int) < 7) by decide)
  | 1 => exact ⟨x2, c2, rfl⟩
  | i + 2 => simp at hi
theorem putle_last {ls : List Le} (h : PutLe leN [leU] ls) : ls = [leU, leN] := by
  obtain ⟨i, hi, h3, h4, rfl⟩ := h
  match i with
  | 0 => exact absurd (h4 (by simp)) (by decide +kernel)
  | 1 => rfl
  | i + 2 => simp at hi
theorem b_nest {x : Option Addr} {c : Nat} {rs : List Po} (h : NestAt [pA0 x 1 c [leU]] ⟨8, 7, 320, 10, 11, 14, 12, 0, none, 0, 0, []⟩ 7 rs) : ∃ x' c', rs = [pA0 x' 2 c' [leU, leN], pB0 none 0] := by
  obtain ⟨qs, ms, x', c', ls', h1, h2, h3, rfl⟩ := h
  obtain ⟨x2, c2, rfl⟩ := put_last h1 h2
  rw [n_at] at h3 ⊢
  have h4 : ls' = [leU, leN] := putle_last h3
  rw [h4]
  exact ⟨x', c', rfl⟩
theorem b_give {x y : Option Addr} {c d : Nat} {t' : Int} {rs : List Po} (h : GiveR 0 [pA0 x 2 c [leU, leN], pB0 y d] 7 256 12 t' rs) : t' = 0 ∧ ∃ x' c' y' d', rs = [pA0 x' 2 c' [leC, leN], pB0 y' d'] := by
  obtain ⟨h1, h2⟩ := h
  refine ⟨h1, ?_⟩
  rw [n_at] at h2
  obtain ⟨qs, x', c', hs, rfl⟩ := h2
  obtain ⟨q, q2, rfl, hq, hq2⟩ := hs.two
  obtain ⟨x2, c2, rfl⟩ := sameA hq
  obtain ⟨x3, c3, rfl⟩ := sameB0 hq2
  exact ⟨x', c', x3, c3, rfl⟩
theorem b_pass {x y : Option Addr} {c d : Nat} {t' : Int} {rs : List Po} (h : PassR 0 [pA0 x 2 c [leC, leN], pB0 y d] 3 t' rs) : t' = 3 ∧ ∃ x' c' y' d', rs = [pA0 x' 1 c' [leN], pB0 y' d'] := by
  obtain ⟨h1, qs, hs, hl, h2⟩ := h
  refine ⟨h1, ?_⟩
  obtain ⟨q, q2, rfl, hq, hq2⟩ := hs.two
  obtain ⟨x2, c2, rfl⟩ := sameA hq
  obtain ⟨x3, c3, rfl⟩ := sameB0 hq2
  match rs, hl with
  | [r1, r2], _ =>
    obtain ⟨xa, ca, ha⟩ := (h2 0 (by simp)).1 (by simp)
    obtain ⟨xb, cb, hb⟩ := (h2 1 (by simp)).1 (by simp)
    have ha2 : r1 = pA0 xa 1 ca [leN] := ha
    have hb2 : r2 = pB0 xb cb := hb
    exact ⟨xa, ca, xb, cb, by rw [ha2, hb2]⟩
end Go.Proofs.YtpdoonkhnabfjaaGreat
/- What must be in any case of pools: poolBegun answers true. -/
namespace Go.Proofs.YtpdoonkhnabfjaaGreat
open Go.RowKit Go.Shelf

def pfx (a l : Int) : Obj := .cells #[.int .i64 a, .int .i64 l] 26
/-- The book that poolBegun turns. -/
structure BB (w W : World) (nb : Nat) (t : Int) (m : Nat) (rs : List Po) : Prop where
  below : Below w.heap.size w W
  low : w.heap.size ≤ nb
  book : ∃ x c, W.heap[nb]? = some (bkV t (.slice x m c)) ∧ Bk W x m c rs
theorem BB.later {w W W' : World} {nb m : Nat} {t : Int} {rs : List Po} (h : BB w W nb t m rs) (hb : Below W.heap.size W W') : BB w W' nb t m rs := by
  obtain ⟨x, c, h1, h2⟩ := h.book
  exact ⟨h.below.trans (hb.mono h.below.size), h.low, x, c, heap_later hb h1, h2.later hb⟩
theorem two_put {W : World} {b base : Nat} {cs : Array Value} {T : TypeId} {u0 u1 v : Value} {rs : List Po} (hc : W.heap[b]? = some (.cells cs T)) (h1 : T ≠ 49) (h2 : T ≠ 55) (h : OBk W base v rs rs.length) :
    OBk ((W.setCell ⟨b, 0, none⟩ u0).setCell ⟨b, 1, none⟩ u1) base v rs rs.length :=
  (h.putBox hc h1 h2).putBox (heap_setCell_same W b 0 cs T u0 hc) h1 h2
theorem two_other {W : World} {b k : Nat} {u0 u1 : Value} (hk : k ≠ b) : ((W.setCell ⟨b, 0, none⟩ u0).setCell ⟨b, 1, none⟩ u1).heap[k]? = W.heap[k]? :=
  (heap_setCell_other _ ⟨b, 1, none⟩ k u1 hk).trans (heap_setCell_other _ ⟨b, 0, none⟩ k u0 hk)
theorem BB.put {w W W1 : World} {nb base m m' : Nat} {t t' : Int} {rs rs' : List Po} {v' : Value} (h : BB w W nb t m rs) (hb : Below W.heap.size W W1) (ho : OBk W1 base v' rs' rs'.length) (hm : rs'.length = m') (hn : ∀ i, i < m' → (poAt rs' i).n ≤ 1048576) :
    BB w ((W1.setCell ⟨nb, 0, none⟩ (.int .i64 t')).setCell ⟨nb, 1, none⟩ v') nb t' m' rs' := by
  obtain ⟨x, c, h1, h2⟩ := h.book
  have h3 := heap_later hb h1
  have h4 := two_put (u0 := .int .i64 t') (u1 := v') h3 (by decide) (by decide) ho
  subst hm
  obtain ⟨x', c', rfl, h5⟩ := h4.bk hn
  exact ⟨((h.below.trans (hb.mono h.below.size)).setCell (p := ⟨nb, 0, none⟩) h.low _).setCell (p := ⟨nb, 1, none⟩) h.low _, h.low, x', c', bkV_set h3, h5⟩
/-- The book is stored, and a prefix in a box that is new. -/
theorem BB.put2 {w W W1 : World} {nb base m m' : Nat} {t t' a l : Int} {rs rs' : List Po} {v' u0 u1 : Value} (h : BB w W nb t m rs) (hb : Below W.heap.size W W1) (ho : OBk W1 base v' rs' rs'.length) (hm : rs'.length = m') (hn : ∀ i, i < m' → (poAt rs' i).n ≤ 1048576) :
    BB w (((((W1.alloc (.cells #[u0, u1] 26)).setCell ⟨nb, 0, none⟩ (.int .i64 t')).setCell ⟨nb, 1, none⟩ v').setCell ⟨W1.heap.size, 0, none⟩ (.int .i64 a)).setCell ⟨W1.heap.size, 1, none⟩ (.int .i64 l)) nb t' m' rs' ∧
      (((((W1.alloc (.cells #[u0, u1] 26)).setCell ⟨nb, 0, none⟩ (.int .i64 t')).setCell ⟨nb, 1, none⟩ v').setCell ⟨W1.heap.size, 0, none⟩ (.int .i64 a)).setCell ⟨W1.heap.size, 1, none⟩ (.int .i64 l)).heap[W1.heap.size]? = some (pfx a l) ∧
      (∀ k o, k ≠ nb → W.heap[k]? = some o → (((((W1.alloc (.cells #[u0, u1] 26)).setCell ⟨nb, 0, none⟩ (.int .i64 t')).setCell ⟨nb, 1, none⟩ v').setCell ⟨W1.heap.size, 0, none⟩ (.int .i64 a)).setCell ⟨W1.heap.size, 1, none⟩ (.int .i64 l)).heap[k]? = some o) := by
  obtain ⟨x, c, h1, h2⟩ := h.book
  have hb2 : Below W.heap.size W (W1.alloc (.cells #[u0, u1] 26)) := hb.alloc hb.size _
  have h3 := heap_later hb2 h1
  have hnb : nb < W.heap.size := (Array.getElem?_eq_some_iff.1 h1).1
  have hne : W1.heap.size ≠ nb := by have := hb.size; omega
  have h4 := two_put (u0 := .int .i64 t') (u1 := v') h3 (by decide) (by decide) (ho.later (bl1 W1 _))
  have h6 : (((W1.alloc (.cells #[u0, u1] 26)).setCell ⟨nb, 0, none⟩ (.int .i64 t')).setCell ⟨nb, 1, none⟩ v').heap[W1.heap.size]? = some (.cells #[u0, u1] 26) := (two_other hne).trans (heap_new _ rfl)
  have h7 := two_put (u0 := .int .i64 a) (u1 := .int .i64 l) h6 (by decide) (by decide) h4
  subst hm
  obtain ⟨x', c', rfl, h5⟩ := h7.bk hn
  have hlow : w.heap.size ≤ W1.heap.size := Nat.le_trans h.below.size hb.size
  refine ⟨⟨((((h.below.trans (hb2.mono h.below.size)).setCell (p := ⟨nb, 0, none⟩) h.low _).setCell (p := ⟨nb, 1, none⟩) h.low _).setCell (p := ⟨W1.heap.size, 0, none⟩) hlow _).setCell (p := ⟨W1.heap.size, 1, none⟩) hlow _, h.low, x', c', (two_other hne.symm).trans (bkV_set h3), h5⟩, ?_, fun k o hk ho2 => ?_⟩
  · have h8 := heap_setCell_same _ W1.heap.size 0 _ _ (.int .i64 a) h6
    have h9 := heap_setCell_same _ W1.heap.size 1 _ _ (.int .i64 l) h8
    exact h9.trans (by simp [pfx])
  · have hkl : k < W.heap.size := (Array.getElem?_eq_some_iff.1 ho2).1
    refine (two_other (by have := hb.size; omega)).trans ((two_other hk).trans (heap_later hb2 ho2))
theorem loose_any (w : World) : Calls Tryz.prog 34 #[] w fun e w' => e = .returned (.agg #[.int .i64 8, .int .i64 16, .int .i64 12, .int .i64 3]) ∧ Below w.heap.size w w' := by
  go_enter Tryz.func34, Tryz.ntmps34
  go_wp2
  refine bodyPost_ret (v := .agg #[.int .i64 8, .int .i64 16, .int .i64 12, .int .i64 3]) (by simp [results, Tryz.results34, go_sem]) rfl ⟨rfl, ?_⟩
  exact bl1 w _
theorem Bk.nil (w : World) : Bk w none 0 0 [] := ⟨⟨rfl, fun i hi => by omega, fun i hi => by omega⟩, by omega, by omega⟩
theorem OBk.val {W : World} {base m : Nat} {v : Value} {rs : List Po} (h : OBk W base v rs rs.length) (hm : rs.length = m) : ∃ x c, v = .slice x m c := by
  obtain ⟨x, c, rfl, -⟩ := h.row.mem
  exact ⟨x, c, by rw [hm]⟩
theorem small1 {x : Option Addr} {c k : Nat} {ls : List Le} (hk : k ≤ 1048576) : ∀ i, i < 1 → (poAt [pA0 x k c ls] i).n ≤ 1048576 := fun i hi => by
  obtain rfl : i = 0 := by omega
  exact hk
theorem small2 {x y : Option Addr} {c d k : Nat} {ls : List Le} (hk : k ≤ 1048576) : ∀ i, i < 2 → (poAt [pA0 x k c ls, pB0 y d] i).n ≤ 1048576 := fun i hi => by
  match i, hi with
  | 0, _ => exact hk
  | 1, _ => exact Nat.zero_le _
  | i + 2, h => omega
theorem pair_eq {p q : Int × Int} {a l : Int} (h : (a, l) = p) (h2 : p = q) : a = q.1 ∧ l = q.2 := by
  rw [h2] at h
  rw [← h]
  exact ⟨rfl, rfl⟩
set_option maxRecDepth 100000 in
set_option maxHeartbeats 1600000 in
theorem poolBegun_any (w : World) :
    Calls Tryz.prog 9 #[] w fun e w' => e = .returned (.bool true) ∧ Below w.heap.size w w' := by
  go_enter Tryz.func9, Tryz.ntmps9
  go_wp2_with fail
  refine (loose_any _).mono ?_
  rintro e w1 ⟨rfl, hb1⟩
  go_wp2_with fail
  refine (open_any 0 none 0 0 [] 7 256 8 8 16 12 3 w1 (Bk.nil w1)).mono ?_
  rintro e w2 ⟨v2, rs, t', rfl, hb2, hOB2, -, hE⟩
  obtain ⟨rfl, qs, hs, hput⟩ := hE n_open
  obtain rfl := b_open hs hput
  rw [n_open]
  clear hE hs hput
  obtain ⟨x2, c2, rfl, hBk2⟩ := hOB2.bk (small1 (by omega))
  rw [show [pA0 none 0 0 []].length = 1 from rfl] at hBk2 ⊢
  go_upto_region 2 with fail
  obtain ⟨w3, hw3⟩ : ∃ w3, w3 = w2.alloc (bkV 0 (.slice x2 1 c2)) := ⟨_, rfl⟩
  rw [← hw3]
  have hB3 : BB w w3 w2.heap.size 0 1 [pA0 none 0 0 []] := by
    have hbw := hb1.trans (hb2.mono hb1.size)
    rw [hw3]
    exact ⟨hbw.trans ((bl1 w2 _).mono hbw.size), hbw.size, x2, c2, heap_new _ rfl, hBk2.later (bl1 _ _)⟩
  clear hw3 hBk2 hOB2 hb1 hb2
  generalize w2.heap.size = nb at hB3 ⊢
  obtain ⟨x3, c3, hx3, hBk3⟩ := hB3.book
  have b0 : w3.cell? ⟨nb, 0, none⟩ = some (.int .i64 0) := (box_cells hx3).1 0
  have b1 : w3.cell? ⟨nb, 1, none⟩ = some (.slice x3 1 c3) := (box_cells hx3).1 1
  go_wp2_with fail
  refine (take_any 0 x3 1 c3 [pA0 none 0 0 []] 7 0 5 w3 hBk3).mono ?_
  rintro e w4 ⟨v4, rs, t', a, l, rfl, hb4, hOB4, -, hE⟩
  obtain ⟨rfl, hal, qs, x4, c4, ls', hs, hput, hrs⟩ := hE n_take1
  rw [n_at] at hal hput hrs
  obtain ⟨rfl, rfl⟩ := pair_eq hal n_take1o
  obtain rfl := b_take hs hput hrs
  rw [n_take1]
  obtain ⟨x5, c5, rfl⟩ := hOB4.val (m := 1) rfl
  clear hE hs hput hrs hal b0 b1
  have hb4x := heap_later hb4 hx3
  have b0 : ∀ o, (w4.alloc o).cell? ⟨nb, 0, none⟩ = some (.int .i64 0) := fun o => cell_later_add (bl1 w4 o) ((box_cells hb4x).1 0)
  have b1 : ∀ o, (w4.alloc o).cell? ⟨nb, 1, none⟩ = some (.slice x3 1 c3) := fun o => cell_later_add (bl1 w4 o) ((box_cells hb4x).1 1)
  have z0 : ∀ o, (w4.alloc o).frozen? ⟨nb, 0, none⟩ = false := fun o => (box_cells (heap_old o hb4x)).2 0
  have z1 : ∀ o, (w4.alloc o).frozen? ⟨nb, 1, none⟩ = false := fun o => (box_cells (heap_old o hb4x)).2 1
  have hne4 : ¬ w4.heap.size = nb := by have h1 := (Array.getElem?_eq_some_iff.1 hb4x).1; omega
  have hne4' : ¬ nb = w4.heap.size := fun h => hne4 h.symm
  go_upto_region 3 with fail
  obtain ⟨w5, hw5⟩ : ∃ w5, w5 = ((((w4.alloc (.cells #[.int .i64 0, .int .i64 0] 26)).setCell ⟨nb, 0, none⟩ (.int .i64 0)).setCell ⟨nb, 1, none⟩ (.slice x5 1 c5)).setCell ⟨w4.heap.size, 0, none⟩ (.int .i64 256)).setCell ⟨w4.heap.size, 1, none⟩ (.int .i64 12) := ⟨_, rfl⟩
  rw [← hw5]
  obtain ⟨hB5, hp5, -⟩ := BB.put2 (u0 := .int .i64 0) (u1 := .int .i64 0) (t' := 0) (a := 256) (l := 12) (m' := 1) hB3 hb4 hOB4 rfl (small1 (by omega))
  rw [← hw5] at hB5 hp5
  have hp5n : Hid (w4.heap.size ≠ nb) := hne4
  generalize w4.heap.size = p3 at hp5 hp5n ⊢
  clear hw5 b0 b1 z0 z1 hne4 hne4' hb4 hOB4 hB3 hBk3 hx3 hb4x
  obtain ⟨x6, c6, hx5, hBk⟩ := hB5.book
  have b0 : w5.cell? ⟨nb, 0, none⟩ = some (.int .i64 0) := (box_cells hx5).1 0
  have b1 : w5.cell? ⟨nb, 1, none⟩ = some (.slice x6 1 c6) := (box_cells hx5).1 1
  go_wp2_with fail
  refine (nest_any 0 x6 1 c6 [pA0 x4 1 c4 [leU]] 8 7 10 11 14 12 0 w5 hBk).mono ?_
  rintro e w6 ⟨v6, rs, t', a, l, rfl, hb6, hOB6, -, hE⟩
  obtain ⟨rfl, hal, hna⟩ := hE (n_nest _ _)
  obtain ⟨rfl, rfl⟩ := pair_eq hal (n_nesto _ _)
  obtain ⟨x7, c7, rfl⟩ := b_nest hna
  rw [n_nest]
  obtain ⟨x8, c8, rfl⟩ := hOB6.val (m := 2) rfl
  clear hE hna hal b0 b1 hBk
  have hbx := heap_later hb6 hx5
  have b0 : ∀ o, (w6.alloc o).cell? ⟨nb, 0, none⟩ = some (.int .i64 0) := fun o => cell_later_add (bl1 w6 o) ((box_cells hbx).1 0)
  have b1 : ∀ o, (w6.alloc o).cell? ⟨nb, 1, none⟩ = some (.slice x6 1 c6) := fun o => cell_later_add (bl1 w6 o) ((box_cells hbx).1 1)
  have z0 : ∀ o, (w6.alloc o).frozen? ⟨nb, 0, none⟩ = false := fun o => (box_cells (heap_old o hbx)).2 0
  have z1 : ∀ o, (w6.alloc o).frozen? ⟨nb, 1, none⟩ = false := fun o => (box_cells (heap_old o hbx)).2 1
  have hne : ¬ w6.heap.size = nb := by have h1 := (Array.getElem?_eq_some_iff.1 hbx).1; omega
  have hne' : ¬ nb = w6.heap.size := fun h => hne h.symm
  go_upto_region 4 with fail
  obtain ⟨w7, hw7⟩ : ∃ w7, w7 = ((((w6.alloc (.cells #[.int .i64 0, .int .i64 0] 26)).setCell ⟨nb, 0, none⟩ (.int .i64 0)).setCell ⟨nb, 1, none⟩ (.slice x8 2 c8)).setCell ⟨w6.heap.size, 0, none⟩ (.int .i64 320)).setCell ⟨w6.heap.size, 1, none⟩ (.int .i64 10) := ⟨_, rfl⟩
  rw [← hw7]
  obtain ⟨hB7, hq7, hk7⟩ := BB.put2 (u0 := .int .i64 0) (u1 := .int .i64 0) (t' := 0) (a := 320) (l := 10) (m' := 2) hB5 hb6 hOB6 rfl (small2 (by omega))
  rw [← hw7] at hB7 hq7 hk7
  have hp7 := hk7 p3 _ hp5n.out hp5
  have hq7n : Hid (w6.heap.size ≠ nb) := hne
  generalize w6.heap.size = p5 at hq7 hq7n ⊢
  clear hw7 b0 b1 z0 z1 hne hne' hb6 hOB6 hB5 hx5 hbx hk7 hp5
  obtain ⟨x9, c9, hx7, hBk⟩ := hB7.book
  have b0 : w7.cell? ⟨nb, 0, none⟩ = some (.int .i64 0) := (box_cells hx7).1 0
  have b1 : w7.cell? ⟨nb, 1, none⟩ = some (.slice x9 2 c9) := (box_cells hx7).1 1
  have q0 : w7.cell? ⟨p3, 0, none⟩ = some (.int .i64 256) := (box_cells hp7).1 0
  have q1 : w7.cell? ⟨p3, 1, none⟩ = some (.int .i64 12) := (box_cells hp7).1 1
  go_wp2_with fail
  refine (give_any 0 x9 2 c9 [pA0 x7 2 c7 [leU, leN], pB0 none 0] 7 256 12 w7 hBk).mono ?_
  rintro e w8 ⟨v8, rs, t', rfl, hb8, hOB8, -, hE⟩
  obtain ⟨rfl, xa, ca, ya, da, rfl⟩ := b_give (hE (n_give _ _ _ _))
  rw [n_give]
  obtain ⟨xb, cb, rfl⟩ := hOB8.val (m := 2) rfl
  clear hE b0 b1 hBk q0 q1
  have hbx := heap_later hb8 hx7
  have b0 : w8.cell? ⟨nb, 0, none⟩ = some (.int .i64 0) := (box_cells hbx).1 0
  have b1 : w8.cell? ⟨nb, 1, none⟩ = some (.slice x9 2 c9) := (box_cells hbx).1 1
  have z0 : w8.frozen? ⟨nb, 0, none⟩ = false := (box_cells hbx).2 0
  have z1 : w8.frozen? ⟨nb, 1, none⟩ = false := (box_cells hbx).2 1
  go_upto_region 5 with fail
  obtain ⟨w9, hw9⟩ : ∃ w9, w9 = (w8.setCell ⟨nb, 0, none⟩ (.int .i64 0)).setCell ⟨nb, 1, none⟩ (.slice xb 2 cb) := ⟨_, rfl⟩
  rw [← hw9]
  have hB9 := BB.put (t' := 0) (m' := 2) hB7 hb8 hOB8 rfl (small2 (by omega))
  rw [← hw9] at hB9
  have hp9 : w9.heap[p3]? = some (pfx 256 12) := by rw [hw9]; exact (two_other hp5n.out).trans (heap_later hb8 hp7)
  have hq9 : w9.heap[p5]? = some (pfx 320 10) := by rw [hw9]; exact (two_other hq7n.out).trans (heap_later hb8 hq7)
  clear hw9 b0 b1 z0 z1 hb8 hOB8 hB7 hx7 hbx hp7 hq7
  obtain ⟨xc, cc, hx9, hBk⟩ := hB9.book
  have b0 : w9.cell? ⟨nb, 0, none⟩ = some (.int .i64 0) := (box_cells hx9).1 0
  have b1 : w9.cell? ⟨nb, 1, none⟩ = some (.slice xc 2 cc) := (box_cells hx9).1 1
  go_wp2_with fail
  refine (take_any 0 xc 2 cc [pA0 xa 2 ca [leC, leN], pB0 ya da] 7 12 5 w9 hBk).mono ?_
  rintro e w10 ⟨v10, rs, t', a, l, rfl, hb10, hOB10, -, hE⟩
  obtain ⟨rfl, hal, qs, x4, c4, ls', hs, hput, hrs⟩ := hE (n_take2 _ _ _ _)
  rw [n_at] at hal
  obtain ⟨rfl, rfl⟩ := pair_eq hal (n_take2o _ _)
  rw [n_take2]
  obtain ⟨xd, cd, rfl⟩ := hOB10.val rfl
  have hB10 := hB9.later hb10
  have hp10 := heap_later hb10 hp9
  have hq10 := heap_later hb10 hq9
  clear hE hs hput hrs hal b0 b1 hBk hOB10 hb10 hx9 hB9 hp9 hq9
  go_upto_region 6 with fail
  obtain ⟨w11, hw11⟩ : ∃ w11, w11 = (w10.alloc (bkV 0 (.slice xd rs.length cd))).alloc (pfx 272 12) := ⟨_, rfl⟩
  rw [show ((w10.alloc (.cells #[.int .i64 0, .slice xd rs.length cd] 24)).alloc (.cells #[.int .i64 272, .int .i64 12] 26)) = w11 from hw11.symm]
  have hbl : Below w10.heap.size w10 w11 := by rw [hw11]; exact bl2 _ _ _
  have hr11 : w11.heap[w10.heap.size + 1]? = some (pfx 272 12) := by rw [hw11]; exact heap_new _ (by simp)
  have hB11 := hB10.later hbl
  have hp11 := heap_later hbl hp10
  have hq11 := heap_later hbl hq10
  obtain ⟨x9', c9', hx9', -⟩ := hB10.book
  have hr11n : Hid (w10.heap.size + 1 ≠ nb) := by
    have h1 := (Array.getElem?_eq_some_iff.1 hx9').1
    unfold Hid
    omega
  generalize w10.heap.size + 1 = p9 at hr11 hr11n ⊢
  clear hw11 hbl hB10 hp10 hq10 hx9'
  obtain ⟨xe, ce, hx11, hBk⟩ := hB11.book
  have b0 : w11.cell? ⟨nb, 0, none⟩ = some (.int .i64 0) := (box_cells hx11).1 0
  have b1 : w11.cell? ⟨nb, 1, none⟩ = some (.slice xe 2 ce) := (box_cells hx11).1 1
  go_wp2_with fail
  refine (pass_any 0 xe 2 ce [pA0 xa 2 ca [leC, leN], pB0 ya da] 3 w11 hBk).mono ?_
  rintro e w12 ⟨v12, rs2, t', rfl, hb12, hOB12, -, hE⟩
  obtain ⟨rfl, xf, cf, yf, df, rfl⟩ := b_pass (hE (n_pass _ _ _ _))
  rw [n_pass]
  obtain ⟨xg, cg, rfl⟩ := hOB12.val (m := 2) rfl
  clear hE b0 b1 hBk
  have hbx := heap_later hb12 hx11
  have b0 : w12.cell? ⟨nb, 0, none⟩ = some (.int .i64 0) := (box_cells hbx).1 0
  have b1 : w12.cell? ⟨nb, 1, none⟩ = some (.slice xe 2 ce) := (box_cells hbx).1 1
  have z0 : w12.frozen? ⟨nb, 0, none⟩ = false := (box_cells hbx).2 0
  have z1 : w12.frozen? ⟨nb, 1, none⟩ = false := (box_cells hbx).2 1
  go_upto_region 7 with fail
  obtain ⟨w13, hw13⟩ : ∃ w13, w13 = (w12.setCell ⟨nb, 0, none⟩ (.int .i64 3)).setCell ⟨nb, 1, none⟩ (.slice xg 2 cg) := ⟨_, rfl⟩
  rw [← hw13]
  have hB13 := BB.put (t' := 3) (m' := 2) hB11 hb12 hOB12 rfl (small2 (by omega))
  rw [← hw13] at hB13
  have hp13 : w13.heap[p3]? = some (pfx 256 12) := by rw [hw13]; exact (two_other hp5n.out).trans (heap_later hb12 hp11)
  have hq13 : w13.heap[p5]? = some (pfx 320 10) := by rw [hw13]; exact (two_other hq7n.out).trans (heap_later hb12 hq11)
  have hr13 : w13.heap[p9]? = some (pfx 272 12) := by rw [hw13]; exact (two_other hr11n.out).trans (heap_later hb12 hr11)
  clear hw13 b0 b1 z0 z1 hb12 hOB12 hB11 hx11 hbx hp11 hq11 hr11
  obtain ⟨xh, ch, hx13, hBk⟩ := hB13.book
  have b0 : w13.cell? ⟨nb, 0, none⟩ = some (.int .i64 3) := (box_cells hx13).1 0
  have b1 : w13.cell? ⟨nb, 1, none⟩ = some (.slice xh 2 ch) := (box_cells hx13).1 1
  go_wp2_with fail
  refine (take_any 3 xh 2 ch [pA0 xf 1 cf [leN], pB0 yf df] 7 12 5 w13 hBk).mono ?_
  rintro e w14 ⟨v14, rs3, t', a, l, rfl, hb14, hOB14, -, hE⟩
  obtain ⟨rfl, hal, qs3, x43, c43, ls3, hs, hput, hrs⟩ := hE (n_take3 _ _ _ _)
  rw [n_at] at hal
  obtain ⟨rfl, rfl⟩ := pair_eq hal (n_take3o _ _)
  rw [n_take3]
  obtain ⟨xi, ci, rfl⟩ := hOB14.val rfl
  have hB14 := hB13.later hb14
  have hp14 := heap_later hb14 hp13
  have hq14 := heap_later hb14 hq13
  have hr14 := heap_later hb14 hr13
  clear hE hs hput hrs hal b0 b1 hBk hOB14 hb14 hx13 hB13 hp13 hq13 hr13
  go_upto_region 8 with fail
  obtain ⟨w15, hw15⟩ : ∃ w15, w15 = (w14.alloc (bkV 3 (.slice xi rs3.length ci))).alloc (pfx 256 12) := ⟨_, rfl⟩
  rw [show ((w14.alloc (.cells #[.int .i64 3, .slice xi rs3.length ci] 24)).alloc (.cells #[.int .i64 256, .int .i64 12] 26)) = w15 from hw15.symm]
  have hbl : Below w14.heap.size w14 w15 := by rw [hw15]; exact bl2 _ _ _
  have hs15 : w15.heap[w14.heap.size + 1]? = some (pfx 256 12) := by rw [hw15]; exact heap_new _ (by simp)
  have hB15 := hB14.later hbl
  have hp15 := heap_later hbl hp14
  have hq15 := heap_later hbl hq14
  have hr15 := heap_later hbl hr14
  generalize w14.heap.size + 1 = p13 at hs15 ⊢
  clear hw15 hbl hB14 hp14 hq14 hr14
  obtain ⟨xj, cj, hx15, hBk⟩ := hB15.book
  have b0 : w15.cell? ⟨nb, 0, none⟩ = some (.int .i64 3) := (box_cells hx15).1 0
  have b1 : w15.cell? ⟨nb, 1, none⟩ = some (.slice xj 2 cj) := (box_cells hx15).1 1
  go_wp2_with fail
  refine (close_any 3 xj 2 cj [pA0 xf 1 cf [leN], pB0 yf df] 7 w15 hBk).mono ?_
  rintro e w16 ⟨v16, rs4, t', rfl, hb16, -, hE, -⟩
  obtain ⟨rfl, rfl, rfl⟩ := hE (by rw [n_close]; decide)
  rw [n_close]
  clear hE b0 b1 hBk
  go_upto_region 9 with fail
  obtain ⟨w17, hw17⟩ : ∃ w17, w17 = w16.alloc (bkV 0 (.slice none 0 0)) := ⟨_, rfl⟩
  rw [show w16.alloc (.cells #[.int .i64 0, .slice none 0 0] 24) = w17 from hw17.symm]
  have hbl : Below w15.heap.size w15 w17 := by rw [hw17]; exact hb16.alloc hb16.size _
  have hB17 := hB15.later hbl
  obtain ⟨k3, -⟩ := box_cells (heap_later hbl hp15)
  obtain ⟨k5, -⟩ := box_cells (heap_later hbl hq15)
  obtain ⟨k9, -⟩ := box_cells (heap_later hbl hr15)
  obtain ⟨k13, -⟩ := box_cells (heap_later hbl hs15)
  have e0 : w17.cell? ⟨p3, 0, none⟩ = some (.int .i64 256) := k3 0
  have e1 : w17.cell? ⟨p3, 1, none⟩ = some (.int .i64 12) := k3 1
  have e2 : w17.cell? ⟨p5, 0, none⟩ = some (.int .i64 320) := k5 0
  have e3 : w17.cell? ⟨p5, 1, none⟩ = some (.int .i64 10) := k5 1
  have e4 : w17.cell? ⟨p9, 0, none⟩ = some (.int .i64 272) := k9 0
  have e5 : w17.cell? ⟨p13, 0, none⟩ = some (.int .i64 256) := k13 0
  have e6 : w17.cell? ⟨p13, 1, none⟩ = some (.int .i64 12) := k13 1
  clear k3 k5 k9 k13 hw17 hbl hb16 hB15 hp15 hq15 hr15 hs15 hx15
  go_wp2
  go_ret
  exact ⟨rfl, hB17.below⟩
end Go.Proofs.YtpdoonkhnabfjaaGreat
/- What PoolFinds comes to: it answers true. -/
namespace Go.Proofs.YtpdoonkhnabfjaaGreat
open Go.RowKit Go.Shelf

set_option maxRecDepth 20000 in
set_option maxHeartbeats 800000 in
theorem poolAt_big (t id : Int) (x : Option Addr) (n c : Nat) (ps : List Po) (w : World) (hp : PoS w x n ps) (hn : n ≤ 1048576) :
    Calls Tryz.prog 27 #[.agg #[.int .i64 t, .slice x n c], .int .i64 id] w fun e w' => e = .returned (.int .i64 (atId ps id)) ∧ Below w.heap.size w w' := by
  go_enter Tryz.func27, Tryz.ntmps27
  go_wp2
  go_loopw [5] (fun i wr => ∃ q : Nat, q ≤ n ∧ i = .int .i64 q ∧ wr = w.alloc (.cells #[.int .i64 t, .slice x n c] 24) ∧ (∀ j, j < q → (poAt ps j).id ≠ id)) (fun i _ => n - (intOf i).toNat)
  case atStart => exact ⟨0, by omega, rfl, rfl, fun j hj => by omega⟩
  case round =>
    obtain ⟨q, hq, rfl, rfl, hno⟩ := hrel
    have hpl := hp.len
    by_cases hlt : q < n
    · obtain ⟨b, o, rfl, c0, -⟩ := (hp.later (bl1 w (.cells #[.int .i64 t, .slice x n c] 24))).cells q hlt
      have hlt' := hlt
      by_cases hid : (poAt ps q).id = id
      · have hb : ((poAt ps q).id == id) = true := by simpa using hid
        have hid' : Hid ((poAt ps q).id = id) := hid
        clear hid
        go_wp2
        go_ret
        exact ⟨ret_int (atId_yes (by omega) hid'.out hno).symm, bl1 w _⟩
      · have hb : ((poAt ps q).id == id) = false := by simpa using hid
        have hid' : Hid ((poAt ps q).id ≠ id) := hid
        clear hid
        go_wp2
        go_roundw
        case rel => exact ⟨q + 1, hlt', by go_num, by first | rfl | trivial, fun j hj => by
          by_cases hj2 : j < q
          · exact hno j hj2
          · obtain rfl : j = q := by omega
            exact hid'.out⟩
        case measure => simp [intOf]; omega
    · go_wp2
      go_ret
      exact ⟨ret_int (atId_no (fun j hj => hno j (by omega))).symm, bl1 w _⟩
theorem take8 {t : Int} {ps : List Po} {id z ow : Int} (h : takeE t ps id z ow = 8) : chkB t ps = 0 ∧ ¬ atId ps id < 0 ∧ pfitE (poAt ps (atId ps id).toNat) (sizeZ (poAt ps (atId ps id).toNat) z) = 8 := by
  unfold takeE at h
  by_cases h1 : chkB t ps = 0
  · rw [if_neg (by simp [h1])] at h
    by_cases h2 : atId ps id < 0
    · rw [if_pos h2] at h; cases h
    · rw [if_neg h2] at h
      by_cases h3 : wth ow 1 65536 = false
      · rw [if_pos h3] at h; cases h
      · rw [if_neg h3] at h
        exact ⟨h1, h2, h⟩
  · rw [if_pos h1] at h
    unfold chkB at h
    split at h
    · cases h
    · split at h
      · cases h
      · cases h
/-- If nothing of that size can be had, no prefix of that size inside the root is free. -/
theorem full_none {t : Int} {ps : List Po} {i : Nat} {z a l : Int} (hc : chkB t ps = 0) (hi : i < ps.length) (hlen : (poAt ps i).ls.length = (poAt ps i).n) (h8 : pfitE (poAt ps i) z = 8) (hn : (poAt ps i).n ≠ 32) (hl : l = z) (hin : ins a l (poAt ps i).a (poAt ps i).l = true)
    (hno : ∀ k, k < (poAt ps i).n → mts a l (leAt (poAt ps i).ls k).a (leAt (poAt ps i).ls k).l = false) : False := by
  subst hl
  obtain ⟨-, -, -, -, hp⟩ := chk_ok hc
  obtain ⟨h1, h2, -, -⟩ := pool_ok (hp i hi)
  obtain ⟨r1, r2, r3, r4, -, -⟩ := rule_ok h2
  obtain ⟨-, hrt, -⟩ := chkS_ok h1
  unfold pfitE at h8
  by_cases hz : l < (poAt ps i).mn ∨ (poAt ps i).mx < l
  · rw [if_pos hz] at h8; cases h8
  · rw [if_neg hz] at h8
    cases hq : pfitS (poAt ps i) l with
    | some y => rw [hq] at h8; cases h8
    | none =>
      unfold pfitS at hq
      rw [if_neg hn] at hq
      unfold fitS at hq
      have hE : fitE (poAt ps i).a (poAt ps i).l (poAt ps i).n (lp (poAt ps i).ls) l = 0 := by
        unfold fitE
        rw [if_pos h1, if_neg (by omega)]
      rw [if_pos hE] at hq
      have hF := fit_hol (z := l) (hol_are (lp (poAt ps i).ls) (16 - (poAt ps i).l).toNat (poAt ps i).a (poAt ps i).l hrt (by omega)) (by omega)
      rw [hq] at hF
      refine hF a ⟨hin, any_no fun k hk => ?_⟩
      rw [lp_len] at hk
      obtain ⟨e1, e2⟩ := lp_at hk
      rw [e1, e2]
      exact hno k (by omega)
/-- A book and a prefix at the end of the memory that was. -/
structure TF (w W : World) (t a l : Int) (v : Value) : Prop where
  hb : W.heap[w.heap.size]? = some (bkV t v)
  hp : W.heap[w.heap.size + 1]? = some (.cells #[.int .i64 a, .int .i64 l] 26)
  below : Below w.heap.size w W
theorem TF.later {w W W' : World} {t a l : Int} {v : Value} (h : TF w W t a l v) (hb : Below W.heap.size W W') : TF w W' t a l v :=
  ⟨heap_later hb h.hb, heap_later hb h.hp, h.below.trans (hb.mono h.below.size)⟩

end Go.Proofs.YtpdoonkhnabfjaaGreat
