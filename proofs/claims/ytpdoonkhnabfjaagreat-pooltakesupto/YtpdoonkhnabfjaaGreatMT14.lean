/- A law of my own: a region that draws its order, whose head reads and makes memory above a mark, and whose tail waits for all of the head. -/
import Derived.Test.YtpdoonkhnabfjaaGreatMT13
import Derived.StillTail
namespace Go.Proofs.YtpdoonkhnabfjaaGreat
open Go.RowKit

/-- The head's orders: so many operations, all of the first n, each quiet; then L. -/
def headQ (P : Program) (md : Region.Mode) (ops : Array Oper) (C : World → Prop) (n : Nat) (L : Array Bool → Act → Prop) : Nat → Array Bool → Act → Prop
  | 0, listed, a => L listed a
  | f + 1, listed, a => Region.ready md ops listed ≠ [] ∧ ∀ i ∈ Region.ready md ops listed, i < n ∧ qOp P ops C i (headQ P md ops C n L f (listed.setIfInBounds i true)) a
theorem headQ_sound {P : Program} {md : Region.Mode} {ops : Array Oper} {C : World → Prop} {n g : Nat} {L : Array Bool → Act → Prop} {Q : Exit → Act → World → Prop} (hL : ∀ listed a w, C w → L listed a → wpAny P md ops Q g listed a w) (f : Nat) :
    ∀ (listed : Array Bool) (a : Act) (w : World), C w → headQ P md ops C n L f listed a → wpAny P md ops Q (f + g) listed a w := by
  induction f with
  | zero => intro listed a w hw h; rw [Nat.zero_add]; exact hL _ _ _ hw h
  | succ f ih =>
    intro listed a w hw h
    rw [Nat.succ_add]
    refine ⟨fun h0 => absurd h0 h.1, fun i hi => ?_⟩
    exact wpOp_of_qOp hw (fun a' w' hw' h' => ih _ a' w' hw' h') (h.2 i hi).2
/-- What may come up now, and yields in every world of the class, may be taken first. -/
theorem headQ_first {P : Program} {md : Region.Mode} {ops : Array Oper} {C : World → Prop} {n i : Nat} {oi : Oper} {v : Value} {L : Array Bool → Act → Prop} (hi : ops[i]? = some oi) (hsel : ∀ (j : Nat) (o : Oper) cs b, ops[j]? = some o → o.op ≠ .select cs b)
    (hs : Region.sinkB md ops n = true) (hc : Region.chainB md ops n = true) (hn : n < ops.size) (hin : i < n) (hL : ∀ listed a, L listed a → ∀ j ∈ Region.ready md ops listed, n ≤ j) (f : Nat) :
    ∀ (listed : Array Bool) (a : Act), HeadInv md ops n listed → (∀ j oj, ops[j]? = some oj → j ≠ i → listed.getD j true = false → (∀ e ∈ oj.after, Region.binds md e = true → e.on ≠ i) → oi.apart ops oj = true) →
      i ∈ Region.ready md ops listed → YieldsIn P ops C oi v a → headQ P md ops C n L f (listed.setIfInBounds i true) (a.put oi.dst v) → headQ P md ops C n L (f + 1) listed a := by
  induction f with
  | zero =>
    intro listed a inv hfree hr hy H
    refine ⟨List.ne_nil_of_mem hr, fun j hj => ?_⟩
    have hjn : j < n := Nat.lt_of_not_le fun h => tail_waits hs hc hn inv _ i rfl hin (mem_ready.1 hr).1 j h hj
    refine ⟨hjn, ?_⟩
    by_cases e : j = i
    · subst e; exact hy.qOp hi H
    · exact absurd (hL _ _ H j (ready_mono hj e)) (by omega)
  | succ f ih =>
    intro listed a inv hfree hr hy H
    refine ⟨List.ne_nil_of_mem hr, fun j hj => ?_⟩
    have hjn : j < n := Nat.lt_of_not_le fun h => tail_waits hs hc hn inv _ i rfl hin (mem_ready.1 hr).1 j h hj
    refine ⟨hjn, ?_⟩
    by_cases e : j = i
    · subst e; exact hy.qOp hi H
    obtain ⟨hun, oj, hoj, hall⟩ := mem_ready.1 hj
    have hno : ∀ x ∈ oj.after, Region.binds md x = true → x.on ≠ i := fun x hx hb he => by
      have h1 := hall x hx hb
      rw [he, getD_both (mem_ready.1 hr).1] at h1
      cases h1
    have h2 := qOp_put hoj (hfree j oj hoj e hun hno) (fun cs b => hsel i oi cs b hi) (fun cs b => hsel j oj cs b hoj) hy (H.2 j (ready_mono hj e)).2
    refine qOp_mono (fun a' h3 => ih _ a' (inv.set hj hjn) (fun k ok hk hki hku => ?_) (ready_mono hr (Ne.symm e)) h3.1 ?_) h2
    · refine hfree k ok hk hki ?_
      by_cases hjk : j = k
      · subst hjk; exact hun
      · rw [getD_set_ne true hjk] at hku; exact hku
    · rw [Array.setIfInBounds_comm _ _ e]
      exact h3.2
theorem headQ_lex {P : Program} {md : Region.Mode} {ops : Array Oper} {C : World → Prop} {n g : Nat} {K : Act → Prop} (hsel : Region.noSelect ops = true) (hs : Region.sinkB md ops n = true) (hc : Region.chainB md ops n = true) (hn : n < ops.size) (l : List Oper) :
    ∀ (k : Nat) (listed : Array Bool) (a : Act), (∀ j, j < l.length → l[j]? = ops[k + j]?) → k + l.length = n → HeadInv md ops n listed → Region.lexHead md ops g l.length k listed = true → wpQuiet P ops C K l a →
      headQ P md ops C n (fun listed' a' => Region.seqB md ops g n listed' = true ∧ K a') l.length listed a := by
  induction l with
  | nil =>
    intro k listed a _ hk _ hB h
    obtain rfl : k = n := by simpa using hk
    exact ⟨by simpa [Region.lexHead] using hB, h⟩
  | cons o l ih =>
    intro k listed a hl hk inv hB h
    have h0 : ops[k]? = some o := by simpa using (hl 0 (by simp)).symm
    simp only [List.length_cons, Region.lexHead, Bool.and_eq_true] at hB
    have hkn : k < n := by simp only [List.length_cons] at hk; omega
    have hr : k ∈ Region.ready md ops listed := by simpa using hB.1.1
    have hq : qOp P ops C k (wpQuiet P ops C K l) a := by unfold qOp; simp only [h0]; exact h
    obtain ⟨v, hy, hK⟩ := yieldsIn_of_qOp h0 hq
    refine headQ_first h0 (Region.noSelect_spec hsel) hs hc hn hkn (fun _ _ hL => seqB_ready hL.1) l.length listed a inv (Region.free_spec h0 hB.1.2) hr hy ?_
    exact ih (k + 1) _ _ (fun j hj => by have := hl (j + 1) (by simp; omega); simpa [Nat.add_assoc, Nat.add_comm 1 j] using this) (by simp only [List.length_cons] at hk; omega) (inv.set hr hkn) hB.2 hK
theorem wp_region_tail {P : Program} {id : Nat} {Q : Exit → Act → World → Prop} {a : Act} {w : World} {l : List Oper} (m n : Nat) (hm : P.follows .mixedOrders = true) (hB : Region.lexTailB .any l.toArray n = true)
    (h : wpQuiet P l.toArray (fun w' => ∃ u : Ws m w, w' = u.val) (fun a' => ∀ u : Ws m w, wpList P l.toArray Q (l.drop n) a' u.val) (l.take n) a) : (Code.region id l.toArray true).wp P Q a w := by
  simp only [Region.lexTailB, Bool.and_eq_true, decide_eq_true_eq] at hB
  obtain ⟨⟨⟨⟨hsel, hn⟩, hs⟩, hc⟩, hlex⟩ := hB
  have htl : (l.take n).length = n := by simp at hn ⊢; omega
  have hdl : (l.drop n).length = l.toArray.size - n := by simp
  have inv0 : HeadInv .any l.toArray n (Array.replicate l.toArray.size false) :=
    ⟨by simp, fun j oj _ hl => (by rw [getD_replicate_false] at hl; cases hl), fun t _ ht => getD_in (by simpa using ht) (getD_replicate_false _ _)⟩
  have H := headQ_lex (md := .any) (g := l.toArray.size - n) hsel hs hc hn (l.take n) 0 _ a (fun j hj => by rw [htl] at hj; simp [hj]) (by simpa using htl) inv0 (by rw [htl]; exact hlex) h
  refine wp_region_any hm ?_
  have h2 := headQ_sound (Q := Q) (g := l.toArray.size - n) (C := fun w' => ∃ u : Ws m w, w' = u.val) (fun listed a' w' hw' hL => by
    obtain ⟨u, rfl⟩ := hw'
    have h3 := wpAny_of_seq (md := .any) (Q' := Q) (l.drop n) n listed a' u.val (fun j => by simp [List.getElem?_drop]) (by rw [hdl]; exact hL.1) (hL.2 u)
    rwa [hdl] at h3) _ _ _ _ ⟨⟨_, (Below.refl m w).drew⟩, rfl⟩ H
  rw [htl, show n + (l.toArray.size - n) = l.toArray.size by omega] at h2
  exact h2
end Go.Proofs.YtpdoonkhnabfjaaGreat
/- What Close of package pool comes to. -/
namespace Go.Proofs.YtpdoonkhnabfjaaGreat
open Go.RowKit Go.Shelf

theorem poAt_del {qs : List Po} {i : Nat} (hi : i < qs.length) (j : Nat) : poAt (qs.take i ++ qs.drop (i + 1)) j = if j < i then poAt qs j else poAt qs (j + 1) := by
  unfold poAt
  rw [List.getD_eq_getElem?_getD, List.getD_eq_getElem?_getD, List.getD_eq_getElem?_getD]
  have hl : (qs.take i).length = i := by rw [List.length_take]; omega
  by_cases h1 : j < i
  · rw [if_pos h1, List.getElem?_append_left (by omega), List.getElem?_take_of_lt h1]
  · rw [if_neg h1, List.getElem?_append_right (by omega), hl, List.getElem?_drop, show i + 1 + (j - i) = j + 1 by omega]
theorem OBk.del {W W' : World} {base g n m cap : Nat} {qs : List Po} {i : Nat} (h : OBk W base (.slice (some ⟨g, 0, none⟩) n cap) qs qs.length) (hi : i < qs.length) (hg : W.grownBy W' (some g)) (hr : OwnP W' base (.slice (some ⟨g, 0, none⟩) m cap) (qs.take i ++ qs.drop (i + 1))) :
    OBk W' base (.slice (some ⟨g, 0, none⟩) m cap) (qs.take i ++ qs.drop (i + 1)) (qs.take i ++ qs.drop (i + 1)).length := by
  have hl : (qs.take i ++ qs.drop (i + 1)).length + 1 = qs.length := by simp; omega
  obtain ⟨-, cur, hgc⟩ := h.row.block
  have hk : ∀ j, j < qs.length → OwnL W' base (.slice (poAt qs j).x (poAt qs j).n (poAt qs j).c) (poAt qs j).ls := fun j hj => (h.own j hj).kept hg (fun k hk e => by subst e; exact (h.own j hj).ne hgc (by decide) hk)
  refine ⟨hr, fun j hj => ?_, fun j hj hj2 => by omega, fun j k hj hk hjk b hbj hbk => ?_⟩
  · rw [poAt_del hi]
    by_cases c1 : j < i
    · rw [if_pos c1]; exact hk j (by omega)
    · rw [if_neg c1]; exact hk (j + 1) (by omega)
  · rw [poAt_del hi] at hbj hbk
    by_cases c1 : j < i
    · rw [if_pos c1] at hbj
      by_cases d1 : k < i
      · rw [if_pos d1] at hbk; exact h.apart j k (by omega) (by omega) hjk b hbj hbk
      · rw [if_neg d1] at hbk; exact h.apart j (k + 1) (by omega) (by omega) (by omega) b hbj hbk
    · rw [if_neg c1] at hbj
      by_cases d1 : k < i
      · rw [if_pos d1] at hbk; exact h.apart (j + 1) k (by omega) (by omega) (by omega) b hbj hbk
      · rw [if_neg d1] at hbk; exact h.apart (j + 1) (k + 1) (by omega) (by omega) (by omega) b hbj hbk
theorem atId_first {ps : List Po} {id : Int} {i : Nat} (h : atId ps id = i) : i < ps.length ∧ (poAt ps i).id = id ∧ ∀ j, j < i → (poAt ps j).id ≠ id := by
  unfold atId at h
  cases hf : ps.findIdx? (fun p => p.id == id) with
  | none => rw [hf] at h; simp only at h; omega
  | some k =>
    rw [hf] at h
    simp only at h
    obtain rfl : k = i := by omega
    rw [List.findIdx?_eq_some_iff_getElem] at hf
    obtain ⟨hi, h1, h2⟩ := hf
    refine ⟨hi, by rw [poAt_get hi]; simpa using h1, fun j hj => ?_⟩
    have := h2 j hj
    rw [poAt_get (by omega)]
    simpa using this
theorem atId_none {ps : List Po} {id : Int} (h : atId ps id < 0) : ∀ j, j < ps.length → (poAt ps j).id ≠ id := by
  intro j hj e
  unfold atId at h
  cases hf : ps.findIdx? (fun p => p.id == id) with
  | none =>
    rw [List.findIdx?_eq_none_iff] at hf
    have := hf _ (List.getElem_mem hj)
    rw [poAt_get hj] at e
    simp [e] at this
  | some k => rw [hf] at h; simp only at h; omega
theorem atId_same {ps qs : List Po} (h : sameB ps qs) (id : Int) : atId qs id = atId ps id := by
  by_cases h1 : atId ps id < 0
  · have h2 := atId_none h1
    rw [atId_no (ps := ps) h2, atId_no]
    intro j hj
    rw [← h.1] at hj
    rw [← (h.2 j hj).1]
    exact h2 j hj
  · obtain ⟨i, hi, hat, -⟩ := atId_range h1
    obtain ⟨-, h3, h4⟩ := atId_first hat
    rw [hat]
    refine atId_yes (by rw [← h.1]; exact hi) (by rw [← (h.2 i hi).1]; exact h3) (fun j hj => ?_)
    rw [← (h.2 j (by omega)).1]
    exact h4 j hj
theorem ids_ok {ps : List Po} (h : idsB ps.length ps = true) (i : Nat) (hi : i < ps.length) : 1 ≤ (poAt ps i).id ∧ (poAt ps i).id ≤ 65536 := by
  unfold idsB at h
  simp only [Bool.and_eq_true, Bool.not_eq_true'] at h
  have h2 := h.2
  by_cases hw : wth (poAt ps i).id 1 65536 = true
  · unfold wth at hw; simpa using hw
  · have := any_yes (n := ps.length) (f := fun i => !wth (poAt ps i).id 1 65536) hi (by simpa using hw)
    rw [this] at h2
    cases h2
theorem up_has {t : Int} {ps : List Po} {i k : Nat} (h : chkB t ps = 0) (hi : i < ps.length) (hk : atId ps (poAt ps i).up = k) : ∃ j : Nat, j < (poAt ps k).n ∧ firstAt (poAt ps k).n (forB (poAt ps k).ls (poAt ps i).id) = j := by
  obtain ⟨-, -, hids, -, hp⟩ := chk_ok h
  obtain ⟨-, -, hup, -⟩ := pool_ok (hp i hi)
  obtain ⟨hkl, hkid, -⟩ := atId_first hk
  have hu : (poAt ps i).up ≠ 0 := by have := ids_ok hids k hkl; omega
  obtain ⟨f, hf⟩ : ∃ f, ps.length = f + 1 := ⟨ps.length - 1, by omega⟩
  rw [hf] at hup
  unfold upB at hup
  rw [if_neg hu, hk, if_neg (by omega)] at hup
  simp only [Int.toNat_natCast] at hup
  split at hup
  · rename_i ha
    obtain ⟨j, hj, h1, h2⟩ := least_at ha
    exact ⟨j, hj, firstAt_yes hj h1 h2⟩
  · cases hup
theorem OwnP.cells9 {w : World} {base g n cap : Nat} {ps : List Po} (h : OwnP w base (.slice (some ⟨g, 0, none⟩) n cap) ps) (i : Nat) (hi : i < ps.length) : w.cell? ⟨g, i * 9, none⟩ = some (.int .i64 (poAt ps i).id) ∧ w.cell? ⟨g, i * 9 + 1, none⟩ = some (.int .i64 (poAt ps i).up) ∧ w.cell? ⟨g, i * 9 + 2, none⟩ = some (.int .i64 (poAt ps i).a) ∧ w.cell? ⟨g, i * 9 + 3, none⟩ = some (.int .i64 (poAt ps i).l) ∧ w.cell? ⟨g, i * 9 + 4, none⟩ = some (.int .i64 (poAt ps i).mn) ∧ w.cell? ⟨g, i * 9 + 5, none⟩ = some (.int .i64 (poAt ps i).mx) ∧ w.cell? ⟨g, i * 9 + 6, none⟩ = some (.int .i64 (poAt ps i).us) ∧ w.cell? ⟨g, i * 9 + 7, none⟩ = some (.int .i64 (poAt ps i).co) ∧ w.cell? ⟨g, i * 9 + 8, none⟩ = some (.slice (poAt ps i).x (poAt ps i).n (poAt ps i).c) := by
  obtain ⟨xw, cw, he4, -, -, -, hm4⟩ := h.mem
  obtain ⟨b4, o4, he5, k0, k1, k2, k3, k4, k5, k6, k7, k8⟩ := hm4 i hi
  simp only [Value.slice.injEq] at he4
  rw [← he4.1] at he5
  simp only [Option.some.injEq, Addr.mk.injEq] at he5
  obtain ⟨rfl, rfl, -⟩ := he5
  simp only [Nat.zero_add] at k0 k1 k2 k3 k4 k5 k6 k7 k8
  exact ⟨k0, k1, k2, k3, k4, k5, k6, k7, k8⟩
/-- A lease that is not cooling. -/
def busyB (ls : List Le) (i : Nat) : Bool := !((leAt ls i).kd == 3)
set_option maxRecDepth 20000 in
theorem close1_any (p : Le) (w : World) :
    Calls Tryz.prog 68 #[.agg #[.int .i64 p.a, .int .i64 p.l, .int .i64 p.kd, .int .i64 p.ow, .int .i64 p.un]] w fun e w' => e = .returned (.bool (!(p.kd == 3))) ∧ Below w.heap.size w w' := by
  go_enter Tryz.func68, Tryz.ntmps68
  go_wp2
  go_ret
  exact ⟨rfl, bl1 w _⟩
theorem call_close1 (args : Array Value) (W : World) : (callFunc 68 args).run Tryz.prog W = .ok (.enter 68 args) W := by simp [go_sem]
theorem close_fn (n : Nat) (ls : List Le) (w : World) : FnLeAt 68 #[] n ls (busyB ls) w := fun i _ W _ => close1_any (leAt ls i) W
def closeE (t : Int) (ps : List Po) (id : Int) : Int :=
  if chkB t ps ≠ 0 then chkB t ps else if atId ps id < 0 then 5 else if anyAt (poAt ps (atId ps id).toNat).n (busyB (poAt ps (atId ps id).toNat).ls) = true then 9 else 0
/-- The pool i is gone; the lease of the pool above it, if there is one, cools. -/
def CloseAt (t : Int) (ps : List Po) (i : Nat) (rs : List Po) : Prop :=
  ∃ qs, (atId ps (poAt ps i).up < 0 → sameB ps qs) ∧ (∀ k : Nat, atId ps (poAt ps i).up = k → CoolAt ps k (firstAt (poAt ps k).n (forB (poAt ps k).ls (poAt ps i).id)).toNat t qs) ∧ rs = qs.take i ++ qs.drop (i + 1)
def CloseR (t : Int) (ps : List Po) (id : Int) (t' : Int) (rs : List Po) : Prop := t' = t ∧ CloseAt t ps (atId ps id).toNat rs
def ClosePost (t : Int) (ps : List Po) (id : Int) (w : World) : Ending → World → Prop := BkPost (closeE t ps id) (CloseR t ps id) w

set_option maxRecDepth 100000 in
set_option maxHeartbeats 1600000 in
theorem close_any (t : Int) (x : Option Addr) (n c : Nat) (ps : List Po) (id : Int) (w : World) (hk : Bk w x n c ps) :
    Calls Tryz.prog 36 #[.agg #[.int .i64 t, .slice x n c], .int .i64 id] w (ClosePost t ps id w) := by
  have hpl : Hid (ps.length = n) := hk.ps.len
  go_enter Tryz.func36, Tryz.ntmps36
  go_upto_region 1 with fail
  obtain ⟨w0, hw0⟩ : ∃ w0, w0 = (w.alloc (bkV t (.slice x n c))).alloc (bkV 0 (.slice none 0 0)) := ⟨_, rfl⟩
  rw [← hw0]
  have hT0 : TC w w0 t (.slice x n c) := by
    rw [hw0]
    exact ⟨heap_old _ (heap_new _ rfl), heap_new _ (by simp), bl2 w _ _⟩
  clear hw0
  have b0 : w0.cell? ⟨w.heap.size, 0, none⟩ = some (.int .i64 t) := (box_cells hT0.hb).1 0
  have b1 : w0.cell? ⟨w.heap.size, 1, none⟩ = some (.slice x n c) := (box_cells hT0.hb).1 1
  have s0 : w0.cell? ⟨w.heap.size + 1, 0, none⟩ = some (.int .i64 0) := (box_cells hT0.hs).1 0
  have s1 : w0.cell? ⟨w.heap.size + 1, 1, none⟩ = some (.slice none 0 0) := (box_cells hT0.hs).1 1
  have zs0 : w0.frozen? ⟨w.heap.size + 1, 0, none⟩ = false := (box_cells hT0.hs).2 0
  have zs1 : w0.frozen? ⟨w.heap.size + 1, 1, none⟩ = false := (box_cells hT0.hs).2 1
  have hck := checkB_any t x n c ps w0 (hk.later hT0.below)
  by_cases hc0 : chkB t ps = 0
  · rw [hc0] at hck
    obtain ⟨hn8, ⟨ht0, ht1⟩, -⟩ := chk_ok hc0
    rw [hpl.out] at hn8
    have hE1 : Hid (closeE t ps id = if atId ps id < 0 then 5 else if anyAt (poAt ps (atId ps id).toNat).n (busyB (poAt ps (atId ps id).toNat).ls) = true then 9 else 0) := if_neg (c := chkB t ps ≠ 0) (by simp [hc0])
    go_wp2_with fail
    refine hck.mono ?_
    rintro e w1 ⟨rfl, hb1⟩
    have hT1 := hT0.later hb1
    clear b0 b1 s0 s1 zs0 zs1 hb1 hck
    have b0 : w1.cell? ⟨w.heap.size, 0, none⟩ = some (.int .i64 t) := (box_cells hT1.hb).1 0
    have b1 : w1.cell? ⟨w.heap.size, 1, none⟩ = some (.slice x n c) := (box_cells hT1.hb).1 1
    have s0 : w1.cell? ⟨w.heap.size + 1, 0, none⟩ = some (.int .i64 0) := (box_cells hT1.hs).1 0
    have s1 : w1.cell? ⟨w.heap.size + 1, 1, none⟩ = some (.slice none 0 0) := (box_cells hT1.hs).1 1
    have zs0 : w1.frozen? ⟨w.heap.size + 1, 0, none⟩ = false := (box_cells hT1.hs).2 0
    have zs1 : w1.frozen? ⟨w.heap.size + 1, 1, none⟩ = false := (box_cells hT1.hs).2 1
    have hpc := place_any t id x n c ps w1 (hk.later hT1.below).ps (by omega)
    by_cases hat : atId ps id < 0
    · have hne : Hid (closeE t ps id = 5 ∧ (5 : Int) ≠ 0) := ⟨hE1.out.trans (if_pos hat), by decide⟩
      go_wp2_with fail
      refine hpc.mono ?_
      rintro e w2 ⟨rfl, hb2⟩
      have hT2 := hT1.later hb2
      clear b0 b1 s0 s1 zs0 zs1 hb2 hE1
      have b0 : w2.cell? ⟨w.heap.size, 0, none⟩ = some (.int .i64 t) := (box_cells hT2.hb).1 0
      have b1 : w2.cell? ⟨w.heap.size, 1, none⟩ = some (.slice x n c) := (box_cells hT2.hb).1 1
      have s0 : w2.cell? ⟨w.heap.size + 1, 0, none⟩ = some (.int .i64 0) := (box_cells hT2.hs).1 0
      have s1 : w2.cell? ⟨w.heap.size + 1, 1, none⟩ = some (.slice none 0 0) := (box_cells hT2.hs).1 1
      have zs0 : w2.frozen? ⟨w.heap.size + 1, 0, none⟩ = false := (box_cells hT2.hs).2 0
      have zs1 : w2.frozen? ⟨w.heap.size + 1, 1, none⟩ = false := (box_cells hT2.hs).2 1
      go_wp2
      refine bodyPost_ret (v := .tuple #[.agg #[.int .i64 0, .slice none 0 0], .int .i64 5]) (by simp [results, Tryz.results36, go_sem, s0, s1]) rfl ?_
      exact BkPost.err hne.out ((hT2.below.setCell (p := ⟨w.heap.size + 1, 0, none⟩) (Nat.le_add_right _ _) _).setCell (p := ⟨w.heap.size + 1, 1, none⟩) (Nat.le_add_right _ _) _)
    · obtain ⟨i, hi, hati, hiid⟩ := atId_range hat
      have hin0 : Hid (i < ps.length) := hi
      rw [hpl.out] at hi
      have hto : (atId ps id).toNat = i := by rw [hati]; rfl
      have hR : Hid (∀ rs, CloseAt t ps i rs → CloseR t ps id t rs) := fun rs h => ⟨rfl, by rw [hto]; exact h⟩
      have hE2 : Hid (closeE t ps id = if anyAt (poAt ps i).n (busyB (poAt ps i).ls) = true then 9 else 0) := by
        have h := hE1.out
        rw [if_neg hat, hto] at h
        exact h
      have hid : Hid ((poAt ps i).id = id) := hiid
      rw [hati] at hpc
      clear hat hati hto hE1 hiid
      go_wp2_with fail
      refine hpc.mono ?_
      rintro e w2 ⟨rfl, hb2⟩
      have hT2 := hT1.later hb2
      have hi0 : (0 : Int) ≤ i := by omega
      clear b0 b1 s0 s1 zs0 zs1 hb2 hpc
      have b0 : w2.cell? ⟨w.heap.size, 0, none⟩ = some (.int .i64 t) := (box_cells hT2.hb).1 0
      have b1 : w2.cell? ⟨w.heap.size, 1, none⟩ = some (.slice x n c) := (box_cells hT2.hb).1 1
      have s0 : w2.cell? ⟨w.heap.size + 1, 0, none⟩ = some (.int .i64 0) := (box_cells hT2.hs).1 0
      have s1 : w2.cell? ⟨w.heap.size + 1, 1, none⟩ = some (.slice none 0 0) := (box_cells hT2.hs).1 1
      have zs0 : w2.frozen? ⟨w.heap.size + 1, 0, none⟩ = false := (box_cells hT2.hs).2 0
      have zs1 : w2.frozen? ⟨w.heap.size + 1, 1, none⟩ = false := (box_cells hT2.hs).2 1
      have hk2 := hk.later hT2.below
      obtain ⟨b, o, rfl, c0, c1, c2, c3, c4, c5, c6, c7, c8⟩ := hk2.ps.cells i hi
      obtain ⟨hlc, hlm, hLS⟩ := hk2.ps.leases i hi
      have hin : (i : Int) < n := by omega
      have hcf := containsFuncLe_any 68 #[] (poAt ps i).x (poAt ps i).n (poAt ps i).c (poAt ps i).ls (busyB (poAt ps i).ls) w2 hLS hlm (close_fn _ _ w2) call_close1
      cases hany : anyAt (poAt ps i).n (busyB (poAt ps i).ls) with
      | true =>
        have hne : Hid (closeE t ps id = 9 ∧ (9 : Int) ≠ 0) := ⟨hE2.out.trans (if_pos hany), by decide⟩
        rw [hany] at hcf
        clear hR hE2
        go_wp2_with fail
        refine hcf.mono ?_
        rintro e w3 ⟨rfl, hb3⟩
        have hT3 := hT2.later hb3
        clear b0 b1 s0 s1 zs0 zs1 hb3 c0 c1 c2 c3 c4 c5 c6 c7 c8
        have b0 : w3.cell? ⟨w.heap.size, 0, none⟩ = some (.int .i64 t) := (box_cells hT3.hb).1 0
        have b1 : w3.cell? ⟨w.heap.size, 1, none⟩ = some (.slice (some ⟨b, o, none⟩) n c) := (box_cells hT3.hb).1 1
        have s0 : w3.cell? ⟨w.heap.size + 1, 0, none⟩ = some (.int .i64 0) := (box_cells hT3.hs).1 0
        have s1 : w3.cell? ⟨w.heap.size + 1, 1, none⟩ = some (.slice none 0 0) := (box_cells hT3.hs).1 1
        have zs0 : w3.frozen? ⟨w.heap.size + 1, 0, none⟩ = false := (box_cells hT3.hs).2 0
        have zs1 : w3.frozen? ⟨w.heap.size + 1, 1, none⟩ = false := (box_cells hT3.hs).2 1
        go_wp2
        refine bodyPost_ret (v := .tuple #[.agg #[.int .i64 0, .slice none 0 0], .int .i64 9]) (by simp [results, Tryz.results36, go_sem, s0, s1]) rfl ?_
        exact BkPost.err hne.out ((hT3.below.setCell (p := ⟨w.heap.size + 1, 0, none⟩) (Nat.le_add_right _ _) _).setCell (p := ⟨w.heap.size + 1, 1, none⟩) (Nat.le_add_right _ _) _)
      | false =>
        have hE0 : Hid (closeE t ps id = 0) := hE2.out.trans (if_neg (by rw [hany]; decide))
        rw [hany] at hcf
        clear hE2
        go_wp2_with fail
        refine hcf.mono ?_
        rintro e w3 ⟨rfl, hb3⟩
        have hT3 := hT2.later hb3
        clear b0 b1 s0 s1 zs0 zs1 hb3 c0 c1 c2 c3 c4 c5 c6 c7 c8 hcf
        have b0 : w3.cell? ⟨w.heap.size, 0, none⟩ = some (.int .i64 t) := (box_cells hT3.hb).1 0
        have b1 : w3.cell? ⟨w.heap.size, 1, none⟩ = some (.slice (some ⟨b, o, none⟩) n c) := (box_cells hT3.hb).1 1
        have s0 : w3.cell? ⟨w.heap.size + 1, 0, none⟩ = some (.int .i64 0) := (box_cells hT3.hs).1 0
        have s1 : w3.cell? ⟨w.heap.size + 1, 1, none⟩ = some (.slice none 0 0) := (box_cells hT3.hs).1 1
        have zs0 : w3.frozen? ⟨w.heap.size + 1, 0, none⟩ = false := (box_cells hT3.hs).2 0
        have zs1 : w3.frozen? ⟨w.heap.size + 1, 1, none⟩ = false := (box_cells hT3.hs).2 1
        go_wp2_with fail
        refine (freshBook_any t (some ⟨b, o, none⟩) n c ps w3 (hk.later hT3.below) (by omega)).mono ?_
        rintro e w5 ⟨v5, qs, rfl, hs, hOB, hb5⟩
        obtain ⟨k, hqk⟩ : ∃ k, qs.length = k + 1 := ⟨n - 1, by rw [← hs.1, hpl.out]; omega⟩
        have hkn : Hid (k + 1 = n) := by unfold Hid; rw [← hqk, ← hs.1, hpl.out]
        have hik : i ≤ k := by have := hkn.out; omega
        obtain ⟨xq, capq, hvq, hcap1, hcap2, -, hmq⟩ := hOB.row.mem
        rcases hOB.row.2 with ⟨-, h0⟩ | ⟨g, cap, cur, hv5, hg1, hg2, -⟩
        · omega
        obtain ⟨bq, oq, hxq, -, hup, -, -, -, -, -, -, -⟩ := hmq i (by omega)
        rw [hv5] at hvq
        simp only [Value.slice.injEq] at hvq
        obtain ⟨hvx, -, hvc⟩ := hvq
        rw [← hvx] at hxq
        simp only [Option.some.injEq, Addr.mk.injEq] at hxq
        obtain ⟨rfl, rfl, -⟩ := hxq
        subst hvc
        rw [hqk] at hcap1
        clear hvx hmq
        rw [hqk] at hv5
        subst hv5
        clear b0 b1 s0 s1 zs0 zs1
        go_upto_region 10 with fail
        obtain ⟨w6, hw6⟩ : ∃ w6, w6 = w5.alloc (bkV t (.slice (some ⟨g, 0, none⟩) (k + 1) cap)) := ⟨_, rfl⟩
        rw [← hw6]
        have hT6 : TC w w6 t (.slice (some ⟨b, o, none⟩) n c) := by rw [hw6]; exact (hT3.later hb5).later (bl1 _ _)
        have hn6 : w6.heap[w5.heap.size]? = some (bkV t (.slice (some ⟨g, 0, none⟩) (k + 1) cap)) := by rw [hw6]; exact heap_new _ rfl
        have hOB6 : OBk w6 w3.heap.size (.slice (some ⟨g, 0, none⟩) (k + 1) cap) qs qs.length := by
          rw [hw6]
          exact hOB.later (bl1 _ _)
        have hs6 : w3.heap.size ≤ w6.heap.size := by rw [hw6]; have := hb5.size; simp; omega
        have hup6 : w6.cell? ⟨g, i * 9 + 1, none⟩ = some (.int .i64 (poAt qs i).up) := by rw [hw6]; exact cell_later_add (bl1 _ _) (by simpa using hup)
        have hsz : w.heap.size + 1 < w3.heap.size := (Array.getElem?_eq_some_iff.1 hT3.hs).1
        have hnb : w.heap.size + 1 < w5.heap.size := by have := hb5.size; omega
        clear hw6 hOB hb5 hg2 hup
        have hsp := hs.2 i (by rw [hpl.out]; exact hi)
        rw [← hsp.2.1] at hup6
        have hik2 : (i : Int) < (k : Int) + 1 := by omega
        have m0 : w6.cell? ⟨w5.heap.size, 0, none⟩ = some (.int .i64 t) := (box_cells hn6).1 0
        have m1 : w6.cell? ⟨w5.heap.size, 1, none⟩ = some (.slice (some ⟨g, 0, none⟩) (k + 1) cap) := (box_cells hn6).1 1
        obtain ⟨xq2, cq2, hvq2, hBk2⟩ := (hOB6.later (Below.refl _ _).drew).bk (fun j hj => by
          have hj2 : j < ps.length := by rw [hs.1]; exact hj
          have h1 := (hs.2 j hj2).2.2.2.2.2.2.2.2.1
          have h2 := (chk_pool hc0 j hj2).1
          omega)
        simp only [Value.slice.injEq] at hvq2
        obtain ⟨rfl, -, rfl⟩ := hvq2
        have hk7 : k ≤ 7 := by have := hkn.out; omega
        have hpl2 := place_any t (poAt ps i).up (some ⟨g, 0, none⟩) qs.length cap qs w6.drew hBk2.ps (by omega)
        rw [atId_same hs, hqk] at hpl2
        obtain ⟨ua, hua⟩ : ∃ ua, Hid (ua = atId ps (poAt ps i).up) := ⟨_, rfl⟩
        rw [← hua.out] at hpl2
        go_cut [9] (fun s wc => s = .int .i64 ua ∧ Below w6.heap.size w6 wc)
        case first =>
          clear hBk2
          go_region_with (go_at_call 19; refine hpl2.mono ?_; rintro e w7 ⟨rfl, hb7⟩; have hB7 : Below w6.heap.size w6 w7 := ⟨hb7.os, hb7.tape, hb7.output, hb7.size, hb7.block⟩; have hup7 := cell_later_add hB7 hup6)
          all_goals go_wp2
          all_goals go_meet
          all_goals (case rel => exact ⟨rfl, hB7⟩)
        case rest =>
          obtain ⟨rfl, hB7⟩ := hcut
          have hT7 := hT6.later hB7
          have hOB7 := hOB6.later hB7
          have hn7 := heap_later hB7 hn6
          have hs7 : w3.heap.size ≤ wc.heap.size := Nat.le_trans hs6 hB7.size
          clear m0 m1 hpl2 hup6 hBk2 hB7 hT6 hOB6 hn6
          go_upto_if 41 with fail
          go_cut [9] (fun s wd => ∃ qq, Hid (CloseR t ps id t (qq.take i ++ qq.drop (i + 1))) ∧ qq.length = k + 1 ∧ OBk wd w3.heap.size (.slice (some ⟨g, 0, none⟩) (k + 1) cap) qq qq.length ∧ TC w wd t (.slice (some ⟨b, o, none⟩) n c) ∧ wd.heap[w5.heap.size]? = some (bkV t (.slice (some ⟨g, 0, none⟩) (k + 1) cap)) ∧ w3.heap.size ≤ wd.heap.size)
          case first =>
            by_cases hun : ua < 0
            · have hR2 : Hid (CloseR t ps id t (qs.take i ++ qs.drop (i + 1))) := hR.out _ ⟨qs, fun _ => hs, fun k hk => by have := hua.out; omega, rfl⟩
              go_wp2
              go_meet
              case rel => exact ⟨qs, hR2, hqk, hOB7, hT7, hn7, hs7⟩
            · obtain ⟨u, hul, hue, -⟩ := atId_range (ps := ps) (id := (poAt ps i).up) (by rw [← hua.out]; exact hun)
              obtain ⟨j, hj, hjf⟩ := up_has hc0 hin0.out hue
              rw [hid.out] at hjf
              have hspu := hs.2 u hul
              have hR2 : Hid (∀ x' c', CloseR t ps id t ((qs.set u (withL (poAt qs u) x' (coolL (poAt qs u) j t).length c' (coolL (poAt qs u) j t))).take i ++ (qs.set u (withL (poAt qs u) x' (coolL (poAt qs u) j t).length c' (coolL (poAt qs u) j t))).drop (i + 1))) := fun x' c' => hR.out _ ⟨_, fun h => by omega, fun k hk => by
                have hku : k = u := by omega
                subst hku
                refine ⟨qs, x', c', hs, ?_⟩
                rw [hid.out, hjf, coolL_same hspu]
                rfl, rfl⟩
              obtain rfl : ua = (u : Int) := hua.out.trans hue
              have hcpu := chk_pool hc0 u hul
              have hspu2 := hspu
              obtain ⟨-, -, -, -, -, -, -, hqc, hqn, hqls⟩ := hspu2
              have huq : u < qs.length := by rw [← hs.1]; exact hul
              have huk : u < k + 1 := by rw [← hqk]; exact huq
              rw [hqn] at hj hjf
              rw [hqls] at hjf
              have hlf := fun W h => leaseFor_is id (poAt qs u) W h (by omega)
              rw [hjf] at hlf
              have hLSu := (hOB7.own u huq).ls.1
              have hu0 : (0 : Int) ≤ u := by omega
              have hu1 : (u : Int) < (k : Int) + 1 := by omega
              have hj0 : (0 : Int) ≤ j := by omega
              clear hun hue hjf hspu hid hR hua
              have m0 : wc.cell? ⟨w5.heap.size, 0, none⟩ = some (.int .i64 t) := (box_cells hn7).1 0
              have m1 : wc.cell? ⟨w5.heap.size, 1, none⟩ = some (.slice (some ⟨g, 0, none⟩) (k + 1) cap) := (box_cells hn7).1 1
              obtain ⟨r0, r1, r2, r3, r4, r5, r6, r7, r8⟩ := hOB7.row.cells9 u huq
              go_upto_region 12 with fail
              have g0 := Ws.here m0
              have g1 := Ws.here m1
              have q0 := Ws.here r0
              have q1 := Ws.here r1
              have q2 := Ws.here r2
              have q3 := Ws.here r3
              have q4 := Ws.here r4
              have q5 := Ws.here r5
              have q6 := Ws.here r6
              have q7 := Ws.here r7
              have q8 := Ws.here r8
              clear m0 m1 r0 r1 r2 r3 r4 r5 r6 r7 r8
              refine wp_region_tail wc.heap.size 13 (by kernel_rfl) (by kernel_rfl) ?_
              simp only [List.take_succ_cons, List.take_zero, List.drop_succ_cons, List.drop_zero]
              repeat (go_big_quiet_step ((go_at_call 69; exact Calls.in_ws (Nat.le_refl _) (hlf _ (hLSu.later (Ws.property _))))))
              refine wpQuiet_nil ?_
              intro uu
              have hB8 := uu.property
              generalize uu.val = w8 at hB8 ⊢
              clear uu g0 g1 q0 q1 q2 q3 q4 q5 q6 q7 q8 hlf
              have hcool := cool_any w3.heap.size g (k + 1) cap qs u j t w8 (hOB7.later hB8) huq hj (by omega) (Nat.le_trans hs7 hB8.size) ht0 ht1 (by omega) (by omega)
              go_wp2_with fail
              refine hcool.mono ?_
              rintro e w9' ⟨rfl, x', c', hOB9', hK9'⟩
              have hKu : Kept w3.heap.size wc w9' := (Kept.of_below hB8 hs7).trans hK9'
              go_wp2
              go_meet
              case rel => exact ⟨_, hR2.out x' c', by rw [List.length_set]; exact hqk, hOB9', hT7.kept hKu hT3.below.size, hKu.box _ _ _ hn7 (by decide) (by decide), Nat.le_trans hs7 hKu.size⟩
          case rest =>
            obtain ⟨qq, hR3, hqqL, hOBq, hTq, hnW, hsq⟩ := hcut
            have m1 : wc.cell? ⟨w5.heap.size, 1, none⟩ = some (.slice (some ⟨g, 0, none⟩) (k + 1) cap) := (box_cells hnW).1 1
            have hdel := deleteP_any w3.heap.size g k cap i (i + 1) qq wc hOBq.row hqqL hik rfl (by omega) hcap1 hcap2
            rw [show ((i + 1 : Nat) : Int) = (i : Int) + 1 by omega] at hdel
            go_wp2_with fail
            refine hdel.mono ?_
            rintro e w8 ⟨rfl, hO8, hg8⟩
            have hOB8 := hOBq.del (by rw [hqqL]; omega) hg8 hO8
            obtain ⟨hbg, curg, hgc⟩ := hOBq.row.block
            have hK8 : Kept w3.heap.size wc w8 := Kept.of_grown hg8 hbg hsq hgc (.inl rfl)
            have hT8 := hTq.kept hK8 hT3.below.size
            have hn8 := hK8.box _ _ _ hnW (by decide) (by decide)
            clear m1 hdel hO8
            have q0 : w8.cell? ⟨w5.heap.size, 0, none⟩ = some (.int .i64 t) := (box_cells hn8).1 0
            have q1 : w8.cell? ⟨w5.heap.size, 1, none⟩ = some (.slice (some ⟨g, 0, none⟩) (k + 1) cap) := (box_cells hn8).1 1
            have zq1 : w8.frozen? ⟨w5.heap.size, 1, none⟩ = false := (box_cells hn8).2 1
            go_upto_region 14 with fail
            obtain ⟨w9, hw9⟩ : ∃ w9, w9 = w8.setCell ⟨w5.heap.size, 1, none⟩ (.slice (some ⟨g, 0, none⟩) k cap) := ⟨_, rfl⟩
            rw [← hw9]
            have hT9 : TC w w9 t (.slice (some ⟨b, o, none⟩) n c) := by rw [hw9]; exact hT8.put hnb
            have hn9 : w9.heap[w5.heap.size]? = some (bkV t (.slice (some ⟨g, 0, none⟩) k cap)) := by
              rw [hw9]
              have := heap_setCell_same w8 w5.heap.size 1 _ _ (.slice (some ⟨g, 0, none⟩) k cap) hn8
              simpa [bkV] using this
            have hOB9 : OBk w9 w3.heap.size (.slice (some ⟨g, 0, none⟩) k cap) (qq.take i ++ qq.drop (i + 1)) (qq.take i ++ qq.drop (i + 1)).length := by rw [hw9]; exact hOB8.putBox hn8 (by decide) (by decide)
            clear hw9 q0 q1 zq1 hOB8 hT8 hn8
            have q0 : w9.cell? ⟨w5.heap.size, 0, none⟩ = some (.int .i64 t) := (box_cells hn9).1 0
            have q1 : w9.cell? ⟨w5.heap.size, 1, none⟩ = some (.slice (some ⟨g, 0, none⟩) k cap) := (box_cells hn9).1 1
            have s0 : w9.cell? ⟨w.heap.size + 1, 0, none⟩ = some (.int .i64 0) := (box_cells hT9.hs).1 0
            have s1 : w9.cell? ⟨w.heap.size + 1, 1, none⟩ = some (.slice none 0 0) := (box_cells hT9.hs).1 1
            have zs0 : w9.frozen? ⟨w.heap.size + 1, 0, none⟩ = false := (box_cells hT9.hs).2 0
            have zs1 : w9.frozen? ⟨w.heap.size + 1, 1, none⟩ = false := (box_cells hT9.hs).2 1
            go_wp2
            refine bodyPost_ret (v := .tuple #[.agg #[.int .i64 t, .slice (some ⟨g, 0, none⟩) k cap], .int .i64 0]) (by simp [results, Tryz.results36, go_sem, s0, s1]) rfl ?_
            have hfin := (hT9.below.setCell (p := ⟨w.heap.size + 1, 0, none⟩) (Nat.le_add_right _ _) (.int .i64 t)).setCell (p := ⟨w.heap.size + 1, 1, none⟩) (Nat.le_add_right _ _) (.slice (some ⟨g, 0, none⟩) k cap)
            have hob := ((hOB9.put (o := 0) (u := .int .i64 t) hsz).put (o := 1) (u := .slice (some ⟨g, 0, none⟩) k cap) hsz).low hT3.below.size
            exact ⟨_, _, t, by rw [hE0.out], hfin, hob, fun h => absurd hE0.out h, fun _ => hR3.out⟩
  · have hne : Hid (closeE t ps id = chkB t ps ∧ chkB t ps ≠ 0) := ⟨if_pos hc0, hc0⟩
    go_wp2_with fail
    refine hck.mono ?_
    rintro e w1 ⟨rfl, hb1⟩
    have hT1 := hT0.later hb1
    clear b0 b1 s0 s1 zs0 zs1 hck hb1
    have b0 : w1.cell? ⟨w.heap.size, 0, none⟩ = some (.int .i64 t) := (box_cells hT1.hb).1 0
    have b1 : w1.cell? ⟨w.heap.size, 1, none⟩ = some (.slice x n c) := (box_cells hT1.hb).1 1
    have s0 : w1.cell? ⟨w.heap.size + 1, 0, none⟩ = some (.int .i64 0) := (box_cells hT1.hs).1 0
    have s1 : w1.cell? ⟨w.heap.size + 1, 1, none⟩ = some (.slice none 0 0) := (box_cells hT1.hs).1 1
    have zs0 : w1.frozen? ⟨w.heap.size + 1, 0, none⟩ = false := (box_cells hT1.hs).2 0
    have zs1 : w1.frozen? ⟨w.heap.size + 1, 1, none⟩ = false := (box_cells hT1.hs).2 1
    go_wp2
    refine bodyPost_ret (v := .tuple #[.agg #[.int .i64 0, .slice none 0 0], .int .i64 (chkB t ps)]) (by simp [results, Tryz.results36, go_sem, s0, s1]) rfl ?_
    exact BkPost.err hne.out ((hT1.below.setCell (p := ⟨w.heap.size + 1, 0, none⟩) (Nat.le_add_right _ _) _).setCell (p := ⟨w.heap.size + 1, 1, none⟩) (Nat.le_add_right _ _) _)
end Go.Proofs.YtpdoonkhnabfjaaGreat
/- What back of the reference comes to. -/
namespace Go.Proofs.YtpdoonkhnabfjaaGreat
open Go.RowKit Go.Shelf

/-- A lease of that prefix cools, or is gone where nothing cools; another stays. -/
def backE (co a l t : Int) (e : Le) : Option Le := if e.a = a ∧ e.l = l then (if co = 0 then none else some ⟨a, l, 3, 0, t + co⟩) else some e
def backL (p : Po) (a l t : Int) : List Le := p.ls.filterMap (backE p.co a l t)
theorem back_no1 {co a l t : Int} {e : Le} (h : ¬ e.a = a) : backE co a l t e = some e := if_neg fun h' => h h'.1
theorem back_no2 {co a l t : Int} {e : Le} (h : ¬ e.l = l) : backE co a l t e = some e := if_neg fun h' => h h'.2
theorem back_gone {co a l t : Int} {e : Le} (h1 : e.a = a) (h2 : e.l = l) (h3 : co = 0) : backE co a l t e = none := by unfold backE; rw [if_pos ⟨h1, h2⟩, if_pos h3]
theorem back_cool {co a l t : Int} {e : Le} (h1 : e.a = a) (h2 : e.l = l) (h3 : ¬ co = 0) : backE co a l t e = some ⟨a, l, 3, 0, t + co⟩ := by unfold backE; rw [if_pos ⟨h1, h2⟩, if_neg h3]
theorem fm_next {ls : List Le} {f : Le → Option Le} {j : Nat} (h : j < ls.length) : (ls.take (j + 1)).filterMap f = (ls.take j).filterMap f ++ (f (leAt ls j)).toList := by
  have h1 : ls.take (j + 1) = ls.take j ++ [leAt ls j] := by
    rw [List.take_add_one]
    congr 1
    unfold leAt
    rw [List.getD_eq_getElem?_getD, List.getElem?_eq_getElem h]
    rfl
  rw [h1, List.filterMap_append]
  cases hf : f (leAt ls j) <;> simp [hf]
theorem fm_len {ls : List Le} {f : Le → Option Le} (j : Nat) : ((ls.take j).filterMap f).length ≤ j := Nat.le_trans (List.length_filterMap_le _ _) (by rw [List.length_take]; omega)
def BackPost (base g n cap : Nat) (qs : List Po) (i : Nat) (a l t : Int) (w : World) (r : Ending) (w' : World) : Prop :=
  r = .returned (.tuple #[]) ∧ ∃ x' c', OBk w' base (.slice (some ⟨g, 0, none⟩) n cap) (qs.set i (withL (poAt qs i) x' (backL (poAt qs i) a l t).length c' (backL (poAt qs i) a l t))) (qs.set i (withL (poAt qs i) x' (backL (poAt qs i) a l t).length c' (backL (poAt qs i) a l t))).length ∧ Kept base w w'

set_option maxRecDepth 100000 in
set_option maxHeartbeats 3200000 in
theorem back_any (base ob g n cap : Nat) (qs : List Po) (i : Nat) (t a l : Int) (w : World) (hbox : w.heap[ob]? = some (bkV t (.slice (some ⟨g, 0, none⟩) n cap))) (h : OBk w base (.slice (some ⟨g, 0, none⟩) n cap) qs qs.length) (hi : i < qs.length) (hn : (poAt qs i).n ≤ 32) (hwb : base ≤ w.heap.size) (ht0 : 0 ≤ t) (ht1 : t ≤ 1073741824) (hc0 : 0 ≤ (poAt qs i).co) (hc1 : (poAt qs i).co ≤ 1024) :
    Calls Tryz.prog 50 #[.pointer (some ⟨ob, 0, none⟩), .int .i64 i, .agg #[.int .i64 a, .int .i64 l]] w (BackPost base g n cap qs i a l t w) := by
  have hO := h.own i hi
  obtain ⟨hLS, hll, hnc, hc63⟩ := hO.ls
  have hll' : Hid ((poAt qs i).ls.length = (poAt qs i).n) := hll
  have hqn : qs.length = n := by
    obtain ⟨xv, cv, he, -⟩ := h.row.mem
    simp only [Value.slice.injEq] at he
    exact he.2.1.symm
  have hi0 : (0 : Int) ≤ i := by omega
  have hin : (i : Int) < n := by omega
  have hin0 : Hid (i < qs.length) := hi
  clear hll hqn
  go_enter Tryz.func50, Tryz.ntmps50
  go_upto_region 2 with fail
  obtain ⟨w1, hw1⟩ : ∃ w1, w1 = w.alloc (.cells #[.int .i64 a, .int .i64 l] 26) := ⟨_, rfl⟩
  rw [show w.alloc (.cells #[.int .i64 a, .int .i64 l] 26) = w1 from hw1.symm]
  have hB1 : Below w.heap.size w w1 := by rw [hw1]; exact bl1 _ _
  have hp1 : w1.heap[w.heap.size]? = some (.cells #[.int .i64 a, .int .i64 l] 26) := by rw [hw1]; exact heap_new _ rfl
  clear hw1
  have hbox1 := heap_later hB1 hbox
  have h1 := h.later hB1
  have hLS1 := hLS.later hB1
  clear hbox hLS hO
  go_wp2
  go_loopw [7, 6] (fun kk vv wr => ∃ (j : Nat) (es : List Le), kk = .int .i64 j ∧ j ≤ (poAt qs i).n ∧ Below w1.heap.size w1 wr ∧ OwnL wr w1.heap.size vv es ∧ Hid (es = ((poAt qs i).ls.take j).filterMap (backE (poAt qs i).co a l t))) (fun kk _ _ => (poAt qs i).n - (intOf kk).toNat)
  case atStart => exact ⟨0, [], rfl, by omega, Below.refl _ _, World.ownsRow_nil _ _ _ _, by unfold Hid; simp⟩
  case round =>
    obtain ⟨j, es, rfl, hjn, hB, hOv, hes⟩ := hrel
    have hboxr := heap_later hB hbox1
    have hr := h1.later hB
    obtain ⟨-, -, -, -, -, -, -, c7, c8⟩ := hr.row.cells9 i hin0.out
    have b0 : wr.cell? ⟨ob, 0, none⟩ = some (.int .i64 t) := (box_cells hboxr).1 0
    have b1 : wr.cell? ⟨ob, 1, none⟩ = some (.slice (some ⟨g, 0, none⟩) n cap) := (box_cells hboxr).1 1
    have hvl : Hid (es.length ≤ 32) := by
      unfold Hid
      rw [hes.out]
      exact Nat.le_trans (fm_len j) (by omega)
    by_cases hltj : j < (poAt qs i).n
    · obtain ⟨b2, o2, hx2, e0, e1, e2, e3, e4⟩ := (hLS1.later hB).cells j hltj
      rw [hx2] at c8
      have hj0 : (0 : Int) ≤ j := by omega
      have hjn2 : (j : Int) < (poAt qs i).n := by omega
      have hltj' : Hid (j < (poAt qs i).n) := hltj
      have hstep : Hid (((poAt qs i).ls.take (j + 1)).filterMap (backE (poAt qs i).co a l t) = ((poAt qs i).ls.take j).filterMap (backE (poAt qs i).co a l t) ++ (backE (poAt qs i).co a l t (leAt (poAt qs i).ls j)).toList) := fm_next (by rw [hll'.out]; exact hltj)
      clear hltj
      go_upto_region 6 with fail
      obtain ⟨e, he⟩ : ∃ e, Hid (e = leAt (poAt qs i).ls j) := ⟨_, rfl⟩
      rw [← he.out] at e0 e1 e2 e3 e4 hstep
      rw [← he.out]
      obtain ⟨wl, hwl⟩ : ∃ wl, wl = wr.alloc (leO e) := ⟨_, rfl⟩
      rw [show wr.alloc (.cells #[.int .i64 e.a, .int .i64 e.l, .int .i64 e.kd, .int .i64 e.ow, .int .i64 e.un] 55) = wl from hwl.symm]
      have hBl : Below wr.heap.size wr wl := by rw [hwl]; exact bl1 _ _
      have hvb : wl.heap[wr.heap.size]? = some (leO e) := by rw [hwl]; exact heap_new _ rfl
      have hpx := heap_later hBl (heap_later hB hp1)
      have b0' := cell_later_add hBl b0
      have b1' := cell_later_add hBl b1
      have c7' := cell_later_add hBl c7
      clear hwl b0 b1 c7 c8 e0 e1 e2 e3 e4
      have p0 : wl.cell? ⟨w.heap.size, 0, none⟩ = some (.int .i64 a) := (box_cells hpx).1 0
      have p1 : wl.cell? ⟨w.heap.size, 1, none⟩ = some (.int .i64 l) := (box_cells hpx).1 1
      have l0 : wl.cell? ⟨wr.heap.size, 0, none⟩ = some (.int .i64 e.a) := (box_cells hvb).1 0
      have l1 : wl.cell? ⟨wr.heap.size, 1, none⟩ = some (.int .i64 e.l) := (box_cells hvb).1 1
      have l2 : wl.cell? ⟨wr.heap.size, 2, none⟩ = some (.int .i64 e.kd) := (box_cells hvb).1 2
      have l3 : wl.cell? ⟨wr.heap.size, 3, none⟩ = some (.int .i64 e.ow) := (box_cells hvb).1 3
      have l4 : wl.cell? ⟨wr.heap.size, 4, none⟩ = some (.int .i64 e.un) := (box_cells hvb).1 4
      by_cases ha : e.a = a
      · by_cases hl : e.l = l
        · rw [ha] at l0
          rw [hl] at l1
          by_cases hco : (poAt qs i).co = 0
          · rw [hco] at c7'
            have hstep2 : Hid (backE (poAt qs i).co a l t e = none) := back_gone ha hl hco
            go_wp2
            go_roundw
            case rel => exact ⟨j + 1, es, by go_num, hltj'.out, hB.trans (hBl.mono hB.size), hOv.later hBl, by unfold Hid; rw [hstep.out, hes.out, hstep2.out]; simp⟩
            case measure => have := hltj'.out; simp [intOf]; omega
          · have hcob : ((poAt qs i).co == 0) = false := by simpa using hco
            have hcod : decide ((poAt qs i).co = 0) = false := by simpa using hco
            have hstep2 : Hid (backE (poAt qs i).co a l t e = some ⟨a, l, 3, 0, t + (poAt qs i).co⟩) := back_cool ha hl hco
            go_upto_region 8 with fail
            have g0 := Ws.here b0'
            have g1 := Ws.here b1'
            have g2 := Ws.here c7'
            have g3 := Ws.here p0
            have g4 := Ws.here p1
            have hwr : IntKind.i64.wrap (t + (poAt qs i).co) = t + (poAt qs i).co := wrap_mid (by omega) (by omega)
            refine wp_region_tail wl.heap.size 16 (by kernel_rfl) (by kernel_rfl) ?_
            simp only [List.take_succ_cons, List.take_zero, List.drop_succ_cons, List.drop_zero]
            repeat (go_big_quiet_step (fail))
            refine wpQuiet_nil ?_
            intro uu
            have hBu := uu.property
            generalize uu.val = wu at hBu ⊢
            clear uu g0 g1 g2 g3 g4 p0 p1 l0 l1 l2 l3 l4 b0' b1' c7'
            have hvu := heap_later hBu hvb
            have l0 : wu.cell? ⟨wr.heap.size, 0, none⟩ = some (.int .i64 e.a) := (box_cells hvu).1 0
            have l1 : wu.cell? ⟨wr.heap.size, 1, none⟩ = some (.int .i64 e.l) := (box_cells hvu).1 1
            have l2 : wu.cell? ⟨wr.heap.size, 2, none⟩ = some (.int .i64 e.kd) := (box_cells hvu).1 2
            have l3 : wu.cell? ⟨wr.heap.size, 3, none⟩ = some (.int .i64 e.ow) := (box_cells hvu).1 3
            have l4 : wu.cell? ⟨wr.heap.size, 4, none⟩ = some (.int .i64 e.un) := (box_cells hvu).1 4
            have z := (box_cells hvu).2
            clear hwr
            go_upto_region 9 with fail
            obtain ⟨w5, hw5⟩ : ∃ w5, w5 = (((((wu.setCell ⟨wr.heap.size, 0, none⟩ (.int .i64 a)).setCell ⟨wr.heap.size, 1, none⟩ (.int .i64 l)).setCell ⟨wr.heap.size, 2, none⟩ (.int .i64 3)).setCell ⟨wr.heap.size, 3, none⟩ (.int .i64 0)).setCell ⟨wr.heap.size, 4, none⟩ (.int .i64 (t + (poAt qs i).co))) := ⟨_, rfl⟩
            rw [← hw5]
            have hB5 : Below wr.heap.size wr w5 := by
              rw [hw5]
              exact ((((((hBl.trans (hBu.mono hBl.size)).setCell (p := ⟨wr.heap.size, 0, none⟩) (Nat.le_refl _) _).setCell (p := ⟨wr.heap.size, 1, none⟩) (Nat.le_refl _) _).setCell (p := ⟨wr.heap.size, 2, none⟩) (Nat.le_refl _) _).setCell (p := ⟨wr.heap.size, 3, none⟩) (Nat.le_refl _) _).setCell (p := ⟨wr.heap.size, 4, none⟩) (Nat.le_refl _) _)
            have hv5 : w5.heap[wr.heap.size]? = some (leO ⟨a, l, 3, 0, t + (poAt qs i).co⟩) := by
              rw [hw5]
              have h1 := heap_setCell_same wu wr.heap.size 0 _ 55 (.int .i64 a) hvu
              have h2 := heap_setCell_same _ wr.heap.size 1 _ 55 (.int .i64 l) h1
              have h3 := heap_setCell_same _ wr.heap.size 2 _ 55 (.int .i64 3) h2
              have h4 := heap_setCell_same _ wr.heap.size 3 _ 55 (.int .i64 0) h3
              have h5 := heap_setCell_same _ wr.heap.size 4 _ 55 (.int .i64 (t + (poAt qs i).co)) h4
              simpa using h5
            clear hw5 l0 l1 l2 l3 l4 z hvu hvb hBu hBl
            have l0 : w5.cell? ⟨wr.heap.size, 0, none⟩ = some (.int .i64 a) := (box_cells hv5).1 0
            have l1 : w5.cell? ⟨wr.heap.size, 1, none⟩ = some (.int .i64 l) := (box_cells hv5).1 1
            have l2 : w5.cell? ⟨wr.heap.size, 2, none⟩ = some (.int .i64 3) := (box_cells hv5).1 2
            have l3 : w5.cell? ⟨wr.heap.size, 3, none⟩ = some (.int .i64 0) := (box_cells hv5).1 3
            have l4 : w5.cell? ⟨wr.heap.size, 4, none⟩ = some (.int .i64 (t + (poAt qs i).co)) := (box_cells hv5).1 4
            have hOv4 := hOv.later hB5
            have hwl := hB5.size
            have hBsz := hB.size
            go_wp2_with (at_builtin; refine Hid.out ?_)
            unfold Hid
            refine wpList_append_L rfl _ _ rfl w1.heap.size _ _ rfl (hOv4.later (bl1 _ _)) ⟨w5.heap.size, 0, none⟩ 1 1 [(⟨a, l, 3, 0, t + (poAt qs i).co⟩ : Le)] rfl rfl ?_ (by simp; have := hvl.out; omega) (by simp; omega) ?_
            · intro j u hj
              have hn := heap_new (W := w5) (.cells #[.int .i64 ((⟨a, l, 3, 0, t + (poAt qs i).co⟩ : Le)).a, .int .i64 ((⟨a, l, 3, 0, t + (poAt qs i).co⟩ : Le)).l, .int .i64 ((⟨a, l, 3, 0, t + (poAt qs i).co⟩ : Le)).kd, .int .i64 ((⟨a, l, 3, 0, t + (poAt qs i).co⟩ : Le)).ow, .int .i64 ((⟨a, l, 3, 0, t + (poAt qs i).co⟩ : Le)).un] 55) rfl
              rw [addr_add, Nat.zero_add]
              exact ((box_cells hn).1 j).trans (by rw [List.getElem?_toArray]; exact hj)
            intro v' w' hO' hg'
            have hB' : Below w1.heap.size w1 w' := below_grownr (hB.trans ((hB5.trans ((bl1 _ _).mono hB5.size)).mono hB.size)) hg' (fun k e => (hOv4.lt k e).1)
            go_wp2
            go_roundw
            case rel => exact ⟨j + 1, _, by go_num, hltj'.out, hB', hO', by unfold Hid; rw [hstep.out, hes.out, hstep2.out]; rfl⟩
            case measure => have := hltj'.out; simp [intOf]; omega
        · rw [ha] at l0
          have hld : decide (l = e.l) = false := by simp; exact fun h => hl h.symm
          have hld2 : decide (e.l = l) = false := by simpa using hl
          have hstep2 : Hid (backE (poAt qs i).co a l t e = some ⟨a, e.l, e.kd, e.ow, e.un⟩) := by
            have h := back_no2 (co := (poAt qs i).co) (a := a) (t := t) hl
            rw [← ha] at h ⊢
            exact h
          have hOv4 := hOv.later hBl
          have hwl := hBl.size
          have hBsz := hB.size
          go_wp2_with (at_builtin; refine Hid.out ?_)
          unfold Hid
          refine wpList_append_L rfl _ _ rfl w1.heap.size _ _ rfl (hOv4.later (bl1 _ _)) ⟨wl.heap.size, 0, none⟩ 1 1 [(⟨a, e.l, e.kd, e.ow, e.un⟩ : Le)] rfl rfl ?_ (by simp; have := hvl.out; omega) (by simp; omega) ?_
          · intro j u hj
            have hn := heap_new (W := wl) (.cells #[.int .i64 ((⟨a, e.l, e.kd, e.ow, e.un⟩ : Le)).a, .int .i64 ((⟨a, e.l, e.kd, e.ow, e.un⟩ : Le)).l, .int .i64 ((⟨a, e.l, e.kd, e.ow, e.un⟩ : Le)).kd, .int .i64 ((⟨a, e.l, e.kd, e.ow, e.un⟩ : Le)).ow, .int .i64 ((⟨a, e.l, e.kd, e.ow, e.un⟩ : Le)).un] 55) rfl
            rw [addr_add, Nat.zero_add]
            exact ((box_cells hn).1 j).trans (by rw [List.getElem?_toArray]; exact hj)
          intro v' w' hO' hg'
          have hB' : Below w1.heap.size w1 w' := below_grownr (hB.trans ((hBl.trans ((bl1 _ _).mono hBl.size)).mono hB.size)) hg' (fun k e => (hOv4.lt k e).1)
          go_wp2
          go_roundw
          case rel => exact ⟨j + 1, _, by go_num, hltj'.out, hB', hO', by unfold Hid; rw [hstep.out, hes.out, hstep2.out]; rfl⟩
          case measure => have := hltj'.out; simp [intOf]; omega
      · have hld2 : decide (e.a = a) = false := by simpa using ha
        have hstep2 : Hid (backE (poAt qs i).co a l t e = some e) := back_no1 ha
        have hOv4 := hOv.later hBl
        have hwl := hBl.size
        have hBsz := hB.size
        go_wp2_with (at_builtin; refine Hid.out ?_)
        unfold Hid
        refine wpList_append_L rfl _ _ rfl w1.heap.size _ _ rfl (hOv4.later (bl1 _ _)) ⟨wl.heap.size, 0, none⟩ 1 1 [e] rfl rfl ?_ (by simp; have := hvl.out; omega) (by simp; omega) ?_
        · intro j u hj
          have hn := heap_new (W := wl) (.cells #[.int .i64 (e).a, .int .i64 (e).l, .int .i64 (e).kd, .int .i64 (e).ow, .int .i64 (e).un] 55) rfl
          rw [addr_add, Nat.zero_add]
          exact ((box_cells hn).1 j).trans (by rw [List.getElem?_toArray]; exact hj)
        intro v' w' hO' hg'
        have hB' : Below w1.heap.size w1 w' := below_grownr (hB.trans ((hBl.trans ((bl1 _ _).mono hBl.size)).mono hB.size)) hg' (fun k e => (hOv4.lt k e).1)
        go_wp2
        go_roundw
        case rel => exact ⟨j + 1, _, by go_num, hltj'.out, hB', hO', by unfold Hid; rw [hstep.out, hes.out, hstep2.out]; rfl⟩
        case measure => have := hltj'.out; simp [intOf]; omega
    · have hnj : ¬ (j : Int) < (poAt qs i).n := by omega
      have hall : Hid (es = backL (poAt qs i) a l t) := by
        unfold Hid backL
        rw [hes.out, List.take_of_length_le (by rw [hll'.out]; omega)]
      obtain ⟨xv, cv, rfl, -⟩ := hOv.mem
      have hBw := hB1.trans (hB.mono hB1.size)
      have z8 := hr.row.frozen (i * 9 + 8)
      obtain ⟨hbg, cur, hgc⟩ := hr.row.block
      have hfin := h.swap (i := i) hin0.out hBw (hOv.low hB1.size) hwb
      have hK : Kept base w (wr.setCell ⟨g, i * 9 + 8, none⟩ (.slice xv es.length cv)) := (Kept.of_below hBw hwb).trans (Kept.of_grown (set_grown _ _ _ _) hbg (Nat.le_trans hwb hBw.size) hgc (.inl rfl))
      go_wp2
      refine bodyPost_end (results_none Tryz.results50 _ _ _) rfl ?_
      rw [hall.out] at hfin hK ⊢
      exact ⟨rfl, xv, cv, hfin, hK⟩
end Go.Proofs.YtpdoonkhnabfjaaGreat
