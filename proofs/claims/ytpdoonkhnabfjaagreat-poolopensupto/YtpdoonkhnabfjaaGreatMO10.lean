/- What ClaimOf of package parcelwayref comes to. -/
import Derived.Test.YtpdoonkhnabfjaaGreatMO09
import Derived.Deep.RegionLaw
namespace Go.Proofs.YtpdoonkhnabfjaaGreat
open Go.RowKit Go.Shelf

/-- append onto a row that is owned, as one step of a region that draws its order. -/
theorem step_append_own {P : Program} {ops : Array Oper} {o : Oper} {a : Act} {w : World} {K : Act → World → Prop} {Q : Exit → Act → World → Prop} {E : Prop}
    (hg : o.guard = none) (s x : Operand) (t : TypeId) (hop : o.op = Op.call { callee := Callee.builtin Builtin.append, args := #[s, x], argTypes := #[t, t] })
    (base : Nat) (e : TypeId) (i : TypeInfo) (z : Value) (size bytes : Nat) (h1 : P.underlying t = some (.slice e)) (h2 : P.info? e = some i) (h3 : i.zero = some z) (h4 : i.size = size) (h5 : i.bytes = bytes) (h6 : z.cells.size = size) (h7 : 0 < size)
    (v : Value) (n : Nat) (xs : List Value) (hs : a.eval s = v) (hown : w.ownsRow base e size v n xs)
    (ad : Addr) (m c : Nat) (news : List Value) (hx : a.eval x = .slice (some ad) m c) (hn : news.length = m * size) (hc : ∀ j u, news[j]? = some u → w.cell? (ad.add j) = some u) (h1c : ∀ u ∈ news, u.oneCell' = true)
    (b1 : n + m ≤ maxLen) (b2 : (n + m) * bytes ≤ 140737488355328) (b3 : base ≤ w.heap.size)
    (hK : ∀ v' w', w'.ownsRow base e size v' (n + m) (xs ++ news) → w.grownBy w' v.ownBlock → K (a.put o.dst v') w') :
    if Region.wanted o (yielded ops a.tmps) = true then Oper.wp P o a w K Q else E := by
  have hw : Region.wanted o (yielded ops a.tmps) = true := by simp [Region.wanted, hg]
  rw [if_pos hw]
  obtain ⟨v', w', hrun, r1, r2, _⟩ := run_append_own (P := P) w base t o.type e i z size bytes h1 h2 h3 h4 h5 h6 h7 v n xs hown ad m c news hn hc h1c b1 b2 b3
  unfold Oper.wp
  simp [execOp, hop, resolve, invoke, builtin, hs, hx, hrun, Result.andThen]
  exact hK v' w' r1 r2

/-- The list that the document's own walk has laid behind k rounds. -/
def clDone (ps : List (Int × Int)) (c m : Int) (k : Nat) (d : Bool) (o : List (Int × Int)) : Prop :=
  (d = false ∧ o = ps.take k ∧ ∀ j, j < k → ¬ c < at0 ps j) ∨ (d = true ∧ ∃ i, i < k ∧ (∀ j, j < i → ¬ c < at0 ps j) ∧ c < at0 ps i ∧ o = ps.take i ++ [(c, m)] ++ (ps.take k).drop i)

theorem take_next {ps : List (Int × Int)} {k : Nat} (hk : k < ps.length) : ps.take (k + 1) = ps.take k ++ [(at0 ps k, at1 ps k)] := by
  rw [List.take_add_one, List.getElem?_eq_getElem hk, at0_get hk, at1_get hk]
  rfl
theorem clDone_start (ps : List (Int × Int)) (c m : Int) : clDone ps c m 0 false [] := .inl ⟨rfl, rfl, fun j hj => by omega⟩
theorem clDone_skip {ps : List (Int × Int)} {c m : Int} {k : Nat} {o : List (Int × Int)} (hk : k < ps.length) (h : clDone ps c m k false o) (hc : ¬ c < at0 ps k) : clDone ps c m (k + 1) false (o ++ [(at0 ps k, at1 ps k)]) := by
  rcases h with ⟨_, rfl, h⟩ | ⟨h, _⟩
  · refine .inl ⟨rfl, (take_next hk).symm, fun j hj => ?_⟩
    by_cases hj2 : j < k
    · exact h j hj2
    · obtain rfl : j = k := by omega
      exact hc
  · cases h
theorem clDone_put {ps : List (Int × Int)} {c m : Int} {k : Nat} {o : List (Int × Int)} (hk : k < ps.length) (h : clDone ps c m k false o) (hc : c < at0 ps k) : clDone ps c m (k + 1) true (o ++ [(c, m)] ++ [(at0 ps k, at1 ps k)]) := by
  rcases h with ⟨_, rfl, h⟩ | ⟨h, _⟩
  · refine .inr ⟨rfl, k, by omega, h, hc, ?_⟩
    have : (ps.take k).length = k := by rw [List.length_take]; omega
    rw [take_next hk, List.drop_append, this, List.drop_eq_nil_of_le (by omega), Nat.sub_self]
    simp
  · cases h
theorem clDone_more {ps : List (Int × Int)} {c m : Int} {k : Nat} {o : List (Int × Int)} (hk : k < ps.length) (h : clDone ps c m k true o) : clDone ps c m (k + 1) true (o ++ [(at0 ps k, at1 ps k)]) := by
  rcases h with ⟨h, _⟩ | ⟨_, i, hi, h1, h2, rfl⟩
  · cases h
  · refine .inr ⟨rfl, i, by omega, h1, h2, ?_⟩
    have : (ps.take k).length = k := by rw [List.length_take]; omega
    rw [take_next hk, List.drop_append_of_le_length (by omega), ← List.append_assoc]
theorem clDone_end {ps : List (Int × Int)} {c m : Int} {d : Bool} {o : List (Int × Int)} (h : clDone ps c m ps.length d o) : PutAt ps c m (if d then o else o ++ [(c, m)]) := by
  rcases h with ⟨rfl, rfl, h⟩ | ⟨rfl, i, hi, h1, h2, rfl⟩
  · exact ⟨ps.length, by omega, h, fun h => by omega, by simp⟩
  · exact ⟨i, by omega, h1, fun _ => h2, by simp⟩
theorem PutAt.one {ps qs rs : List (Int × Int)} {c m : Int} (h : PutAt ps c m qs) (g : PutAt ps c m rs) : qs = rs := by
  obtain ⟨i, hi, h1, h2, rfl⟩ := h.ex
  obtain ⟨j, hj, g1, g2, rfl⟩ := g.ex
  have : i = j := by
    rcases Nat.lt_trichotomy i j with h | h | h
    · exact absurd (h2 (by omega)) (g1 i h)
    · exact h
    · exact absurd (g2 (by omega)) (h1 j h)
  rw [this]
theorem clDone_len {ps : List (Int × Int)} {c m : Int} {k : Nat} {d : Bool} {o : List (Int × Int)} (h : clDone ps c m k d o) : o.length ≤ k + 1 := by
  rcases h with ⟨_, rfl, _⟩ | ⟨_, i, hi, _, _, rfl⟩
  · rw [List.length_take]; omega
  · simp only [List.length_append, List.length_take, List.length_drop, List.length_cons, List.length_nil]
    omega
end Go.Proofs.YtpdoonkhnabfjaaGreat
/- What ClaimOf and FreeOf of package parcelwayref come to. -/
namespace Go.Proofs.YtpdoonkhnabfjaaGreat
open Go.RowKit Go.Shelf

/-- The box of the space that is being laid: it holds these so far, in memory of the call's own. -/
def OutAt (w V : World) (a l : Int) (o : List (Int × Int)) (x : Option Addr) (c : Nat) : Prop :=
  V.heap[w.heap.size]? = some (.cells #[.int .i64 a, .int .i64 l, .slice x o.length c] 71) ∧ V.ownsRow (w.heap.size + 1) 26 2 (.slice x o.length c) o.length (flat o) ∧ Below w.heap.size w V
theorem OutAt.start (w : World) (a l : Int) : OutAt w (w.alloc (.cells #[.int .i64 a, .int .i64 l, .slice none 0 0] 71)) a l [] none 0 :=
  ⟨heap_new _ rfl, World.ownsRow_nil _ _ _ _, bl1 w _⟩
theorem OutAt.later {w V V' : World} {a l : Int} {o : List (Int × Int)} {x : Option Addr} {c : Nat} (h : OutAt w V a l o x c) (hb : Below V.heap.size V V') : OutAt w V' a l o x c :=
  ⟨(hb.block _ (Array.getElem?_eq_some_iff.1 h.1).1).trans h.1, own_row (B := 0) () V V' none h.2.1 (grown_of_below hb) (fun r e => by cases e), h.2.2.trans (hb.mono h.2.2.size)⟩
theorem OutAt.append {w V w5 : World} {a l c m : Int} {o : List (Int × Int)} {x : Option Addr} {k : Nat} {v' : Value} (h : OutAt w V a l o x k)
    (hown : w5.ownsRow (w.heap.size + 1) 26 2 v' (o.length + 1) (flat o ++ [.int .i64 c, .int .i64 m])) (hg : (V.alloc (.cells #[.int .i64 c, .int .i64 m] 26)).grownBy w5 (Value.slice x o.length k).ownBlock) :
    ∃ x' k', v' = .slice x' (o.length + 1) k' ∧ w5.cell? ⟨w.heap.size, 2, none⟩ = some (.slice x o.length k) ∧ w5.frozen? ⟨w.heap.size, 2, none⟩ = false ∧ Below w.heap.size w w5 ∧
      OutAt w (w5.setCell ⟨w.heap.size, 2, none⟩ (.slice x' (o.length + 1) k')) a l (o ++ [(c, m)]) x' k' := by
  have hne : (Value.slice x o.length k).ownBlock ≠ some w.heap.size := fun e => by have := (h.2.1.lt _ e).1; omega
  have hlt : w.heap.size < V.heap.size := (Array.getElem?_eq_some_iff.1 h.1).1
  have e5 : w5.heap[w.heap.size]? = some (.cells #[.int .i64 a, .int .i64 l, .slice x o.length k] 71) := (hg.block _ (by simp; omega) (fun e => hne e.symm)).trans (heap_old _ h.1)
  have hgs := hg.size
  rw [World.size_alloc] at hgs
  have hb5 : Below w.heap.size w w5 := ⟨hg.os.trans h.2.2.os, hg.tape.trans h.2.2.tape, hg.output.trans h.2.2.output, by omega, fun j hj =>
    ((hg.block j (by simp; omega) (fun e => by have := (h.2.1.lt _ e.symm).1; omega)).trans (Below.heap_alloc _ _ _ (by omega))).trans (h.2.2.block j hj)⟩
  have hv : v'.ownBlock ≠ some w.heap.size := fun e => by have := (hown.lt _ e).1; omega
  obtain ⟨x', k', rfl⟩ : ∃ x' k', v' = .slice x' (o.length + 1) k' := by
    rcases hown.2 with ⟨_, h0⟩ | ⟨g, cap, cur, rfl, _⟩
    · omega
    · exact ⟨_, _, rfl⟩
  refine ⟨x', k', rfl, (box3 e5).2.2.1, (box3 e5).2.2.2.2.2, hb5, ?_, ?_, hb5.setCell (p := ⟨w.heap.size, 2, none⟩) (Nat.le_refl _) _⟩
  · have := heap_setCell_same w5 w.heap.size 2 _ _ (.slice x' (o.length + 1) k') e5
    rw [List.length_append, List.length_singleton]
    simpa using this
  · rw [List.length_append, List.length_singleton, flat_append]
    exact ownsRow_setCell_other hown hv _
theorem grown_drew {X Y : World} {r : Option Nat} (h : X.drew.grownBy Y r) : X.grownBy Y r := ⟨h.os, h.tape, h.output, h.size, h.block⟩
theorem OutAt.ps {w V : World} {a l : Int} {o : List (Int × Int)} {x : Option Addr} {c : Nat} (h : OutAt w V a l o x c) : PS V x o.length o ∧ (∀ q, x = some q → w.heap.size + 1 ≤ q.block) := by
  obtain ⟨x', c', e, hps, hfr, _⟩ := PS.of_own h.2.1
  cases e
  exact ⟨hps, fun q hq => (hfr q hq).1⟩

def ClaimPostR (a l : Int) (n : Nat) (ps : List (Int × Int)) (c m : Int) (w : World) (e : Ending) (w' : World) : Prop :=
  Below w.heap.size w w' ∧ ((claimE a l n ps c m ≠ 0 ∧ e = .returned (.tuple #[.agg #[.int .i64 0, .int .i64 0, .slice none 0 0], .int .i64 (claimE a l n ps c m)])) ∨
    (claimE a l n ps c m = 0 ∧ ∃ x' c' qs, e = .returned (.tuple #[.agg #[.int .i64 a, .int .i64 l, .slice x' qs.length c'], .int .i64 0]) ∧ PutAt ps c m qs ∧ PS w' x' qs.length qs))

end Go.Proofs.YtpdoonkhnabfjaaGreat
/- What FreeOf of package parcelwayref comes to. -/
namespace Go.Proofs.YtpdoonkhnabfjaaGreat
open Go.RowKit Go.Shelf

def keepP (c m : Int) (u : Int × Int) : Bool := !(decide (u.1 = c) && decide (u.2 = m))
/-- The first k but that one. -/
def flt (ps : List (Int × Int)) (c m : Int) (k : Nat) : List (Int × Int) := (ps.take k).filter (keepP c m)
theorem flt_yes {ps : List (Int × Int)} {c m : Int} {k : Nat} (hk : k < ps.length) (h : (!(decide (at0 ps k = c) && decide (at1 ps k = m))) = true) : flt ps c m (k + 1) = flt ps c m k ++ [(at0 ps k, at1 ps k)] := by
  unfold flt
  rw [take_next hk, List.filter_append, List.filter_cons_of_pos (by exact h)]
  rfl
theorem flt_no {ps : List (Int × Int)} {c m : Int} {k : Nat} (hk : k < ps.length) (h : (!(decide (at0 ps k = c) && decide (at1 ps k = m))) = false) : flt ps c m (k + 1) = flt ps c m k := by
  unfold flt
  rw [take_next hk, List.filter_append, List.filter_cons_of_neg (by unfold keepP; rw [h]; decide)]
  simp
theorem flt_len (ps : List (Int × Int)) (c m : Int) (k : Nat) : (flt ps c m k).length ≤ k := by
  unfold flt
  refine Nat.le_trans (List.length_filter_le _ _) ?_
  rw [List.length_take]
  omega
theorem eqAt_keep {ps : List (Int × Int)} {c m : Int} {j : Nat} (hj : j < ps.length) : eqAt ps c m j = !(keepP c m ps[j]) := by
  unfold eqAt keepP
  rw [at0_get hj, at1_get hj, Bool.not_not, Bool.eq_iff_iff]
  simp only [Bool.and_eq_true, decide_eq_true_eq]
  constructor <;> (rintro ⟨h1, h2⟩; exact ⟨h1.symm, h2.symm⟩)
theorem flt_all {ps : List (Int × Int)} {c m : Int} (h : ∀ j, j < ps.length → eqAt ps c m j = false) : flt ps c m ps.length = ps := by
  unfold flt
  rw [List.take_length, List.filter_eq_self]
  intro u hu
  obtain ⟨j, hj, rfl⟩ := List.getElem_of_mem hu
  have := h j hj
  rw [eqAt_keep hj] at this
  simpa using this
theorem flt_one {ps : List (Int × Int)} {a l c m : Int} {i : Nat} (hU : Used ps a l) (hi : i < ps.length) (h : eqAt ps c m i = true) : flt ps c m ps.length = ps.take i ++ ps.drop (i + 1) := by
  have hpi : ps[i] = (c, m) := by
    unfold eqAt at h
    rw [at0_get hi, at1_get hi] at h
    simp only [Bool.and_eq_true, decide_eq_true_eq] at h
    exact Prod.ext h.1.symm h.2.symm
  have hps : ps = ps.take i ++ ps[i] :: ps.drop (i + 1) := by simp
  have hne : ∀ j (hj : j < ps.length), j ≠ i → keepP c m ps[j] = true := fun j hj hji => by
    have h1 : ps[j].1 ≠ c := fun e => by
      have hc : ps[i].1 = c := by rw [hpi]
      rcases Nat.lt_or_gt_of_ne hji with h2 | h2
      · have := List.pairwise_iff_getElem.1 hU.rise j i hj hi h2
        have := sp_pos ps[j].2
        omega
      · have := List.pairwise_iff_getElem.1 hU.rise i j hi hj h2
        have := sp_pos ps[i].2
        omega
    unfold keepP
    simp [h1]
  unfold flt
  rw [List.take_length]
  conv => lhs; rw [hps]
  rw [List.filter_append, List.filter_cons_of_neg (by rw [hpi]; simp [keepP])]
  congr 1
  · rw [List.filter_eq_self]
    intro u hu
    obtain ⟨j, hj, rfl⟩ := List.getElem_of_mem hu
    rw [List.length_take] at hj
    rw [List.getElem_take]
    exact hne j (by omega) (by omega)
  · rw [List.filter_eq_self]
    intro u hu
    obtain ⟨j, hj, rfl⟩ := List.getElem_of_mem hu
    rw [List.length_drop] at hj
    rw [List.getElem_drop]
    exact hne (i + 1 + j) (by omega) (by omega)

def FreePostR (a l : Int) (n : Nat) (ps : List (Int × Int)) (c m : Int) (w : World) (e : Ending) (w' : World) : Prop :=
  Below w.heap.size w w' ∧ ((chkS a l n ps ≠ 0 ∧ e = .returned (.tuple #[.agg #[.int .i64 0, .int .i64 0, .slice none 0 0], .int .i64 (chkS a l n ps)])) ∨
    (chkS a l n ps = 0 ∧ (flt ps c m n).length = n ∧ e = .returned (.tuple #[.agg #[.int .i64 0, .int .i64 0, .slice none 0 0], .int .i64 5])) ∨
    (chkS a l n ps = 0 ∧ (flt ps c m n).length ≠ n ∧ ∃ x' c', e = .returned (.tuple #[.agg #[.int .i64 a, .int .i64 l, .slice x' (flt ps c m n).length c'], .int .i64 0]) ∧ PS w' x' (flt ps c m n).length (flt ps c m n)))

end Go.Proofs.YtpdoonkhnabfjaaGreat
