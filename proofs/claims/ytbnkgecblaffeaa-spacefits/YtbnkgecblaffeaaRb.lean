/- What ClaimOf of package parcelwayref comes to. -/
import Derived.Test.YtbnkgecblaffeaaRa
import Derived.Deep.RegionLaw
namespace Go.Proofs.Ytbnkgecblaffeaa
open Go.RowKit Go.Shelf

/-- append onto a row that is owned, as one step of a region that draws its order. -/
theorem step_append_own {P : Program} {ops : Array Oper} {o : Oper} {a : Act} {w : World} {K : Act → World → Prop} {Q : Exit → Act → World → Prop} {E : Prop}
    (hg : o.guard = none) (s x : Operand) (t : TypeId) (hop : o.op = Op.call { callee := Callee.builtin Builtin.append, args := #[s, x], argTypes := #[t, t] })
    (base : Nat) (e : TypeId) (i : TypeInfo) (z : Value) (size bytes : Nat) (h1 : P.underlying t = some (.slice e)) (h2 : P.info? e = some i) (h3 : i.zero = some z) (h4 : i.size = size) (h5 : i.bytes = bytes) (h6 : z.cells.size = size) (h7 : 0 < size)
    (v : Value) (n : Nat) (xs : List Value) (hs : a.eval s = v) (hown : w.ownsRow base e size v n xs)
    (ad : Addr) (m c : Nat) (news : List Value) (hx : a.eval x = .slice (some ad) m c) (hn : news.length = m * size) (hc : ∀ j u, news[j]? = some u → w.cell? (ad.add j) = some u) (h1c : ∀ u ∈ news, u.oneCell' = true)
    (b1 : n + m ≤ maxLen) (b2 : (n + m) * bytes ≤ 140737488355328) (b3 : base ≤ w.heap.size)
    (hK : ∀ v' w', w'.ownsRow base e size v' (n + m) (xs ++ news) → w.grownBy w' v.ownBlock → K (a.put o.dst v') w') :
    if Region.wanted o (yielded ops a.tmps) = true then Oper.wp P o a w K Q else E := by
  have hw : Region.wanted o (yielded ops a.tmps) = true := by simp [Region.wanted, hg]
  rw [if_pos hw]
  obtain ⟨v', w', hrun, r1, r2, _⟩ := run_append_own (P := P) w base t o.type e i z size bytes h1 h2 h3 h4 h5 h6 h7 v n xs hown ad m c news hn hc h1c b1 b2 b3
  unfold Oper.wp
  simp [execOp, hop, resolve, invoke, builtin, hs, hx, hrun, Result.andThen]
  exact hK v' w' r1 r2

/-- The list that the document's own walk has laid behind k rounds. -/
def clDone (ps : List (Int × Int)) (c m : Int) (k : Nat) (d : Bool) (o : List (Int × Int)) : Prop :=
  (d = false ∧ o = ps.take k ∧ ∀ j, j < k → ¬ c < at0 ps j) ∨ (d = true ∧ ∃ i, i < k ∧ (∀ j, j < i → ¬ c < at0 ps j) ∧ c < at0 ps i ∧ o = ps.take i ++ [(c, m)] ++ (ps.take k).drop i)

theorem take_next {ps : List (Int × Int)} {k : Nat} (hk : k < ps.length) : ps.take (k + 1) = ps.take k ++ [(at0 ps k, at1 ps k)] := by
  rw [List.take_add_one, List.getElem?_eq_getElem hk, at0_get hk, at1_get hk]
  rfl
theorem clDone_start (ps : List (Int × Int)) (c m : Int) : clDone ps c m 0 false [] := .inl ⟨rfl, rfl, fun j hj => by omega⟩
theorem clDone_skip {ps : List (Int × Int)} {c m : Int} {k : Nat} {o : List (Int × Int)} (hk : k < ps.length) (h : clDone ps c m k false o) (hc : ¬ c < at0 ps k) : clDone ps c m (k + 1) false (o ++ [(at0 ps k, at1 ps k)]) := by
  rcases h with ⟨_, rfl, h⟩ | ⟨h, _⟩
  · refine .inl ⟨rfl, (take_next hk).symm, fun j hj => ?_⟩
    by_cases hj2 : j < k
    · exact h j hj2
    · obtain rfl : j = k := by omega
      exact hc
  · cases h
theorem clDone_put {ps : List (Int × Int)} {c m : Int} {k : Nat} {o : List (Int × Int)} (hk : k < ps.length) (h : clDone ps c m k false o) (hc : c < at0 ps k) : clDone ps c m (k + 1) true (o ++ [(c, m)] ++ [(at0 ps k, at1 ps k)]) := by
  rcases h with ⟨_, rfl, h⟩ | ⟨h, _⟩
  · refine .inr ⟨rfl, k, by omega, h, hc, ?_⟩
    have : (ps.take k).length = k := by rw [List.length_take]; omega
    rw [take_next hk, List.drop_append, this, List.drop_eq_nil_of_le (by omega), Nat.sub_self]
    simp
  · cases h
theorem clDone_more {ps : List (Int × Int)} {c m : Int} {k : Nat} {o : List (Int × Int)} (hk : k < ps.length) (h : clDone ps c m k true o) : clDone ps c m (k + 1) true (o ++ [(at0 ps k, at1 ps k)]) := by
  rcases h with ⟨h, _⟩ | ⟨_, i, hi, h1, h2, rfl⟩
  · cases h
  · refine .inr ⟨rfl, i, by omega, h1, h2, ?_⟩
    have : (ps.take k).length = k := by rw [List.length_take]; omega
    rw [take_next hk, List.drop_append_of_le_length (by omega), ← List.append_assoc]
theorem clDone_end {ps : List (Int × Int)} {c m : Int} {d : Bool} {o : List (Int × Int)} (h : clDone ps c m ps.length d o) : PutAt ps c m (if d then o else o ++ [(c, m)]) := by
  rcases h with ⟨rfl, rfl, h⟩ | ⟨rfl, i, hi, h1, h2, rfl⟩
  · exact ⟨ps.length, by omega, h, fun h => by omega, by simp⟩
  · exact ⟨i, by omega, h1, fun _ => h2, by simp⟩
theorem PutAt.one {ps qs rs : List (Int × Int)} {c m : Int} (h : PutAt ps c m qs) (g : PutAt ps c m rs) : qs = rs := by
  obtain ⟨i, hi, h1, h2, rfl⟩ := h.ex
  obtain ⟨j, hj, g1, g2, rfl⟩ := g.ex
  have : i = j := by
    rcases Nat.lt_trichotomy i j with h | h | h
    · exact absurd (h2 (by omega)) (g1 i h)
    · exact h
    · exact absurd (g2 (by omega)) (h1 j h)
  rw [this]
theorem clDone_len {ps : List (Int × Int)} {c m : Int} {k : Nat} {d : Bool} {o : List (Int × Int)} (h : clDone ps c m k d o) : o.length ≤ k + 1 := by
  rcases h with ⟨_, rfl, _⟩ | ⟨_, i, hi, _, _, rfl⟩
  · rw [List.length_take]; omega
  · simp only [List.length_append, List.length_take, List.length_drop, List.length_cons, List.length_nil]
    omega
end Go.Proofs.Ytbnkgecblaffeaa
