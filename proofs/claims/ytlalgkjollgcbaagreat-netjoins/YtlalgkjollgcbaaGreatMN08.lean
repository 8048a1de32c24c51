/- Ranges, subnets and faces in memory of the call's own. -/
import Derived.Test.YtlalgkjollgcbaaGreatMN05
import Derived.Test.YtlalgkjollgcbaaGreatMN06
import Derived.Test.YtlalgkjollgcbaaGreatMN07
import Derived.Laws.AppendOwn
import Derived.Laws.AppendOwnNone
namespace Go.Proofs.YtlalgkjollgcbaaGreat
open Go.RowKit Go.Shelf
/-- The cells of ranges. -/
def cR (e : Rg) : List Value := [.int .i64 e.a, .int .i64 e.l, .int .i64 e.p]
def flatR (es : List Rg) : List Value := es.flatMap cR
theorem cR_len (e : Rg) : (cR e).length = 3 := rfl
theorem flatR_len : ∀ es : List Rg, (flatR es).length = es.length * 3
  | [] => rfl
  | e :: es => by
    have := flatR_len es
    unfold flatR at this ⊢
    rw [List.flatMap_cons, List.length_append, this, cR_len, List.length_cons]
    omega
theorem flatR_snoc (es : List Rg) (e : Rg) : flatR (es ++ [e]) = flatR es ++ cR e := by simp [flatR]
theorem flatR_app (es fs : List Rg) : flatR (es ++ fs) = flatR es ++ flatR fs := by simp [flatR]
theorem flatR_at : ∀ (es : List Rg) (i j : Nat), i < es.length → j < 3 → (flatR es)[i * 3 + j]? = (cR (rgAt es i))[j]?
  | [], i, j, hi, _ => by simp at hi
  | e :: es, 0, j, _, hj => by
    unfold flatR
    rw [List.flatMap_cons, List.getElem?_append_left (by rw [cR_len]; omega)]
    simp [rgAt]
  | e :: es, i + 1, j, hi, hj => by
    have := flatR_at es i j (by simpa using hi) hj
    unfold flatR at this ⊢
    rw [List.flatMap_cons, List.getElem?_append_right (by rw [cR_len]; omega), cR_len, show (i + 1) * 3 + j - 3 = i * 3 + j by omega, this]
    simp [rgAt]
theorem flatR_split {es : List Rg} {j : Nat} {u : Value} (h : (flatR es)[j]? = some u) : ∃ i q, j = i * 3 + q ∧ q < 3 ∧ i < es.length := by
  have hl : j < (flatR es).length := by
    by_cases h2 : j < (flatR es).length
    · exact h2
    · rw [List.getElem?_eq_none (by omega)] at h; cases h
  rw [flatR_len] at hl
  exact ⟨j / 3, j % 3, by omega, by omega, by omega⟩
theorem flatR_one (es : List Rg) : ∀ u ∈ flatR es, u.oneCell' = true := fun u hu => by
  obtain ⟨e, -, hu⟩ := List.mem_flatMap.1 hu
  simp only [cR, List.mem_cons, List.not_mem_nil, or_false] at hu
  rcases hu with rfl | rfl | rfl <;> rfl
/-- ranges that lie in memory of the call's own. -/
def OwnR (w : World) (base : Nat) (v : Value) (es : List Rg) : Prop := w.ownsRow base 29 3 v es.length (flatR es)
theorem OwnR.later {w w' : World} {base : Nat} {v : Value} {es : List Rg} (h : OwnR w base v es) (hb : Below w.heap.size w w') : OwnR w' base v es := by
  refine World.ownsRow.kept h (grown_of_below hb) ?_
  cases hv : v.ownBlock
  · exact .inl rfl
  · exact .inr (by simp)
theorem OwnR.kept {w w' : World} {base g : Nat} {v : Value} {es : List Rg} (h : OwnR w base v es) (hg : w.grownBy w' (some g)) (hne : ∀ k, v.ownBlock = some k → k ≠ g) : OwnR w' base v es := by
  refine World.ownsRow.kept h hg ?_
  cases hv : v.ownBlock
  · exact .inl rfl
  · rename_i k
    exact .inr fun e => hne k hv (Option.some.inj e)
theorem OwnR.low {w : World} {base base' : Nat} {v : Value} {es : List Rg} (h : OwnR w base v es) (hb : base' ≤ base) : OwnR w base' v es := by
  refine ⟨h.1, ?_⟩
  rcases h.2 with h | ⟨g, cap, cur, h1, h2, h3⟩
  · exact .inl h
  · exact .inr ⟨g, cap, cur, h1, Nat.le_trans hb h2, h3⟩
theorem OwnR.lt {w : World} {base : Nat} {v : Value} {es : List Rg} (h : OwnR w base v es) : ∀ k, v.ownBlock = some k → base ≤ k ∧ k < w.heap.size := World.ownsRow.lt h
theorem OwnR.ne {w : World} {base b : Nat} {v : Value} {es : List Rg} {cs : Array Value} {t : TypeId} {fr : Nat × Nat} (h : OwnR w base v es) (hb : w.heap[b]? = some (.cells cs t fr)) (ht : t ≠ 29) : v.ownBlock ≠ some b := by
  rcases h.2 with ⟨rfl, -⟩ | ⟨g, cap, cur, rfl, -, h2, -⟩
  · simp [Value.ownBlock]
  · intro e
    simp only [Value.ownBlock, Option.some.injEq] at e
    rw [e, hb] at h2
    simp only [Option.some.injEq, Obj.cells.injEq] at h2
    exact ht h2.2.1
theorem info_R : (Tryz.prog.info? 29).map (fun i => (i.zero, i.size, i.bytes)) = some (some (.agg #[.int .i64 0, .int .i64 0, .int .i64 0]), 3, 24) := by kernel_rfl
theorem info_R' : ∃ i, Tryz.prog.info? 29 = some i ∧ i.zero = some (.agg #[.int .i64 0, .int .i64 0, .int .i64 0]) ∧ i.size = 3 ∧ i.bytes = 24 := by
  obtain ⟨i, hi, h⟩ := Option.map_eq_some_iff.1 info_R
  simp only [Prod.mk.injEq] at h
  exact ⟨i, hi, h.1, h.2.1, h.2.2⟩
theorem under_R : Tryz.prog.underlying 49 = some (.slice 29) := by kernel_rfl
theorem RS.flat_cells {w : World} {ad : Addr} {n : Nat} {es : List Rg} (h : RS w (some ad) n es) : ∀ j u, (flatR es)[j]? = some u → w.cell? (ad.add j) = some u := by
  intro j u hj
  obtain ⟨i, q, rfl, hq, hi⟩ := flatR_split hj
  rw [flatR_at es i q hi hq] at hj
  obtain ⟨b, o, hx, d0, d1, d2⟩ := h.cells i (by rw [← h.len]; exact hi)
  simp only [Option.some.injEq] at hx
  subst hx
  rw [addr_add, ← Nat.add_assoc]
  rcases q with _ | _ | _ | q
  case succ.succ.succ => omega
  all_goals simp only [cR, List.getElem?_cons_zero, List.getElem?_cons_succ, Option.some.injEq] at hj
  all_goals rw [← hj]
  all_goals assumption
/-- append of a whole slice to a row of the call's own. -/
theorem wpList_append_R {w : World} {ops : Array Oper} {rest : List Oper} {o : Oper} {a : Act} {Q : Exit → Act → World → Prop} (hgd : o.guard = none) (s x : Operand)
    (ho : o.op = .call { callee := .builtin .append, args := #[s, x], argTypes := #[49, 49] }) (base : Nat) (v : Value) (es : List Rg) (hs : a.eval s = v) (hO : OwnR w base v es)
    (ad : Addr) (m c : Nat) (fs : List Rg) (hx : a.eval x = .slice (some ad) m c) (hm : fs.length = m) (hy : ∀ j u, (flatR fs)[j]? = some u → w.cell? (ad.add j) = some u)
    (hlen : es.length + m ≤ 1000000000) (hbase : base ≤ w.heap.size)
    (h : ∀ v' w', OwnR w' base v' (es ++ fs) → w.grownBy w' v.ownBlock → wpList Tryz.prog ops Q rest (a.put o.dst v') w') : wpList Tryz.prog ops Q (o :: rest) a w := by
  obtain ⟨i0, hi, hz0, hz1, hz2⟩ := info_R'
  subst hm
  refine wpList_append_own w hgd s x 49 ho base 29 i0 _ 3 24 under_R hi hz0 hz1 hz2 rfl (by decide) v es.length (flatR es) hs hO ad fs.length c (flatR fs) hx (flatR_len fs) hy (flatR_one fs) (by unfold maxLen; omega) (by omega) hbase ?_
  intro v' w' h1 h2 _
  refine h v' w' ?_ h2
  unfold OwnR
  rw [flatR_app, List.length_append]
  exact h1
theorem OwnR.mem {w : World} {base : Nat} {v : Value} {es : List Rg} (h : OwnR w base v es) : ∃ x c, v = .slice x es.length c ∧ es.length ≤ c ∧ c ≤ 9223372036854775807 ∧ (x = none → es.length = 0 ∧ c = 0) ∧ ∀ i, i < es.length → ∃ b o, x = some ⟨b, o, none⟩ ∧ w.cell? ⟨b, o + i * 3, none⟩ = some (.int .i64 (rgAt es i).a) ∧ w.cell? ⟨b, o + i * 3 + 1, none⟩ = some (.int .i64 (rgAt es i).l) ∧ w.cell? ⟨b, o + i * 3 + 2, none⟩ = some (.int .i64 (rgAt es i).p) := by
  rcases h.2 with ⟨rfl, h0⟩ | ⟨g, cap, cur, rfl, -, -, h4, h5, -⟩
  · exact ⟨none, 0, by rw [h0], by omega, by omega, fun _ => ⟨h0, rfl⟩, fun i hi => by omega⟩
  · refine ⟨some ⟨g, 0, none⟩, cap, rfl, h4, by unfold maxLen at h5; omega, fun e => by simp at e, fun i hi => ⟨g, 0, rfl, ?_⟩⟩
    have e : ∀ j, j < 3 → ∀ u, (cR (rgAt es i))[j]? = some u → w.cell? ⟨g, 0 + i * 3 + j, none⟩ = some u := fun j hj u hu => by
      have := World.ownsRow.cells h (g := g) rfl (i * 3 + j) u ((flatR_at es i j hi hj).trans hu)
      rw [Addr.add_lit] at this
      rw [Nat.add_assoc]
      exact this
    exact ⟨e 0 (by omega) _ rfl, e 1 (by omega) _ rfl, e 2 (by omega) _ rfl⟩
/-- The cells of subnets. -/
def cS (e : Sb) : List Value := [.int .i64 e.id, .int .i64 e.a, .int .i64 e.l, .slice e.x e.n e.c]
def flatS (es : List Sb) : List Value := es.flatMap cS
theorem cS_len (e : Sb) : (cS e).length = 4 := rfl
theorem flatS_len : ∀ es : List Sb, (flatS es).length = es.length * 4
  | [] => rfl
  | e :: es => by
    have := flatS_len es
    unfold flatS at this ⊢
    rw [List.flatMap_cons, List.length_append, this, cS_len, List.length_cons]
    omega
theorem flatS_snoc (es : List Sb) (e : Sb) : flatS (es ++ [e]) = flatS es ++ cS e := by simp [flatS]
theorem flatS_app (es fs : List Sb) : flatS (es ++ fs) = flatS es ++ flatS fs := by simp [flatS]
theorem flatS_at : ∀ (es : List Sb) (i j : Nat), i < es.length → j < 4 → (flatS es)[i * 4 + j]? = (cS (sbAt es i))[j]?
  | [], i, j, hi, _ => by simp at hi
  | e :: es, 0, j, _, hj => by
    unfold flatS
    rw [List.flatMap_cons, List.getElem?_append_left (by rw [cS_len]; omega)]
    simp [sbAt]
  | e :: es, i + 1, j, hi, hj => by
    have := flatS_at es i j (by simpa using hi) hj
    unfold flatS at this ⊢
    rw [List.flatMap_cons, List.getElem?_append_right (by rw [cS_len]; omega), cS_len, show (i + 1) * 4 + j - 4 = i * 4 + j by omega, this]
    simp [sbAt]
theorem flatS_split {es : List Sb} {j : Nat} {u : Value} (h : (flatS es)[j]? = some u) : ∃ i q, j = i * 4 + q ∧ q < 4 ∧ i < es.length := by
  have hl : j < (flatS es).length := by
    by_cases h2 : j < (flatS es).length
    · exact h2
    · rw [List.getElem?_eq_none (by omega)] at h; cases h
  rw [flatS_len] at hl
  exact ⟨j / 4, j % 4, by omega, by omega, by omega⟩
theorem flatS_one (es : List Sb) : ∀ u ∈ flatS es, u.oneCell' = true := fun u hu => by
  obtain ⟨e, -, hu⟩ := List.mem_flatMap.1 hu
  simp only [cS, List.mem_cons, List.not_mem_nil, or_false] at hu
  rcases hu with rfl | rfl | rfl | rfl <;> rfl
/-- subnets that lie in memory of the call's own. -/
def OwnS (w : World) (base : Nat) (v : Value) (es : List Sb) : Prop := w.ownsRow base 90 4 v es.length (flatS es)
theorem OwnS.later {w w' : World} {base : Nat} {v : Value} {es : List Sb} (h : OwnS w base v es) (hb : Below w.heap.size w w') : OwnS w' base v es := by
  refine World.ownsRow.kept h (grown_of_below hb) ?_
  cases hv : v.ownBlock
  · exact .inl rfl
  · exact .inr (by simp)
theorem OwnS.kept {w w' : World} {base g : Nat} {v : Value} {es : List Sb} (h : OwnS w base v es) (hg : w.grownBy w' (some g)) (hne : ∀ k, v.ownBlock = some k → k ≠ g) : OwnS w' base v es := by
  refine World.ownsRow.kept h hg ?_
  cases hv : v.ownBlock
  · exact .inl rfl
  · rename_i k
    exact .inr fun e => hne k hv (Option.some.inj e)
theorem OwnS.low {w : World} {base base' : Nat} {v : Value} {es : List Sb} (h : OwnS w base v es) (hb : base' ≤ base) : OwnS w base' v es := by
  refine ⟨h.1, ?_⟩
  rcases h.2 with h | ⟨g, cap, cur, h1, h2, h3⟩
  · exact .inl h
  · exact .inr ⟨g, cap, cur, h1, Nat.le_trans hb h2, h3⟩
theorem OwnS.lt {w : World} {base : Nat} {v : Value} {es : List Sb} (h : OwnS w base v es) : ∀ k, v.ownBlock = some k → base ≤ k ∧ k < w.heap.size := World.ownsRow.lt h
theorem OwnS.ne {w : World} {base b : Nat} {v : Value} {es : List Sb} {cs : Array Value} {t : TypeId} {fr : Nat × Nat} (h : OwnS w base v es) (hb : w.heap[b]? = some (.cells cs t fr)) (ht : t ≠ 90) : v.ownBlock ≠ some b := by
  rcases h.2 with ⟨rfl, -⟩ | ⟨g, cap, cur, rfl, -, h2, -⟩
  · simp [Value.ownBlock]
  · intro e
    simp only [Value.ownBlock, Option.some.injEq] at e
    rw [e, hb] at h2
    simp only [Option.some.injEq, Obj.cells.injEq] at h2
    exact ht h2.2.1
theorem info_S : (Tryz.prog.info? 90).map (fun i => (i.zero, i.size, i.bytes)) = some (some (.agg #[.int .i64 0, .int .i64 0, .int .i64 0, .slice none 0 0]), 4, 48) := by kernel_rfl
theorem info_S' : ∃ i, Tryz.prog.info? 90 = some i ∧ i.zero = some (.agg #[.int .i64 0, .int .i64 0, .int .i64 0, .slice none 0 0]) ∧ i.size = 4 ∧ i.bytes = 48 := by
  obtain ⟨i, hi, h⟩ := Option.map_eq_some_iff.1 info_S
  simp only [Prod.mk.injEq] at h
  exact ⟨i, hi, h.1, h.2.1, h.2.2⟩
theorem under_S : Tryz.prog.underlying 50 = some (.slice 90) := by kernel_rfl
theorem SS.flat_cells {w : World} {ad : Addr} {n : Nat} {es : List Sb} (h : SS w (some ad) n es) : ∀ j u, (flatS es)[j]? = some u → w.cell? (ad.add j) = some u := by
  intro j u hj
  obtain ⟨i, q, rfl, hq, hi⟩ := flatS_split hj
  rw [flatS_at es i q hi hq] at hj
  obtain ⟨b, o, hx, d0, d1, d2, d3⟩ := h.cells i (by rw [← h.len]; exact hi)
  simp only [Option.some.injEq] at hx
  subst hx
  rw [addr_add, ← Nat.add_assoc]
  rcases q with _ | _ | _ | _ | q
  case succ.succ.succ.succ => omega
  all_goals simp only [cS, List.getElem?_cons_zero, List.getElem?_cons_succ, Option.some.injEq] at hj
  all_goals rw [← hj]
  all_goals assumption
/-- append of a whole slice to a row of the call's own. -/
theorem wpList_append_S {w : World} {ops : Array Oper} {rest : List Oper} {o : Oper} {a : Act} {Q : Exit → Act → World → Prop} (hgd : o.guard = none) (s x : Operand)
    (ho : o.op = .call { callee := .builtin .append, args := #[s, x], argTypes := #[50, 50] }) (base : Nat) (v : Value) (es : List Sb) (hs : a.eval s = v) (hO : OwnS w base v es)
    (ad : Addr) (m c : Nat) (fs : List Sb) (hx : a.eval x = .slice (some ad) m c) (hm : fs.length = m) (hy : ∀ j u, (flatS fs)[j]? = some u → w.cell? (ad.add j) = some u)
    (hlen : es.length + m ≤ 1000000000) (hbase : base ≤ w.heap.size)
    (h : ∀ v' w', OwnS w' base v' (es ++ fs) → w.grownBy w' v.ownBlock → wpList Tryz.prog ops Q rest (a.put o.dst v') w') : wpList Tryz.prog ops Q (o :: rest) a w := by
  obtain ⟨i0, hi, hz0, hz1, hz2⟩ := info_S'
  subst hm
  refine wpList_append_own w hgd s x 50 ho base 90 i0 _ 4 48 under_S hi hz0 hz1 hz2 rfl (by decide) v es.length (flatS es) hs hO ad fs.length c (flatS fs) hx (flatS_len fs) hy (flatS_one fs) (by unfold maxLen; omega) (by omega) hbase ?_
  intro v' w' h1 h2 _
  refine h v' w' ?_ h2
  unfold OwnS
  rw [flatS_app, List.length_append]
  exact h1
theorem OwnS.mem {w : World} {base : Nat} {v : Value} {es : List Sb} (h : OwnS w base v es) : ∃ x c, v = .slice x es.length c ∧ es.length ≤ c ∧ c ≤ 9223372036854775807 ∧ (x = none → es.length = 0 ∧ c = 0) ∧ ∀ i, i < es.length → ∃ b o, x = some ⟨b, o, none⟩ ∧ w.cell? ⟨b, o + i * 4, none⟩ = some (.int .i64 (sbAt es i).id) ∧ w.cell? ⟨b, o + i * 4 + 1, none⟩ = some (.int .i64 (sbAt es i).a) ∧ w.cell? ⟨b, o + i * 4 + 2, none⟩ = some (.int .i64 (sbAt es i).l) ∧ w.cell? ⟨b, o + i * 4 + 3, none⟩ = some (.slice (sbAt es i).x (sbAt es i).n (sbAt es i).c) := by
  rcases h.2 with ⟨rfl, h0⟩ | ⟨g, cap, cur, rfl, -, -, h4, h5, -⟩
  · exact ⟨none, 0, by rw [h0], by omega, by omega, fun _ => ⟨h0, rfl⟩, fun i hi => by omega⟩
  · refine ⟨some ⟨g, 0, none⟩, cap, rfl, h4, by unfold maxLen at h5; omega, fun e => by simp at e, fun i hi => ⟨g, 0, rfl, ?_⟩⟩
    have e : ∀ j, j < 4 → ∀ u, (cS (sbAt es i))[j]? = some u → w.cell? ⟨g, 0 + i * 4 + j, none⟩ = some u := fun j hj u hu => by
      have := World.ownsRow.cells h (g := g) rfl (i * 4 + j) u ((flatS_at es i j hi hj).trans hu)
      rw [Addr.add_lit] at this
      rw [Nat.add_assoc]
      exact this
    exact ⟨e 0 (by omega) _ rfl, e 1 (by omega) _ rfl, e 2 (by omega) _ rfl, e 3 (by omega) _ rfl⟩
/-- The cells of faces. -/
def cF (e : Fc) : List Value := [.int .i64 e.id, .slice e.x e.n e.c]
def flatF (es : List Fc) : List Value := es.flatMap cF
theorem cF_len (e : Fc) : (cF e).length = 2 := rfl
theorem flatF_len : ∀ es : List Fc, (flatF es).length = es.length * 2
  | [] => rfl
  | e :: es => by
    have := flatF_len es
    unfold flatF at this ⊢
    rw [List.flatMap_cons, List.length_append, this, cF_len, List.length_cons]
    omega
theorem flatF_snoc (es : List Fc) (e : Fc) : flatF (es ++ [e]) = flatF es ++ cF e := by simp [flatF]
theorem flatF_app (es fs : List Fc) : flatF (es ++ fs) = flatF es ++ flatF fs := by simp [flatF]
theorem flatF_at : ∀ (es : List Fc) (i j : Nat), i < es.length → j < 2 → (flatF es)[i * 2 + j]? = (cF (fcAt es i))[j]?
  | [], i, j, hi, _ => by simp at hi
  | e :: es, 0, j, _, hj => by
    unfold flatF
    rw [List.flatMap_cons, List.getElem?_append_left (by rw [cF_len]; omega)]
    simp [fcAt]
  | e :: es, i + 1, j, hi, hj => by
    have := flatF_at es i j (by simpa using hi) hj
    unfold flatF at this ⊢
    rw [List.flatMap_cons, List.getElem?_append_right (by rw [cF_len]; omega), cF_len, show (i + 1) * 2 + j - 2 = i * 2 + j by omega, this]
    simp [fcAt]
theorem flatF_split {es : List Fc} {j : Nat} {u : Value} (h : (flatF es)[j]? = some u) : ∃ i q, j = i * 2 + q ∧ q < 2 ∧ i < es.length := by
  have hl : j < (flatF es).length := by
    by_cases h2 : j < (flatF es).length
    · exact h2
    · rw [List.getElem?_eq_none (by omega)] at h; cases h
  rw [flatF_len] at hl
  exact ⟨j / 2, j % 2, by omega, by omega, by omega⟩
theorem flatF_one (es : List Fc) : ∀ u ∈ flatF es, u.oneCell' = true := fun u hu => by
  obtain ⟨e, -, hu⟩ := List.mem_flatMap.1 hu
  simp only [cF, List.mem_cons, List.not_mem_nil, or_false] at hu
  rcases hu with rfl | rfl <;> rfl
/-- faces that lie in memory of the call's own. -/
def OwnF (w : World) (base : Nat) (v : Value) (es : List Fc) : Prop := w.ownsRow base 99 2 v es.length (flatF es)
theorem OwnF.later {w w' : World} {base : Nat} {v : Value} {es : List Fc} (h : OwnF w base v es) (hb : Below w.heap.size w w') : OwnF w' base v es := by
  refine World.ownsRow.kept h (grown_of_below hb) ?_
  cases hv : v.ownBlock
  · exact .inl rfl
  · exact .inr (by simp)
theorem OwnF.kept {w w' : World} {base g : Nat} {v : Value} {es : List Fc} (h : OwnF w base v es) (hg : w.grownBy w' (some g)) (hne : ∀ k, v.ownBlock = some k → k ≠ g) : OwnF w' base v es := by
  refine World.ownsRow.kept h hg ?_
  cases hv : v.ownBlock
  · exact .inl rfl
  · rename_i k
    exact .inr fun e => hne k hv (Option.some.inj e)
theorem OwnF.low {w : World} {base base' : Nat} {v : Value} {es : List Fc} (h : OwnF w base v es) (hb : base' ≤ base) : OwnF w base' v es := by
  refine ⟨h.1, ?_⟩
  rcases h.2 with h | ⟨g, cap, cur, h1, h2, h3⟩
  · exact .inl h
  · exact .inr ⟨g, cap, cur, h1, Nat.le_trans hb h2, h3⟩
theorem OwnF.lt {w : World} {base : Nat} {v : Value} {es : List Fc} (h : OwnF w base v es) : ∀ k, v.ownBlock = some k → base ≤ k ∧ k < w.heap.size := World.ownsRow.lt h
theorem OwnF.ne {w : World} {base b : Nat} {v : Value} {es : List Fc} {cs : Array Value} {t : TypeId} {fr : Nat × Nat} (h : OwnF w base v es) (hb : w.heap[b]? = some (.cells cs t fr)) (ht : t ≠ 99) : v.ownBlock ≠ some b := by
  rcases h.2 with ⟨rfl, -⟩ | ⟨g, cap, cur, rfl, -, h2, -⟩
  · simp [Value.ownBlock]
  · intro e
    simp only [Value.ownBlock, Option.some.injEq] at e
    rw [e, hb] at h2
    simp only [Option.some.injEq, Obj.cells.injEq] at h2
    exact ht h2.2.1
theorem info_F : (Tryz.prog.info? 99).map (fun i => (i.zero, i.size, i.bytes)) = some (some (.agg #[.int .i64 0, .slice none 0 0]), 2, 32) := by kernel_rfl
theorem info_F' : ∃ i, Tryz.prog.info? 99 = some i ∧ i.zero = some (.agg #[.int .i64 0, .slice none 0 0]) ∧ i.size = 2 ∧ i.bytes = 32 := by
  obtain ⟨i, hi, h⟩ := Option.map_eq_some_iff.1 info_F
  simp only [Prod.mk.injEq] at h
  exact ⟨i, hi, h.1, h.2.1, h.2.2⟩
theorem under_F : Tryz.prog.underlying 88 = some (.slice 99) := by kernel_rfl
theorem FcS.flat_cells {w : World} {ad : Addr} {n : Nat} {es : List Fc} (h : FcS w (some ad) n es) : ∀ j u, (flatF es)[j]? = some u → w.cell? (ad.add j) = some u := by
  intro j u hj
  obtain ⟨i, q, rfl, hq, hi⟩ := flatF_split hj
  rw [flatF_at es i q hi hq] at hj
  obtain ⟨b, o, hx, d0, d1⟩ := h.cells i (by rw [← h.len]; exact hi)
  simp only [Option.some.injEq] at hx
  subst hx
  rw [addr_add, ← Nat.add_assoc]
  rcases q with _ | _ | q
  case succ.succ => omega
  all_goals simp only [cF, List.getElem?_cons_zero, List.getElem?_cons_succ, Option.some.injEq] at hj
  all_goals rw [← hj]
  all_goals assumption
/-- append of a whole slice to a row of the call's own. -/
theorem wpList_append_F {w : World} {ops : Array Oper} {rest : List Oper} {o : Oper} {a : Act} {Q : Exit → Act → World → Prop} (hgd : o.guard = none) (s x : Operand)
    (ho : o.op = .call { callee := .builtin .append, args := #[s, x], argTypes := #[88, 88] }) (base : Nat) (v : Value) (es : List Fc) (hs : a.eval s = v) (hO : OwnF w base v es)
    (ad : Addr) (m c : Nat) (fs : List Fc) (hx : a.eval x = .slice (some ad) m c) (hm : fs.length = m) (hy : ∀ j u, (flatF fs)[j]? = some u → w.cell? (ad.add j) = some u)
    (hlen : es.length + m ≤ 1000000000) (hbase : base ≤ w.heap.size)
    (h : ∀ v' w', OwnF w' base v' (es ++ fs) → w.grownBy w' v.ownBlock → wpList Tryz.prog ops Q rest (a.put o.dst v') w') : wpList Tryz.prog ops Q (o :: rest) a w := by
  obtain ⟨i0, hi, hz0, hz1, hz2⟩ := info_F'
  subst hm
  refine wpList_append_own w hgd s x 88 ho base 99 i0 _ 2 32 under_F hi hz0 hz1 hz2 rfl (by decide) v es.length (flatF es) hs hO ad fs.length c (flatF fs) hx (flatF_len fs) hy (flatF_one fs) (by unfold maxLen; omega) (by omega) hbase ?_
  intro v' w' h1 h2 _
  refine h v' w' ?_ h2
  unfold OwnF
  rw [flatF_app, List.length_append]
  exact h1
theorem OwnF.mem {w : World} {base : Nat} {v : Value} {es : List Fc} (h : OwnF w base v es) : ∃ x c, v = .slice x es.length c ∧ es.length ≤ c ∧ c ≤ 9223372036854775807 ∧ (x = none → es.length = 0 ∧ c = 0) ∧ ∀ i, i < es.length → ∃ b o, x = some ⟨b, o, none⟩ ∧ w.cell? ⟨b, o + i * 2, none⟩ = some (.int .i64 (fcAt es i).id) ∧ w.cell? ⟨b, o + i * 2 + 1, none⟩ = some (.slice (fcAt es i).x (fcAt es i).n (fcAt es i).c) := by
  rcases h.2 with ⟨rfl, h0⟩ | ⟨g, cap, cur, rfl, -, -, h4, h5, -⟩
  · exact ⟨none, 0, by rw [h0], by omega, by omega, fun _ => ⟨h0, rfl⟩, fun i hi => by omega⟩
  · refine ⟨some ⟨g, 0, none⟩, cap, rfl, h4, by unfold maxLen at h5; omega, fun e => by simp at e, fun i hi => ⟨g, 0, rfl, ?_⟩⟩
    have e : ∀ j, j < 2 → ∀ u, (cF (fcAt es i))[j]? = some u → w.cell? ⟨g, 0 + i * 2 + j, none⟩ = some u := fun j hj u hu => by
      have := World.ownsRow.cells h (g := g) rfl (i * 2 + j) u ((flatF_at es i j hi hj).trans hu)
      rw [Addr.add_lit] at this
      rw [Nat.add_assoc]
      exact this
    exact ⟨e 0 (by omega) _ rfl, e 1 (by omega) _ rfl⟩
end Go.Proofs.YtlalgkjollgcbaaGreat
