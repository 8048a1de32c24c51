/- What a book that came in is. -/
import Derived.Test.YtpdoonkhnabfjaaI
import Derived.Test.YtpdoonkhnabfjaaQn
import Derived.Deep.Slices
namespace Go.Proofs.Ytpdoonkhnabfjaa
open Go.ChangeShapes Go.WideShapes Go.ChangeAt Go.RowKit Go.Joins

theorem bulk_one {H : Type} (d : DataW H) : 1 ≤ Rows.uptoBulk d := by
  cases d with
  | lit l => cases l <;> simp [Rows.uptoBulk]
  | nil => simp [Rows.uptoBulk]
  | ptr d => simp [Rows.uptoBulk]
  | slice es sp => simp [Rows.uptoBulk]
  | agg ps => simp [Rows.uptoBulk]
  | iface t d => simp [Rows.uptoBulk]
  | map es => simp [Rows.uptoBulk]
  | held h => simp [Rows.uptoBulk]
theorem bulk_part {H : Type} {d : DataW H} {l : List (DataW H)} (h : d ∈ l) : Rows.uptoBulk d ≤ Rows.uptoBulkAll l := by
  induction l with
  | nil => cases h
  | cons x r ih =>
    rw [Rows.uptoBulkAll]
    rcases List.mem_cons.1 h with rfl | e
    · omega
    · have := ih e; omega
theorem bulk_len {H : Type} (l : List (DataW H)) : l.length ≤ Rows.uptoBulkAll l := by
  induction l with
  | nil => exact Nat.zero_le _
  | cons x r ih => have := bulk_one x; rw [Rows.uptoBulkAll, List.length_cons]; omega
theorem cellsL : Try.prog.cellsOf 49 = 5 := by kernel_rfl
theorem cellsPo : Try.prog.cellsOf 45 = 9 := by kernel_rfl
theorem cellsR : Try.prog.cellsOf 42 = 4 := by kernel_rfl
theorem cellsLs : Try.prog.cellsOf 43 = 1 := by kernel_rfl
theorem cellsPs : Try.prog.cellsOf 22 = 1 := by kernel_rfl
theorem cellsB : Try.prog.cellsOf 24 = 2 := by kernel_rfl
section
variable {H : Type} {enc : TypeId × Value → H} {w : World}
theorem int_of {n : Nat} {v : Value} {y : Option (DataW H × List MemPlace)} (hy : y.isSome = true) (h : DataW.trod enc Try.prog w 0 (fun _ => true) true n 3 [v] = y) : ∃ a : Int, v = .int .i64 a := by
  obtain ⟨y, rfl⟩ := Option.isSome_iff_exists.1 hy
  obtain ⟨a, e, -⟩ := DataW.trod_int Try.underlying3 h
  simp at e
  exact ⟨a, e⟩
theorem some_at {α : Type} {xs : List α} {m i : Nat} (h : xs.length = m) (hi : i < m) : (xs[i]?).isSome = true := by
  rw [List.getElem?_eq_getElem (by omega)]
  rfl
set_option maxRecDepth 20000 in
theorem trod_lease {n : Nat} {cs : List Value} {x : DataW H × List MemPlace} (hl : cs.length = 5) (h : DataW.trod enc Try.prog w 0 (fun _ => true) true n 49 cs = some x) : ∃ e : Le, cs = cL e := by
  obtain ⟨xs, k, -, -, -, hxl, hf⟩ := DataW.trod_struct Try.underlying49 h
  match cs, hl with
  | [v0, v1, v2, v3, v4], _ =>
    have g0 := hf 0 _ rfl
    have g1 := hf 1 _ rfl
    have g2 := hf 2 _ rfl
    have g3 := hf 3 _ rfl
    have y : ∀ i, i < 4 → (xs[i]?).isSome = true := fun i hi => some_at hxl hi
    simp [cells3, cellsP] at g0 g1 g2 g3
    obtain ⟨z0, h0⟩ := Option.isSome_iff_exists.1 (y 0 (by omega))
    rw [h0] at g0
    obtain ⟨a2, rfl⟩ := int_of (y 1 (by omega)) g1
    obtain ⟨a3, rfl⟩ := int_of (y 2 (by omega)) g2
    obtain ⟨a4, rfl⟩ := int_of (y 3 (by omega)) g3
    obtain ⟨us, k4, -, -, -, hul, hu⟩ := DataW.trod_struct Try.underlying34 g0
    have p0 := hu 0 _ rfl
    have p1 := hu 1 _ rfl
    simp [cells3] at p0 p1
    obtain ⟨a0, rfl⟩ := int_of (some_at hul (by decide)) p0
    obtain ⟨a1, rfl⟩ := int_of (some_at hul (by decide)) p1
    exact ⟨⟨a0, a1, a2, a3, a4⟩, rfl⟩
set_option maxRecDepth 20000 in
theorem trod_leases {n : Nat} {v : Value} {y : DataW H × List MemPlace} (h : DataW.trod enc Try.prog w 0 (fun _ => true) true n 43 [v] = some y) :
    ∃ (x : Option Addr) (k c : Nat) (ls : List Le), v = .slice x k c ∧ LS w x k ls ∧ k ≤ c ∧ k ≤ Rows.uptoBulk y.1 := by
  rcases Deep.open_slice Try.underlying43 h with ⟨h0, -⟩ | ⟨a, len, cap, m, k, D, Pl, h1, -, hl, hm, hmm, hx, hcell⟩
  · simp at h0
    exact ⟨none, 0, 0, [], h0, ⟨rfl, fun i hi => by cases hi⟩, by omega, by omega⟩
  · simp at h1
    subst h1
    simp at hmm
    have hmm' := hmm.symm
    subst hmm'
    clear hmm
    have hd : y.1 = .slice ((List.range len).map D) ((List.range (cap - len)).map fun j => D (len + j)) := by rw [hx]
    have hbk : len ≤ Rows.uptoBulk y.1 := by
      rw [hd, Rows.uptoBulk]
      have := bulk_len ((List.range len).map D)
      rw [List.length_map, List.length_range] at this
      omega
    have each : ∀ i, i < cap → ∃ q : Le, ∀ j, j < 5 → w.cell? (a.add (i * 5 + j)) = (cL q)[j]? := fun i hi => by
      obtain ⟨cs', e1, e2⟩ := hcell i hi
      rw [cellsL] at e1
      obtain ⟨-, hlen, hc⟩ := World.cells?_some e1
      obtain ⟨q, rfl⟩ := trod_lease hlen e2
      exact ⟨q, fun j hj => by
        have := hc j hj
        rw [Deep.add_add] at this
        exact this⟩
    have : Inhabited Le := ⟨leZ⟩
    obtain ⟨Q, hQ⟩ := Deep.choose_lt each
    by_cases hn0 : len = 0
    · subst hn0
      exact ⟨some a, 0, cap, [], rfl, ⟨rfl, fun i hi => by cases hi⟩, by omega, by omega⟩
    · have hsp : a.spot = none := by
        have h0 := hQ 0 (by omega) 0 (by omega)
        have h1 : w.cell? (a.add (0 * 5 + 0)) = some (.int .i64 (Q 0).a) := h0
        have := World.cell?_spot h1
        simpa [Addr.add] using this
      obtain ⟨b, o, sp⟩ := a
      simp only at hsp
      subst hsp
      refine ⟨some ⟨b, o, none⟩, len, cap, (List.range len).map Q, rfl, ⟨by simp, fun i hi => ⟨b, o, rfl, ?_⟩⟩, hl, hbk⟩
      have hat : leAt ((List.range len).map Q) i = Q i := by unfold leAt; rw [List.getD_eq_getElem?_getD, List.getElem?_map, List.getElem?_range hi]; rfl
      rw [hat]
      have e : ∀ j, j < 5 → ∀ u, (cL (Q i))[j]? = some u → w.cell? ⟨b, o + i * 5 + j, none⟩ = some u := fun j hj u hu => by
        have := hQ i (by omega) j hj
        rw [addr_add, hu, ← Nat.add_assoc] at this
        exact this
      exact ⟨e 0 (by omega) _ rfl, e 1 (by omega) _ rfl, e 2 (by omega) _ rfl, e 3 (by omega) _ rfl, e 4 (by omega) _ rfl⟩
set_option maxRecDepth 20000 in
theorem trod_pool {n : Nat} {cs : List Value} {x : DataW H × List MemPlace} (hl : cs.length = 9) (h : DataW.trod enc Try.prog w 0 (fun _ => true) true n 45 cs = some x) : ∃ p : Po, cs = cP p ∧ LS w p.x p.n p.ls ∧ p.n ≤ p.c ∧ p.n ≤ Rows.uptoBulk x.1 := by
  obtain ⟨xs, k, -, hxx, -, hxl, hf⟩ := DataW.trod_struct Try.underlying45 h
  match cs, hl with
  | [v0, v1, v2, v3, v4, v5, v6, v7, v8], _ =>
    have g0 := hf 0 _ rfl
    have g1 := hf 1 _ rfl
    have g2 := hf 2 _ rfl
    have g3 := hf 3 _ rfl
    have g4 := hf 4 _ rfl
    have y : ∀ i, i < 5 → (xs[i]?).isSome = true := fun i hi => some_at hxl hi
    simp [cells3, cellsP, cellsR, cellsLs] at g0 g1 g2 g3 g4
    obtain ⟨a0, rfl⟩ := int_of (y 0 (by omega)) g0
    obtain ⟨a1, rfl⟩ := int_of (y 1 (by omega)) g1
    obtain ⟨z2, h2⟩ := Option.isSome_iff_exists.1 (y 2 (by omega))
    obtain ⟨z3, h3⟩ := Option.isSome_iff_exists.1 (y 3 (by omega))
    obtain ⟨z4, h4⟩ := Option.isSome_iff_exists.1 (y 4 (by omega))
    rw [h2] at g2
    rw [h3] at g3
    rw [h4] at g4
    obtain ⟨us, k4, -, -, -, hul, hu⟩ := DataW.trod_struct Try.underlying34 g2
    obtain ⟨ts, k5, -, -, -, htl, ht⟩ := DataW.trod_struct Try.underlying42 g3
    have p0 := hu 0 _ rfl
    have p1 := hu 1 _ rfl
    have r0 := ht 0 _ rfl
    have r1 := ht 1 _ rfl
    have r2 := ht 2 _ rfl
    have r3 := ht 3 _ rfl
    simp [cells3] at p0 p1 r0 r1 r2 r3
    obtain ⟨a4, rfl⟩ := int_of (some_at hul (by decide)) p0
    obtain ⟨a5, rfl⟩ := int_of (some_at hul (by decide)) p1
    obtain ⟨a6, rfl⟩ := int_of (some_at htl (by decide)) r0
    obtain ⟨a7, rfl⟩ := int_of (some_at htl (by decide)) r1
    obtain ⟨a8, rfl⟩ := int_of (some_at htl (by decide)) r2
    obtain ⟨a9, rfl⟩ := int_of (some_at htl (by decide)) r3
    obtain ⟨lx, ln, lc, ls, rfl, hLS, hlc, hlb⟩ := trod_leases g4
    refine ⟨⟨a0, a1, a4, a5, a6, a7, a8, a9, lx, ln, lc, ls⟩, rfl, hLS, hlc, ?_⟩
    have hm : z4.1 ∈ xs.map (·.1) := List.mem_map.2 ⟨z4, List.mem_of_getElem? h4, rfl⟩
    have hb := bulk_part hm
    have hx1 : x.1 = .agg (xs.map (·.1)) := by rw [hxx]
    rw [hx1, Rows.uptoBulk]
    show ln ≤ _
    omega
end
set_option maxRecDepth 100000 in
theorem open_book {H : Type} {enc : TypeId × Value → H} {w : World} {r : Reach} {b0 : Nat} {v : Value} {d : DataW H} {p : List MemPlace}
    (hv : Value.okWide Try.prog w r b0 24 v) (h : DataW.Trod enc Try.prog w 0 (fun _ => true) true 24 v d p) (hbulk : Rows.uptoBulk d ≤ 1048576) :
    ∃ (t : Int) (x : Option Addr) (n c : Nat) (ps : List Po), v = .agg #[.int .i64 t, .slice x n c] ∧ Bk w x n c ps ∧ n ≤ 1048576 := by
  obtain ⟨c0, c1, y0, y1, m0, rfl, hd, -, hy0, hy1⟩ := open_agg2 Try.underlying24 (by kernel_rfl) cellsB hv h
  obtain ⟨t, et, -, -⟩ := DataW.trod_int Try.underlying3 hy0
  simp at et
  subst et
  have hby : Rows.uptoBulk y1.1 ≤ 1048576 := by
    rw [hd, Rows.uptoBulk, Rows.uptoBulkAll, Rows.uptoBulkAll] at hbulk
    omega
  rcases Deep.open_slice Try.underlying22 hy1 with ⟨h0, -⟩ | ⟨a, len, cap, m, k, D, Pl, h1, -, hl, hm, hmm, hx, hcell⟩
  · simp at h0
    subst h0
    exact ⟨t, none, 0, 0, [], rfl, Bk.nil w, by omega⟩
  · simp at h1
    subst h1
    simp at hmm
    have hmm' := hmm.symm
    subst hmm'
    clear hmm
    have hdy : y1.1 = .slice ((List.range len).map D) ((List.range (cap - len)).map fun j => D (len + j)) := by rw [hx]
    rw [hdy, Rows.uptoBulk] at hby
    have hbl := bulk_len ((List.range len).map D)
    rw [List.length_map, List.length_range] at hbl
    have hDb : ∀ i, i < len → Rows.uptoBulk (D i) ≤ 1048576 := fun i hi => by
      have := bulk_part (d := D i) (l := (List.range len).map D) (List.mem_map.2 ⟨i, List.mem_range.2 hi, rfl⟩)
      omega
    have each : ∀ i, i < cap → ∃ q : Po, (∀ j, j < 9 → w.cell? (a.add (i * 9 + j)) = (cP q)[j]?) ∧ LS w q.x q.n q.ls ∧ q.n ≤ q.c ∧ q.n ≤ Rows.uptoBulk (D i) := fun i hi => by
      obtain ⟨cs', e1, e2⟩ := hcell i hi
      rw [cellsPo] at e1
      obtain ⟨-, hlen, hc⟩ := World.cells?_some e1
      obtain ⟨q, rfl, hq⟩ := trod_pool hlen e2
      exact ⟨q, fun j hj => by
        have := hc j hj
        rw [Deep.add_add] at this
        exact this, hq⟩
    have : Inhabited Po := ⟨poZ⟩
    obtain ⟨Q, hQ⟩ := Deep.choose_lt each
    have hmax : cap ≤ 9223372036854775807 := by unfold maxLen at hm; omega
    by_cases hn0 : len = 0
    · subst hn0
      exact ⟨t, some a, 0, cap, [], rfl, ⟨⟨rfl, fun i hi => by omega, fun i hi => by omega⟩, by omega, hmax⟩, by omega⟩
    · have hsp : a.spot = none := by
        have h0 := (hQ 0 (by omega)).1 0 (by omega)
        have h1 : w.cell? (a.add (0 * 9 + 0)) = some (.int .i64 (Q 0).id) := h0
        have := World.cell?_spot h1
        simpa [Addr.add] using this
      obtain ⟨b, o, sp⟩ := a
      simp only at hsp
      subst hsp
      have hat : ∀ i, i < len → poAt ((List.range len).map Q) i = Q i := fun i hi => by unfold poAt; rw [List.getD_eq_getElem?_getD, List.getElem?_map, List.getElem?_range hi]; rfl
      refine ⟨t, some ⟨b, o, none⟩, len, cap, (List.range len).map Q, rfl, ⟨⟨by simp, fun i hi => ⟨b, o, rfl, ?_⟩, fun i hi => ?_⟩, hl, hmax⟩, by omega⟩
      · rw [hat i hi]
        have e : ∀ j, j < 9 → ∀ u, (cP (Q i))[j]? = some u → w.cell? ⟨b, o + i * 9 + j, none⟩ = some u := fun j hj u hu => by
          have := (hQ i (by omega)).1 j hj
          rw [addr_add, hu, ← Nat.add_assoc] at this
          exact this
        exact ⟨e 0 (by omega) _ rfl, e 1 (by omega) _ rfl, e 2 (by omega) _ rfl, e 3 (by omega) _ rfl, e 4 (by omega) _ rfl, e 5 (by omega) _ rfl, e 6 (by omega) _ rfl, e 7 (by omega) _ rfl, e 8 (by omega) _ rfl⟩
      · rw [hat i hi]
        obtain ⟨-, q1, q2, q3⟩ := hQ i (by omega)
        exact ⟨q2, Nat.le_trans q3 (hDb i hi), q1⟩
end Go.Proofs.Ytpdoonkhnabfjaa
