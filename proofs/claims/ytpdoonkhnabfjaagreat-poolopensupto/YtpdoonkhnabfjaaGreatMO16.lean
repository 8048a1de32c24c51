/- What a book that came in is. -/
import Derived.Test.YtpdoonkhnabfjaaGreatMO08
import Derived.Test.YtpdoonkhnabfjaaGreatMO15
import Derived.Deep.Slices
import Derived.StillTail
namespace Go.Proofs.YtpdoonkhnabfjaaGreat
open Go.ChangeShapes Go.WideShapes Go.ChangeAt Go.RowKit Go.Joins

theorem bulk_one {H : Type} (d : DataW H) : 1 ≤ Rows.uptoBulk d := by
  cases d with
  | lit l => cases l <;> simp [Rows.uptoBulk]
  | nil => simp [Rows.uptoBulk]
  | ptr d => simp [Rows.uptoBulk]
  | slice es sp => simp [Rows.uptoBulk]
  | agg ps => simp [Rows.uptoBulk]
  | iface t d => simp [Rows.uptoBulk]
  | map es => simp [Rows.uptoBulk]
  | held h => simp [Rows.uptoBulk]
theorem bulk_part {H : Type} {d : DataW H} {l : List (DataW H)} (h : d ∈ l) : Rows.uptoBulk d ≤ Rows.uptoBulkAll l := by
  induction l with
  | nil => cases h
  | cons x r ih =>
    rw [Rows.uptoBulkAll]
    rcases List.mem_cons.1 h with rfl | e
    · omega
    · have := ih e; omega
theorem bulk_len {H : Type} (l : List (DataW H)) : l.length ≤ Rows.uptoBulkAll l := by
  induction l with
  | nil => exact Nat.zero_le _
  | cons x r ih => have := bulk_one x; rw [Rows.uptoBulkAll, List.length_cons]; omega
theorem cellsL : Tryz.prog.cellsOf 55 = 5 := by kernel_rfl
theorem cellsPo : Tryz.prog.cellsOf 49 = 9 := by kernel_rfl
theorem cellsR : Tryz.prog.cellsOf 28 = 4 := by kernel_rfl
theorem cellsLs : Tryz.prog.cellsOf 47 = 1 := by kernel_rfl
theorem cellsPs : Tryz.prog.cellsOf 22 = 1 := by kernel_rfl
theorem cellsB : Tryz.prog.cellsOf 24 = 2 := by kernel_rfl
section
variable {H : Type} {enc : TypeId × Value → H} {w : World}
theorem int_of {n : Nat} {v : Value} {y : Option (DataW H × List MemPlace)} (hy : y.isSome = true) (h : DataW.trod enc Tryz.prog w 0 (fun _ => true) true n 3 [v] = y) : ∃ a : Int, v = .int .i64 a := by
  obtain ⟨y, rfl⟩ := Option.isSome_iff_exists.1 hy
  obtain ⟨a, e, -⟩ := DataW.trod_int Tryz.underlying3 h
  simp at e
  exact ⟨a, e⟩
theorem some_at {α : Type} {xs : List α} {m i : Nat} (h : xs.length = m) (hi : i < m) : (xs[i]?).isSome = true := by
  rw [List.getElem?_eq_getElem (by omega)]
  rfl
set_option maxRecDepth 20000 in
theorem trod_lease {n : Nat} {cs : List Value} {x : DataW H × List MemPlace} (hl : cs.length = 5) (h : DataW.trod enc Tryz.prog w 0 (fun _ => true) true n 55 cs = some x) : ∃ e : Le, cs = cL e := by
  obtain ⟨xs, k, -, -, -, hxl, hf⟩ := DataW.trod_struct Tryz.underlying55 h
  match cs, hl with
  | [v0, v1, v2, v3, v4], _ =>
    have g0 := hf 0 _ rfl
    have g1 := hf 1 _ rfl
    have g2 := hf 2 _ rfl
    have g3 := hf 3 _ rfl
    have y : ∀ i, i < 4 → (xs[i]?).isSome = true := fun i hi => some_at hxl hi
    simp [cells3, cellsP] at g0 g1 g2 g3
    obtain ⟨z0, h0⟩ := Option.isSome_iff_exists.1 (y 0 (by omega))
    rw [h0] at g0
    obtain ⟨a2, rfl⟩ := int_of (y 1 (by omega)) g1
    obtain ⟨a3, rfl⟩ := int_of (y 2 (by omega)) g2
    obtain ⟨a4, rfl⟩ := int_of (y 3 (by omega)) g3
    obtain ⟨us, k4, -, -, -, hul, hu⟩ := DataW.trod_struct Tryz.underlying26 g0
    have p0 := hu 0 _ rfl
    have p1 := hu 1 _ rfl
    simp [cells3] at p0 p1
    obtain ⟨a0, rfl⟩ := int_of (some_at hul (by decide)) p0
    obtain ⟨a1, rfl⟩ := int_of (some_at hul (by decide)) p1
    exact ⟨⟨a0, a1, a2, a3, a4⟩, rfl⟩
set_option maxRecDepth 20000 in
theorem trod_leases {n : Nat} {v : Value} {y : DataW H × List MemPlace} (h : DataW.trod enc Tryz.prog w 0 (fun _ => true) true n 47 [v] = some y) :
    ∃ (x : Option Addr) (k c : Nat) (ls : List Le), v = .slice x k c ∧ LS w x k ls ∧ k ≤ c ∧ k ≤ Rows.uptoBulk y.1 := by
  rcases Deep.open_slice Tryz.underlying47 h with ⟨h0, -⟩ | ⟨a, len, cap, m, k, D, Pl, h1, -, hl, hm, hmm, hx, hcell⟩
  · simp at h0
    exact ⟨none, 0, 0, [], h0, ⟨rfl, fun i hi => by cases hi⟩, by omega, by omega⟩
  · simp at h1
    subst h1
    simp at hmm
    have hmm' := hmm.symm
    subst hmm'
    clear hmm
    have hd : y.1 = .slice ((List.range len).map D) ((List.range (cap - len)).map fun j => D (len + j)) := by rw [hx]
    have hbk : len ≤ Rows.uptoBulk y.1 := by
      rw [hd, Rows.uptoBulk]
      have := bulk_len ((List.range len).map D)
      rw [List.length_map, List.length_range] at this
      omega
    have each : ∀ i, i < cap → ∃ q : Le, ∀ j, j < 5 → w.cell? (a.add (i * 5 + j)) = (cL q)[j]? := fun i hi => by
      obtain ⟨cs', e1, e2⟩ := hcell i hi
      rw [cellsL] at e1
      obtain ⟨-, hlen, hc⟩ := World.cells?_some e1
      obtain ⟨q, rfl⟩ := trod_lease hlen e2
      exact ⟨q, fun j hj => by
        have := hc j hj
        rw [Deep.add_add] at this
        exact this⟩
    have : Inhabited Le := ⟨leZ⟩
    obtain ⟨Q, hQ⟩ := Deep.choose_lt each
    by_cases hn0 : len = 0
    · subst hn0
      exact ⟨some a, 0, cap, [], rfl, ⟨rfl, fun i hi => by cases hi⟩, by omega, by omega⟩
    · have hsp : a.spot = none := by
        have h0 := hQ 0 (by omega) 0 (by omega)
        have h1 : w.cell? (a.add (0 * 5 + 0)) = some (.int .i64 (Q 0).a) := h0
        have := World.cell?_spot h1
        simpa [Addr.add] using this
      obtain ⟨b, o, sp⟩ := a
      simp only at hsp
      subst hsp
      refine ⟨some ⟨b, o, none⟩, len, cap, (List.range len).map Q, rfl, ⟨by simp, fun i hi => ⟨b, o, rfl, ?_⟩⟩, hl, hbk⟩
      have hat : leAt ((List.range len).map Q) i = Q i := by unfold leAt; rw [List.getD_eq_getElem?_getD, List.getElem?_map, List.getElem?_range hi]; rfl
      rw [hat]
      have e : ∀ j, j < 5 → ∀ u, (cL (Q i))[j]? = some u → w.cell? ⟨b, o + i * 5 + j, none⟩ = some u := fun j hj u hu => by
        have := hQ i (by omega) j hj
        rw [addr_add, hu, ← Nat.add_assoc] at this
        exact this
      exact ⟨e 0 (by omega) _ rfl, e 1 (by omega) _ rfl, e 2 (by omega) _ rfl, e 3 (by omega) _ rfl, e 4 (by omega) _ rfl⟩
set_option maxRecDepth 20000 in
theorem trod_pool {n : Nat} {cs : List Value} {x : DataW H × List MemPlace} (hl : cs.length = 9) (h : DataW.trod enc Tryz.prog w 0 (fun _ => true) true n 49 cs = some x) : ∃ p : Po, cs = cP p ∧ LS w p.x p.n p.ls ∧ p.n ≤ p.c ∧ p.n ≤ Rows.uptoBulk x.1 := by
  obtain ⟨xs, k, -, hxx, -, hxl, hf⟩ := DataW.trod_struct Tryz.underlying49 h
  match cs, hl with
  | [v0, v1, v2, v3, v4, v5, v6, v7, v8], _ =>
    have g0 := hf 0 _ rfl
    have g1 := hf 1 _ rfl
    have g2 := hf 2 _ rfl
    have g3 := hf 3 _ rfl
    have g4 := hf 4 _ rfl
    have y : ∀ i, i < 5 → (xs[i]?).isSome = true := fun i hi => some_at hxl hi
    simp [cells3, cellsP, cellsR, cellsLs] at g0 g1 g2 g3 g4
    obtain ⟨a0, rfl⟩ := int_of (y 0 (by omega)) g0
    obtain ⟨a1, rfl⟩ := int_of (y 1 (by omega)) g1
    obtain ⟨z2, h2⟩ := Option.isSome_iff_exists.1 (y 2 (by omega))
    obtain ⟨z3, h3⟩ := Option.isSome_iff_exists.1 (y 3 (by omega))
    obtain ⟨z4, h4⟩ := Option.isSome_iff_exists.1 (y 4 (by omega))
    rw [h2] at g2
    rw [h3] at g3
    rw [h4] at g4
    obtain ⟨us, k4, -, -, -, hul, hu⟩ := DataW.trod_struct Tryz.underlying26 g2
    obtain ⟨ts, k5, -, -, -, htl, ht⟩ := DataW.trod_struct Tryz.underlying28 g3
    have p0 := hu 0 _ rfl
    have p1 := hu 1 _ rfl
    have r0 := ht 0 _ rfl
    have r1 := ht 1 _ rfl
    have r2 := ht 2 _ rfl
    have r3 := ht 3 _ rfl
    simp [cells3] at p0 p1 r0 r1 r2 r3
    obtain ⟨a4, rfl⟩ := int_of (some_at hul (by decide)) p0
    obtain ⟨a5, rfl⟩ := int_of (some_at hul (by decide)) p1
    obtain ⟨a6, rfl⟩ := int_of (some_at htl (by decide)) r0
    obtain ⟨a7, rfl⟩ := int_of (some_at htl (by decide)) r1
    obtain ⟨a8, rfl⟩ := int_of (some_at htl (by decide)) r2
    obtain ⟨a9, rfl⟩ := int_of (some_at htl (by decide)) r3
    obtain ⟨lx, ln, lc, ls, rfl, hLS, hlc, hlb⟩ := trod_leases g4
    refine ⟨⟨a0, a1, a4, a5, a6, a7, a8, a9, lx, ln, lc, ls⟩, rfl, hLS, hlc, ?_⟩
    have hm : z4.1 ∈ xs.map (·.1) := List.mem_map.2 ⟨z4, List.mem_of_getElem? h4, rfl⟩
    have hb := bulk_part hm
    have hx1 : x.1 = .agg (xs.map (·.1)) := by rw [hxx]
    rw [hx1, Rows.uptoBulk]
    show ln ≤ _
    omega
end
set_option maxRecDepth 100000 in
theorem open_book {H : Type} {enc : TypeId × Value → H} {w : World} {r : Reach} {b0 : Nat} {v : Value} {d : DataW H} {p : List MemPlace}
    (hv : Value.okWide Tryz.prog w r b0 24 v) (h : DataW.Trod enc Tryz.prog w 0 (fun _ => true) true 24 v d p) (hbulk : Rows.uptoBulk d ≤ 1048576) :
    ∃ (t : Int) (x : Option Addr) (n c : Nat) (ps : List Po), v = .agg #[.int .i64 t, .slice x n c] ∧ Bk w x n c ps ∧ n ≤ 1048576 := by
  obtain ⟨c0, c1, y0, y1, m0, rfl, hd, -, hy0, hy1⟩ := open_agg2 Tryz.underlying24 (by kernel_rfl) cellsB hv h
  obtain ⟨t, et, -, -⟩ := DataW.trod_int Tryz.underlying3 hy0
  simp at et
  subst et
  have hby : Rows.uptoBulk y1.1 ≤ 1048576 := by
    rw [hd, Rows.uptoBulk, Rows.uptoBulkAll, Rows.uptoBulkAll] at hbulk
    omega
  rcases Deep.open_slice Tryz.underlying22 hy1 with ⟨h0, -⟩ | ⟨a, len, cap, m, k, D, Pl, h1, -, hl, hm, hmm, hx, hcell⟩
  · simp at h0
    subst h0
    exact ⟨t, none, 0, 0, [], rfl, Bk.nil w, by omega⟩
  · simp at h1
    subst h1
    simp at hmm
    have hmm' := hmm.symm
    subst hmm'
    clear hmm
    have hdy : y1.1 = .slice ((List.range len).map D) ((List.range (cap - len)).map fun j => D (len + j)) := by rw [hx]
    rw [hdy, Rows.uptoBulk] at hby
    have hbl := bulk_len ((List.range len).map D)
    rw [List.length_map, List.length_range] at hbl
    have hDb : ∀ i, i < len → Rows.uptoBulk (D i) ≤ 1048576 := fun i hi => by
      have := bulk_part (d := D i) (l := (List.range len).map D) (List.mem_map.2 ⟨i, List.mem_range.2 hi, rfl⟩)
      omega
    have each : ∀ i, i < cap → ∃ q : Po, (∀ j, j < 9 → w.cell? (a.add (i * 9 + j)) = (cP q)[j]?) ∧ LS w q.x q.n q.ls ∧ q.n ≤ q.c ∧ q.n ≤ Rows.uptoBulk (D i) := fun i hi => by
      obtain ⟨cs', e1, e2⟩ := hcell i hi
      rw [cellsPo] at e1
      obtain ⟨-, hlen, hc⟩ := World.cells?_some e1
      obtain ⟨q, rfl, hq⟩ := trod_pool hlen e2
      exact ⟨q, fun j hj => by
        have := hc j hj
        rw [Deep.add_add] at this
        exact this, hq⟩
    have : Inhabited Po := ⟨poZ⟩
    obtain ⟨Q, hQ⟩ := Deep.choose_lt each
    have hmax : cap ≤ 9223372036854775807 := by unfold maxLen at hm; omega
    by_cases hn0 : len = 0
    · subst hn0
      exact ⟨t, some a, 0, cap, [], rfl, ⟨⟨rfl, fun i hi => by omega, fun i hi => by omega⟩, by omega, hmax⟩, by omega⟩
    · have hsp : a.spot = none := by
        have h0 := (hQ 0 (by omega)).1 0 (by omega)
        have h1 : w.cell? (a.add (0 * 9 + 0)) = some (.int .i64 (Q 0).id) := h0
        have := World.cell?_spot h1
        simpa [Addr.add] using this
      obtain ⟨b, o, sp⟩ := a
      simp only at hsp
      subst hsp
      have hat : ∀ i, i < len → poAt ((List.range len).map Q) i = Q i := fun i hi => by unfold poAt; rw [List.getD_eq_getElem?_getD, List.getElem?_map, List.getElem?_range hi]; rfl
      refine ⟨t, some ⟨b, o, none⟩, len, cap, (List.range len).map Q, rfl, ⟨⟨by simp, fun i hi => ⟨b, o, rfl, ?_⟩, fun i hi => ?_⟩, hl, hmax⟩, by omega⟩
      · rw [hat i hi]
        have e : ∀ j, j < 9 → ∀ u, (cP (Q i))[j]? = some u → w.cell? ⟨b, o + i * 9 + j, none⟩ = some u := fun j hj u hu => by
          have := (hQ i (by omega)).1 j hj
          rw [addr_add, hu, ← Nat.add_assoc] at this
          exact this
        exact ⟨e 0 (by omega) _ rfl, e 1 (by omega) _ rfl, e 2 (by omega) _ rfl, e 3 (by omega) _ rfl, e 4 (by omega) _ rfl, e 5 (by omega) _ rfl, e 6 (by omega) _ rfl, e 7 (by omega) _ rfl, e 8 (by omega) _ rfl⟩
      · rw [hat i hi]
        obtain ⟨-, q1, q2, q3⟩ := hQ i (by omega)
        exact ⟨q2, Nat.le_trans q3 (hDb i hi), q1⟩
end Go.Proofs.YtpdoonkhnabfjaaGreat
/- What keeps a book right; and what comes of cooling. -/
namespace Go.Proofs.YtpdoonkhnabfjaaGreat
open Go.RowKit Go.Shelf

theorem all_same {n : Nat} {f g : Nat → Bool} (h : ∀ i, i < n → f i = g i) : (List.range n).all f = (List.range n).all g := by
  rw [Bool.eq_iff_iff, List.all_eq_true, List.all_eq_true]
  exact ⟨fun k i hi => by rw [← h i (List.mem_range.1 hi)]; exact k i hi, fun k i hi => by rw [h i (List.mem_range.1 hi)]; exact k i hi⟩
theorem any_same {n : Nat} {f g : Nat → Bool} (h : ∀ i, i < n → f i = g i) : anyAt n f = anyAt n g := by
  unfold anyAt
  rw [Bool.eq_iff_iff, List.any_eq_true, List.any_eq_true]
  exact ⟨fun ⟨i, hi, k⟩ => ⟨i, hi, by rw [← h i (List.mem_range.1 hi)]; exact k⟩, fun ⟨i, hi, k⟩ => ⟨i, hi, by rw [h i (List.mem_range.1 hi)]; exact k⟩⟩
/-- The same but for the leases. -/
def sameH (p q : Po) : Prop := p.id = q.id ∧ p.up = q.up ∧ p.a = q.a ∧ p.l = q.l ∧ p.mn = q.mn ∧ p.mx = q.mx ∧ p.us = q.us ∧ p.co = q.co
def sameHs (ps qs : List Po) : Prop := ps.length = qs.length ∧ ∀ i, i < ps.length → sameH (poAt ps i) (poAt qs i)
theorem sameP.head {p q : Po} (h : sameP p q) : sameH p q := ⟨h.1, h.2.1, h.2.2.1, h.2.2.2.1, h.2.2.2.2.1, h.2.2.2.2.2.1, h.2.2.2.2.2.2.1, h.2.2.2.2.2.2.2.1⟩
theorem sameH.trans {p q r : Po} (h : sameH p q) (g : sameH q r) : sameH p r :=
  ⟨h.1.trans g.1, h.2.1.trans g.2.1, h.2.2.1.trans g.2.2.1, h.2.2.2.1.trans g.2.2.2.1, h.2.2.2.2.1.trans g.2.2.2.2.1, h.2.2.2.2.2.1.trans g.2.2.2.2.2.1, h.2.2.2.2.2.2.1.trans g.2.2.2.2.2.2.1, h.2.2.2.2.2.2.2.trans g.2.2.2.2.2.2.2⟩
theorem sameH.withL {p q : Po} (h : sameH p q) (x : Option Addr) (n c : Nat) (ls : List Le) : sameH p (withL q x n c ls) := h
theorem atId_head {ps qs : List Po} (h : sameHs ps qs) (id : Int) : atId qs id = atId ps id := by
  by_cases h1 : atId ps id < 0
  · have h2 := atId_none h1
    rw [atId_no (ps := ps) h2, atId_no]
    intro j hj
    rw [← h.1] at hj
    rw [← (h.2 j hj).1]
    exact h2 j hj
  · obtain ⟨i, hi, hat, -⟩ := atId_range h1
    obtain ⟨-, h3, h4⟩ := atId_first hat
    rw [hat]
    refine atId_yes (by rw [← h.1]; exact hi) (by rw [← (h.2 i hi).1]; exact h3) (fun j hj => ?_)
    rw [← (h.2 j (by omega)).1]
    exact h4 j hj
theorem ids_head {ps qs : List Po} (h : sameHs ps qs) : idsB qs.length qs = idsB ps.length ps := by
  unfold idsB risePoB
  rw [← h.1]
  congr 1
  · refine all_same fun i hi => ?_
    unfold risePoAt
    rw [(h.2 i hi).1, (h.2 (i - 1) (by omega)).1]
  · congr 1
    refine any_same fun i hi => ?_
    rw [(h.2 i hi).1]
theorem tops_head {ps qs : List Po} (h : sameHs ps qs) : topsB qs = topsB ps := by
  unfold topsB
  rw [← h.1]
  refine all_same fun i hi => ?_
  obtain ⟨-, h2, h3, h4, -⟩ := h.2 i hi
  unfold topsAt
  rw [h2, h3, h4]
  congr 2
  refine any_same fun j hj => ?_
  obtain ⟨-, g2, g3, g4, -⟩ := h.2 j (by omega)
  unfold topB
  rw [g2, g3, g4]
theorem leB_head {ps qs : List Po} (h : sameHs ps qs) (t id : Int) (e : Le) : leB t qs id e = leB t ps id e := by
  unfold leB
  rw [atId_head h]
  by_cases h1 : e.kd = 1
  · rw [if_pos h1, if_pos h1]
  · rw [if_neg h1, if_neg h1]
    by_cases h2 : e.kd = 2
    · rw [if_pos h2, if_pos h2]
      by_cases h3 : atId ps e.ow < 0
      · rw [if_pos h3, if_pos h3]
      · rw [if_neg h3, if_neg h3]
        obtain ⟨i, hi, hat, -⟩ := atId_range h3
        rw [hat]
        obtain ⟨-, g2, g3, g4, -⟩ := h.2 i hi
        unfold le2
        rw [Int.toNat_natCast, g2, g3, g4]
    · rw [if_neg h2, if_neg h2]
theorem leAt_mem {ls : List Le} {i : Nat} (hi : i < ls.length) : leAt ls i ∈ ls := by
  unfold leAt
  rw [List.getD_eq_getElem?_getD, List.getElem?_eq_getElem hi]
  exact List.getElem_mem hi
theorem mem_leAt {ls : List Le} {e : Le} (h : e ∈ ls) : ∃ i, i < ls.length ∧ leAt ls i = e := by
  obtain ⟨i, hi, rfl⟩ := List.mem_iff_getElem.1 h
  exact ⟨i, hi, by unfold leAt; rw [List.getD_eq_getElem?_getD, List.getElem?_eq_getElem hi]; rfl⟩
theorem for_mem {ls : List Le} {id : Int} {n : Nat} (hn : ls.length = n) : anyAt n (forB ls id) = true ↔ ∃ e ∈ ls, e.kd = 2 ∧ e.ow = id := by
  constructor
  · intro h
    obtain ⟨i, hi, hf, -⟩ := least_at h
    unfold forB at hf
    simp only [Bool.and_eq_true, beq_iff_eq] at hf
    exact ⟨_, leAt_mem (by omega), hf⟩
  · rintro ⟨e, he, h1, h2⟩
    obtain ⟨i, hi, rfl⟩ := mem_leAt he
    refine any_yes (k := i) (by rw [← hn]; exact hi) ?_
    unfold forB
    rw [h1, h2]
    simp
/-- Each pool's number of leases is what its slice says. -/
def Full (ps : List Po) : Prop := ∀ i, i < ps.length → (poAt ps i).ls.length = (poAt ps i).n
theorem up_keeps {ps qs : List Po} (h : sameHs ps qs) (hp : Full ps) (hq : Full qs) (h2 : ∀ k, k < ps.length → ∀ e ∈ (poAt ps k).ls, e.kd = 2 → e ∈ (poAt qs k).ls) (f : Nat) :
    ∀ p q : Po, sameH p q → upB ps f p = true → upB qs f q = true := by
  induction f with
  | zero => intro p q _ h1; cases h1
  | succ f ih =>
    intro p q hpq h1
    obtain ⟨e1, e2, -⟩ := hpq
    unfold upB at h1 ⊢
    rw [← e1, ← e2]
    by_cases c1 : p.up = 0
    · rw [if_pos c1]
    · rw [if_neg c1] at h1 ⊢
      rw [atId_head h]
      by_cases c2 : atId ps p.up < 0
      · rw [if_pos c2] at h1; cases h1
      · rw [if_neg c2] at h1 ⊢
        obtain ⟨i, hi, hat, -⟩ := atId_range c2
        rw [hat] at h1 ⊢
        rw [Int.toNat_natCast] at h1 ⊢
        by_cases c3 : anyAt (poAt ps i).n (forB (poAt ps i).ls p.id) = true
        · rw [if_pos c3] at h1
          obtain ⟨e, he, k1, k2⟩ := (for_mem (hp i hi)).1 c3
          rw [if_pos ((for_mem (hq i (by rw [← h.1]; exact hi))).2 ⟨e, h2 i hi e he k1, k1, k2⟩)]
          exact ih _ _ (h.2 i hi) h1
        · rw [if_neg c3] at h1; cases h1
theorem les_mem {t : Int} {ps : List Po} {p : Po} (hn : p.ls.length = p.n) : lesB t ps p = true ↔ ∀ e ∈ p.ls, leB t ps p.id e = true := by
  unfold lesB
  rw [List.all_eq_true]
  constructor
  · intro h e he
    obtain ⟨i, hi, rfl⟩ := mem_leAt he
    exact h i (List.mem_range.2 (by omega))
  · intro h i hi
    exact h _ (leAt_mem (by have := List.mem_range.1 hi; omega))
/-- A book stays right: its pools are the same but for their leases; these are apart, and right. -/
theorem chk_keeps {t T : Int} {ps qs : List Po} (hc : chkB t ps = 0) (hT0 : 0 ≤ T) (hT1 : T ≤ 1073741824) (h : sameHs ps qs) (hp : Full ps) (hq : Full qs) (hn : ∀ k, k < ps.length → (poAt qs k).n ≤ 32) (hU : ∀ k, k < ps.length → Used (lp (poAt qs k).ls) (poAt ps k).a (poAt ps k).l)
    (h2 : ∀ k, k < ps.length → ∀ e ∈ (poAt ps k).ls, e.kd = 2 → e ∈ (poAt qs k).ls) (hL : ∀ k, k < ps.length → ∀ e ∈ (poAt qs k).ls, leB T ps (poAt ps k).id e = true) : chkB T qs = 0 := by
  obtain ⟨h8, -, hi, ht, hpo⟩ := chk_ok hc
  refine chk_yes (by rw [← h.1]; exact h8) ?_
  have hw : wth T 0 1073741824 = true := by unfold wth; simp [hT0, hT1]
  rw [hw, ids_head h, hi, tops_head h, ht]
  simp only [Bool.true_and]
  refine pools_yes fun j hj => ?_
  have hj2 : j < ps.length := by rw [h.1]; exact hj
  obtain ⟨p1, p2, p3, p4⟩ := pool_ok (hpo j hj2)
  obtain ⟨e1, e2, e3, e4, e5, e6, e7, e8⟩ := h.2 j hj2
  obtain ⟨-, hrt, -⟩ := chkS_ok p1
  unfold poolB
  have k1 : chkS (poAt qs j).a (poAt qs j).l (poAt qs j).n (lp (poAt qs j).ls) = 0 := by
    unfold chkS
    rw [if_neg (by have := hn j hj2; omega), ← e3, ← e4, hrt, apart_of (hU j hj2)]
    rfl
  have k3 : upB qs qs.length (poAt qs j) = true := by
    rw [← h.1]
    exact up_keeps h hp hq h2 _ _ _ (h.2 j hj2) p3
  have k4 : lesB T qs (poAt qs j) = true := (les_mem (hq j hj)).2 fun e he => by
    rw [leB_head h, ← e1]
    exact hL j hj2 e he
  rw [k1, k3, k4, ← e4, ← e5, ← e6, ← e7, ← e8, p2]
  rfl
theorem used_filter {ls : List Le} {a l : Int} {f : Le → Bool} (h : Used (lp ls) a l) : Used (lp (ls.filter f)) a l := by
  unfold lp at h ⊢
  refine ⟨fun u hu => ?_, ?_⟩
  · obtain ⟨e, he, rfl⟩ := List.mem_map.1 hu
    exact h.inn _ (List.mem_map.2 ⟨e, (List.mem_filter.1 he).1, rfl⟩)
  · have := h.rise
    rw [List.pairwise_map] at this ⊢
    exact this.filter f
theorem used_mem {t : Int} {ps : List Po} (hc : chkB t ps = 0) (i : Nat) (hi : i < ps.length) : Used (lp (poAt ps i).ls) (poAt ps i).a (poAt ps i).l := by
  obtain ⟨-, -, -, -, hp⟩ := chk_ok hc
  exact used_of (chkS_ok (pool_ok (hp i hi)).1).2.2
/-- What Pass leaves is right. -/
theorem pass_right {t m : Int} {ps qs rs : List Po} (hc : chkB t ps = 0) (hf : Full ps) (hm : 1 ≤ m) (hm1 : t + m ≤ 1073741824) (hs : sameB ps qs) (hp : PassTo (t + m) qs qs.length rs) :
    chkB (t + m) rs = 0 ∧ sameHs ps rs ∧ Full rs ∧ ∀ k, k < ps.length → (poAt rs k).ls = passL (t + m) (poAt ps k).ls := by
  have hl : ∀ k, k < ps.length → k < qs.length := fun k hk => by rw [← hs.1]; exact hk
  have hls : ∀ k, k < ps.length → (poAt rs k).ls = passL (t + m) (poAt ps k).ls ∧ (poAt rs k).n = (passL (t + m) (poAt ps k).ls).length ∧ sameH (poAt ps k) (poAt rs k) := fun k hk => by
    obtain ⟨x, c, e⟩ := (hp.2 k (hl k hk)).1 (hl k hk)
    rw [e, (hs.2 k hk).2.2.2.2.2.2.2.2.2]
    exact ⟨rfl, rfl, (hs.2 k hk).head⟩
  have hH : sameHs ps rs := ⟨hs.1.trans hp.1.symm, fun k hk => (hls k hk).2.2⟩
  have hF : Full rs := fun k hk => by
    have hk2 : k < ps.length := by rw [hH.1]; exact hk
    rw [(hls k hk2).1, (hls k hk2).2.1]
  obtain ⟨-, ⟨ht0, ht1⟩, -, -, hpo⟩ := chk_ok hc
  refine ⟨chk_keeps hc (by omega) hm1 hH hf hF (fun k hk => ?_) (fun k hk => ?_) (fun k hk e he h2 => ?_) (fun k hk e he => ?_), hH, hF, fun k hk => (hls k hk).1⟩
  · rw [(hls k hk).2.1]
    have h1 := (chk_pool hc k hk).1
    have h2 := List.length_filter_le (fun e => !cooled (t + m) e) (poAt ps k).ls
    have h3 := hf k hk
    unfold passL
    omega
  · rw [(hls k hk).1]
    exact used_filter (used_mem hc k hk)
  · rw [(hls k hk).1]
    refine List.mem_filter.2 ⟨he, ?_⟩
    unfold cooled
    rw [h2]
    rfl
  · rw [(hls k hk).1] at he
    obtain ⟨he1, he2⟩ := List.mem_filter.1 he
    have h4 := (les_mem (hf k hk)).1 (pool_ok (hpo k hk)).2.2.2 e he1
    unfold leB at h4 ⊢
    by_cases c1 : e.kd = 1
    · rw [if_pos c1] at h4 ⊢; exact h4
    · rw [if_neg c1] at h4 ⊢
      by_cases c2 : e.kd = 2
      · rw [if_pos c2] at h4 ⊢; exact h4
      · rw [if_neg c2] at h4 ⊢
        by_cases c3 : e.kd = 3
        · rw [if_pos c3] at h4 ⊢
          unfold cooled at he2
          rw [c3] at he2
          simp only [Bool.and_eq_true, decide_eq_true_eq, beq_self_eq_true, Bool.true_and, Bool.not_eq_true', decide_eq_false_iff_not] at h4 he2 ⊢
          exact ⟨h4.1, by omega, by omega⟩
        · rw [if_neg c3] at h4; cases h4
end Go.Proofs.YtpdoonkhnabfjaaGreat
/- The mathematics of PoolCools. -/
namespace Go.Proofs.YtpdoonkhnabfjaaGreat
open Go.RowKit Go.Shelf

theorem give_ok {t : Int} {ps : List Po} {id a l : Int} (h : giveE t ps id a l = 0) : chkB t ps = 0 ∧ ∃ i j : Nat, i < ps.length ∧ atId ps id = i ∧ j < (poAt ps i).n ∧ firstAt (poAt ps i).n (useB (poAt ps i).ls a l) = j ∧ (leAt (poAt ps i).ls j).kd = 1 ∧ (leAt (poAt ps i).ls j).a = a ∧ (leAt (poAt ps i).ls j).l = l := by
  unfold giveE at h
  by_cases h1 : chkB t ps = 0
  · refine ⟨h1, ?_⟩
    rw [if_neg (by simp [h1])] at h
    by_cases h2 : atId ps id < 0
    · rw [if_pos h2] at h; cases h
    · rw [if_neg h2] at h
      obtain ⟨i, hi, hat, -⟩ := atId_range h2
      rw [hat, Int.toNat_natCast] at h
      by_cases h3 : firstAt (poAt ps i).n (useB (poAt ps i).ls a l) < 0
      · rw [if_pos h3] at h; cases h
      · obtain ⟨j, hj, hf, hu⟩ := firstAt_range h3
        unfold useB at hu
        simp only [Bool.and_eq_true, beq_iff_eq, decide_eq_true_eq] at hu
        exact ⟨i, j, hi, hat, hj, hf, hu.1, hu.2.1, hu.2.2⟩
  · rw [if_pos h1] at h; exact absurd h h1
theorem give_like {ps rs : List Po} {i j : Nat} {t : Int} (h : CoolAt ps i j t rs) (hf : Full ps) (hi : i < ps.length) : sameHs ps rs ∧ Full rs ∧ (poAt rs i).ls = coolL (poAt ps i) j t := by
  obtain ⟨qs, x', c', hs, rfl⟩ := h
  have hi2 : i < qs.length := by rw [← hs.1]; exact hi
  have hat : ∀ k, poAt (qs.set i (withL (poAt qs i) x' (coolL (poAt ps i) j t).length c' (coolL (poAt ps i) j t))) k = if i = k then withL (poAt qs i) x' (coolL (poAt ps i) j t).length c' (coolL (poAt ps i) j t) else poAt qs k := fun k => poAt_set hi2
  refine ⟨⟨by rw [List.length_set]; exact hs.1, fun k hk => ?_⟩, fun k hk => ?_, ?_⟩
  · rw [hat]
    by_cases e : i = k
    · rw [if_pos e]
      subst e
      exact (hs.2 i hi).head
    · rw [if_neg e]
      exact (hs.2 k hk).head
  · rw [List.length_set] at hk
    rw [hat]
    by_cases e : i = k
    · rw [if_pos e]; rfl
    · rw [if_neg e]
      have hk2 : k < ps.length := by rw [hs.1]; exact hk
      have h1 := (hs.2 k hk2).2.2.2.2.2.2.2.2
      rw [← h1.1, ← h1.2]
      exact hf k hk2
  · rw [hat, if_pos rfl]
    rfl
/-- What fits in a right pool: free, and nothing that is free lies ahead of it. -/
theorem fit_free {t : Int} {ps : List Po} {i : Nat} {z : Int} (hc : chkB t ps = 0) (hi : i < ps.length) (h : pfitE (poAt ps i) z = 0) :
    ∃ x, pfitO (poAt ps i) z = (x, z) ∧ okFit (lp (poAt ps i).ls) (poAt ps i).a (poAt ps i).l z x ∧ ∀ y, okFit (lp (poAt ps i).ls) (poAt ps i).a (poAt ps i).l z y → x ≤ y := by
  obtain ⟨-, -, -, -, hp⟩ := chk_ok hc
  obtain ⟨h1, h2, -, -⟩ := pool_ok (hp i hi)
  obtain ⟨r1, r2, r3, r4, -, -⟩ := rule_ok h2
  obtain ⟨-, hrt, -⟩ := chkS_ok h1
  unfold pfitE at h
  unfold pfitO
  by_cases hz : z < (poAt ps i).mn ∨ (poAt ps i).mx < z
  · rw [if_pos hz] at h; cases h
  · rw [if_neg hz] at h ⊢
    cases hq : pfitS (poAt ps i) z with
    | none => rw [hq] at h; cases h
    | some y =>
      refine ⟨y, rfl, ?_⟩
      unfold pfitS at hq
      by_cases hn : (poAt ps i).n = 32
      · rw [if_pos hn] at hq; cases hq
      · rw [if_neg hn] at hq
        unfold fitS at hq
        have hE : fitE (poAt ps i).a (poAt ps i).l (poAt ps i).n (lp (poAt ps i).ls) z = 0 := by
          unfold fitE
          rw [if_pos h1, if_neg (by omega)]
        rw [if_pos hE] at hq
        have hF := fit_hol (z := z) (hol_are (lp (poAt ps i).ls) (16 - (poAt ps i).l).toNat (poAt ps i).a (poAt ps i).l hrt (by omega)) (by omega)
        rw [hq] at hF
        exact hF
/-- What is free can be had. -/
theorem free_fit {t : Int} {ps : List Po} {i : Nat} {z y : Int} (hc : chkB t ps = 0) (hi : i < ps.length) (hn : (poAt ps i).n ≠ 32) (hz1 : (poAt ps i).mn ≤ z) (hz2 : z ≤ (poAt ps i).mx) (hy : okFit (lp (poAt ps i).ls) (poAt ps i).a (poAt ps i).l z y) : pfitE (poAt ps i) z = 0 := by
  obtain ⟨-, -, -, -, hp⟩ := chk_ok hc
  obtain ⟨h1, h2, -, -⟩ := pool_ok (hp i hi)
  obtain ⟨r1, r2, r3, r4, -, -⟩ := rule_ok h2
  obtain ⟨-, hrt, -⟩ := chkS_ok h1
  unfold pfitE
  rw [if_neg (by omega)]
  cases hq : pfitS (poAt ps i) z with
  | some y => rfl
  | none =>
    unfold pfitS at hq
    rw [if_neg hn] at hq
    unfold fitS at hq
    have hE : fitE (poAt ps i).a (poAt ps i).l (poAt ps i).n (lp (poAt ps i).ls) z = 0 := by
      unfold fitE
      rw [if_pos h1, if_neg (by omega)]
    rw [if_pos hE] at hq
    have hF := fit_hol (z := z) (hol_are (lp (poAt ps i).ls) (16 - (poAt ps i).l).toNat (poAt ps i).a (poAt ps i).l hrt (by omega)) (by omega)
    rw [hq] at hF
    exact absurd hy (hF y)
theorem take0 {t : Int} {ps : List Po} {id z ow : Int} (h : takeE t ps id z ow = 0) : chkB t ps = 0 ∧ ¬ atId ps id < 0 ∧ wth ow 1 65536 = true ∧ pfitE (poAt ps (atId ps id).toNat) (sizeZ (poAt ps (atId ps id).toNat) z) = 0 := by
  unfold takeE at h
  by_cases h1 : chkB t ps = 0
  · rw [if_neg (by simp [h1])] at h
    by_cases h2 : atId ps id < 0
    · rw [if_pos h2] at h; cases h
    · rw [if_neg h2] at h
      by_cases h3 : wth ow 1 65536 = false
      · rw [if_pos h3] at h; cases h
      · rw [if_neg h3] at h
        exact ⟨h1, h2, by simpa using h3, h⟩
  · rw [if_pos h1] at h; exact absurd h h1
theorem mtsAny_mem {a l : Int} {ls : List Le} (h : mtsAny a l (lp ls) = false) {e : Le} (he : e ∈ ls) : mts a l e.a e.l = false := by
  cases hm : mts a l e.a e.l with
  | false => rfl
  | true =>
    have hmem : (e.a, e.l) ∈ lp ls := List.mem_map.2 ⟨e, he, rfl⟩
    have := mtsAny_iff.2 ⟨_, hmem, hm⟩
    rw [this] at h; cases h
theorem mtsAny_none {a l : Int} {ls : List Le} (h : ∀ e ∈ ls, mts a l e.a e.l = false) : mtsAny a l (lp ls) = false := by
  cases hm : mtsAny a l (lp ls) with
  | false => rfl
  | true =>
    obtain ⟨u, hu, h1⟩ := mtsAny_iff.1 hm
    obtain ⟨e, he, rfl⟩ := List.mem_map.1 hu
    rw [h e he] at h1
    cases h1
theorem leAt_eq {ls : List Le} {i : Nat} (hi : i < ls.length) : leAt ls i = ls[i] := by
  unfold leAt
  rw [List.getD_eq_getElem?_getD, List.getElem?_eq_getElem hi]
  rfl
/-- The others of a right pool's leases do not meet that one. -/
theorem others_apart {ls : List Le} {a l : Int} {j : Nat} (h : Used (lp ls) a l) (hj : j < ls.length) : ∀ e ∈ ls.take j ++ ls.drop (j + 1), mts (leAt ls j).a (leAt ls j).l e.a e.l = false := by
  intro e he
  have hr := h.rise
  unfold lp at hr
  rw [List.pairwise_map, List.pairwise_iff_getElem] at hr
  cases hm : mts (leAt ls j).a (leAt ls j).l e.a e.l with
  | false => rfl
  | true =>
    obtain ⟨-, -, m1, m2⟩ := mts_nums hm
    rw [leAt_eq hj] at m1 m2
    rcases List.mem_append.1 he with h1 | h1
    · obtain ⟨k, hk, rfl⟩ := List.mem_iff_getElem.1 h1
      rw [List.length_take] at hk
      have := hr k j (by omega) hj (by omega)
      simp only at this
      rw [List.getElem_take] at m1 m2
      omega
    · obtain ⟨k, hk, rfl⟩ := List.mem_iff_getElem.1 h1
      rw [List.length_drop] at hk
      have := hr j (j + 1 + k) hj (by omega) (by omega)
      simp only at this
      rw [List.getElem_drop] at m1 m2
      omega
theorem cool_filter {p : Po} {j : Nat} {t T : Int} (hj : j < p.ls.length) (hT : t + p.co ≤ T) : passL T (coolL p j t) = passL T (p.ls.take j ++ p.ls.drop (j + 1)) := by
  unfold coolL
  by_cases h : p.co = 0
  · rw [if_pos h]
  · rw [if_neg h, List.set_eq_take_append_cons_drop, if_pos hj]
    unfold passL
    rw [List.filter_append, List.filter_append, List.filter_cons]
    have : cooled T ⟨(leAt p.ls j).a, (leAt p.ls j).l, 3, 0, t + p.co⟩ = true := by
      unfold cooled
      simp [hT]
    rw [this]
    rfl
/-- Before it has cooled, what came back meets nothing that is taken. -/
theorem cool_apart {t m : Int} {ps rs us : List Po} {id a l z ow : Int} {i j : Nat} (hi : i < ps.length) (hat : atId ps id = i) (hj : j < (poAt ps i).n) (ha : (leAt (poAt ps i).ls j).a = a) (hl : (leAt (poAt ps i).ls j).l = l) (hf : Full ps)
    (hcool : CoolAt ps i j t rs) (hm : 1 ≤ m) (hm2 : m < (poAt ps i).co) (hH : sameHs rs us) (hls : (poAt us i).ls = passL (t + m) (poAt rs i).ls) (hE : takeE (t + m) us id z ow = 0) :
    mts a l (pfitO (poAt us (atId us id).toNat) (sizeZ (poAt us (atId us id).toNat) z)).1 (pfitO (poAt us (atId us id).toNat) (sizeZ (poAt us (atId us id).toNat) z)).2 = false := by
  obtain ⟨g1, g2, g3⟩ := give_like hcool hf hi
  have hau : atId us id = i := (atId_head hH id).trans ((atId_head g1 id).trans hat)
  obtain ⟨k1, -, -, k4⟩ := take0 hE
  rw [hau, Int.toNat_natCast] at k4 ⊢
  have hiu : i < us.length := by rw [← hH.1, ← g1.1]; exact hi
  obtain ⟨x, e1, e2, -⟩ := fit_free k1 hiu k4
  rw [e1]
  have hjl : j < (poAt ps i).ls.length := by rw [hf i hi]; exact hj
  have hmem : (⟨a, l, 3, 0, t + (poAt ps i).co⟩ : Le) ∈ (poAt us i).ls := by
    rw [hls, g3]
    refine List.mem_filter.2 ⟨?_, ?_⟩
    · unfold coolL
      rw [if_neg (by omega), ha, hl]
      exact List.mem_set hjl _
    · unfold cooled
      simp
      omega
  rw [mts_comm]
  exact mtsAny_mem e2.2 hmem
/-- When it has cooled, it can be had again. -/
theorem cool_again {t m : Int} {ps rs us : List Po} {id a l : Int} {i j : Nat} (hc : chkB t ps = 0) (hi : i < ps.length) (hat : atId ps id = i) (hj : j < (poAt ps i).n) (ha : (leAt (poAt ps i).ls j).a = a) (hl : (leAt (poAt ps i).ls j).l = l) (hf : Full ps)
    (hcool : CoolAt ps i j t rs) (hm2 : (poAt ps i).co ≤ m) (hmn : (poAt ps i).mn ≤ l) (hmx : l ≤ (poAt ps i).mx) (hcu : chkB (t + m) us = 0) (hH : sameHs rs us) (hfu : Full us) (hls : (poAt us i).ls = passL (t + m) (poAt rs i).ls) :
    takeE (t + m) us id l 1 = 0 ∧ (pfitO (poAt us (atId us id).toNat) (sizeZ (poAt us (atId us id).toNat) l)).1 ≤ a := by
  obtain ⟨g1, g2, g3⟩ := give_like hcool hf hi
  have hau : atId us id = i := (atId_head hH id).trans ((atId_head g1 id).trans hat)
  have hiu : i < us.length := by rw [← hH.1, ← g1.1]; exact hi
  have hsh := (g1.2 i hi).trans (hH.2 i (by rw [← g1.1]; exact hi))
  obtain ⟨s1, s2, s3, s4, s5, s6, s7, s8⟩ := hsh
  have hjl : j < (poAt ps i).ls.length := by rw [hf i hi]; exact hj
  have hls2 : (poAt us i).ls = passL (t + m) ((poAt ps i).ls.take j ++ (poAt ps i).ls.drop (j + 1)) := by
    rw [hls, g3, cool_filter hjl (by omega)]
  have hU := used_mem hc i hi
  have hno : mtsAny a l (lp (poAt us i).ls) = false := mtsAny_none fun e he => by
    rw [hls2] at he
    have := others_apart hU hjl e (List.mem_filter.1 he).1
    rw [ha, hl] at this
    exact this
  have hin : ins a l (poAt us i).a (poAt us i).l = true := by
    have := hU.inn _ (List.mem_map.2 ⟨_, leAt_mem hjl, rfl⟩)
    rw [← s3, ← s4, ← ha, ← hl]
    exact this
  have hn : (poAt us i).n ≠ 32 := by
    rw [← hfu i hiu, hls2]
    have h1 := List.length_filter_le (fun e => !cooled (t + m) e) ((poAt ps i).ls.take j ++ (poAt ps i).ls.drop (j + 1))
    have h2 := (chk_pool hc i hi).1
    have h3 := hf i hi
    rw [List.length_append, List.length_take, List.length_drop] at h1
    unfold passL
    omega
  obtain ⟨-, -, -, -, hp⟩ := chk_ok hcu
  obtain ⟨-, hru, -, -⟩ := pool_ok (hp i hiu)
  obtain ⟨r1, r2, r3, r4, -, -⟩ := rule_ok hru
  obtain ⟨ra, rb, n1, n2, n3⟩ := ins_nums hin
  have hl0 : 0 ≤ (poAt us i).l := by
    exact (rt_range rb).1
  obtain ⟨zz, hzz⟩ : ∃ zz, zz = sizeZ (poAt us i) l := ⟨_, rfl⟩
  have hz1 : (poAt us i).mn ≤ zz ∧ zz ≤ (poAt us i).mx ∧ l ≤ zz := by
    rw [hzz]
    unfold sizeZ
    by_cases h0 : l = 0
    · rw [if_pos h0]; omega
    · rw [if_neg h0]; omega
  have hok : okFit (lp (poAt us i).ls) (poAt us i).a (poAt us i).l zz a := by
    have hpart := ins_part ra hz1.2.2 (by omega)
    exact ⟨ins_trans hpart hin, free_in hpart hno⟩
  have hE := free_fit hcu hiu hn hz1.1 hz1.2.1 hok
  obtain ⟨x, e1, e2, e3⟩ := fit_free hcu hiu hE
  refine ⟨?_, ?_⟩
  · unfold takeE
    rw [if_neg (by simp [hcu]), hau, if_neg (by omega), if_neg (by decide), Int.toNat_natCast, ← hzz]
    exact hE
  · rw [hau, Int.toNat_natCast, ← hzz, e1]
    exact e3 a hok
end Go.Proofs.YtpdoonkhnabfjaaGreat
/- What PoolCools comes to: it answers true. -/
namespace Go.Proofs.YtpdoonkhnabfjaaGreat
open Go.RowKit Go.Shelf

theorem pass_ok {t : Int} {ps : List Po} {m : Int} (h : passE t ps m = 0) : chkB t ps = 0 ∧ 1 ≤ m ∧ t + m ≤ 1073741824 := by
  unfold passE at h
  by_cases h1 : chkB t ps = 0
  · rw [if_neg (by simp [h1])] at h
    by_cases h2 : m < 1 ∨ 1073741824 - t < m
    · rw [if_pos h2] at h; cases h
    · exact ⟨h1, by omega, by omega⟩
  · rw [if_pos h1] at h; exact absurd h h1
theorem Bk.full {w : World} {x : Option Addr} {n c : Nat} {ps : List Po} (h : Bk w x n c ps) : Full ps := fun i hi => (h.ps.leases i (by rw [← h.ps.len]; exact hi)).2.2.len
theorem OBk.full {w : World} {base : Nat} {v : Value} {ps : List Po} (h : OBk w base v ps ps.length) : Full ps := fun i hi => (h.own i hi).ls.2.1
/-- Whatever a book of the call's own is, its leases are few if each pool has at most 32, or it is what Pass or Give leaves. -/
theorem cool_len {p : Po} {j : Nat} {t : Int} (hj : j < p.ls.length) : (coolL p j t).length ≤ p.ls.length := by
  unfold coolL
  split
  · rw [List.length_append, List.length_take, List.length_drop]; omega
  · rw [List.length_set]; exact Nat.le_refl _

end Go.Proofs.YtpdoonkhnabfjaaGreat
/- The mathematics of PoolApart: in a right book no address is in two leases for users. -/
namespace Go.Proofs.YtpdoonkhnabfjaaGreat
open Go.RowKit Go.Shelf

/-- In how many leases for users of these an address is. -/
def useL (ls : List Le) (v : Int) : Nat := (ls.filter fun e => (e.kd == 1) && hld e.a e.l v).length
def useN (ps : List Po) (v : Int) : Nat := (ps.map fun p => useL p.ls v).sum
theorem hld_parts {a l v : Int} (h : hld a l v = true) : rt a l = true ∧ a ≤ v ∧ v < a + sp l := by
  unfold hld at h
  simp only [Bool.and_eq_true, decide_eq_true_eq] at h
  exact ⟨h.1.1, h.1.2, h.2⟩
theorem hld_of {a l v : Int} (h1 : rt a l = true) (h2 : a ≤ v) (h3 : v < a + sp l) : hld a l v = true := by
  unfold hld
  simp [h1, h2, h3]
theorem hld_ins {a l c m v : Int} (h : hld a l v = true) (hi : ins a l c m = true) : hld c m v = true := by
  obtain ⟨-, h1, h2⟩ := hld_parts h
  obtain ⟨-, r2, -, h3, h4⟩ := ins_nums hi
  exact hld_of r2 (by omega) (by omega)
/-- Two leases of a right pool that hold one address are one. -/
theorem one_lease {ls : List Le} {a l v : Int} {e f : Le} (h : Used (lp ls) a l) (he : e ∈ ls) (hf : f ∈ ls) (h1 : hld e.a e.l v = true) (h2 : hld f.a f.l v = true) : e = f := by
  have hr := h.rise
  unfold lp at hr
  rw [List.pairwise_map, List.pairwise_iff_getElem] at hr
  obtain ⟨-, a1, a2⟩ := hld_parts h1
  obtain ⟨-, b1, b2⟩ := hld_parts h2
  obtain ⟨i, hi, rfl⟩ := List.mem_iff_getElem.1 he
  obtain ⟨j, hj, rfl⟩ := List.mem_iff_getElem.1 hf
  rcases Nat.lt_trichotomy i j with c | c | c
  · have := hr i j hi hj c; simp only at this; omega
  · subst c; rfl
  · have := hr j i hj hi c; simp only at this; omega
/-- Of a right pool's leases at most one is a user's that holds the address. -/
theorem useL_one {ls : List Le} {a l v : Int} (h : Used (lp ls) a l) : useL ls v ≤ 1 := by
  have hr := h.rise
  unfold lp at hr
  rw [List.pairwise_map] at hr
  have hr2 := hr.filter (fun e => (e.kd == 1) && hld e.a e.l v)
  have hall : ∀ e ∈ ls.filter (fun e => (e.kd == 1) && hld e.a e.l v), hld e.a e.l v = true := fun e he => by
    have := (List.mem_filter.1 he).2
    simp only [Bool.and_eq_true] at this
    exact this.2
  show (ls.filter fun e => (e.kd == 1) && hld e.a e.l v).length ≤ 1
  match hq : ls.filter (fun e => (e.kd == 1) && hld e.a e.l v) with
  | [] => rw [hq]; exact Nat.zero_le _
  | [e] => rw [hq]; exact Nat.le_refl _
  | e :: f :: r =>
    rw [hq] at hr2 hall
    obtain ⟨-, a1, a2⟩ := hld_parts (hall e (by simp))
    obtain ⟨-, b1, b2⟩ := hld_parts (hall f (by simp))
    have := (List.pairwise_cons.1 hr2).1 f (by simp)
    simp only at this
    omega
theorem useL_some {ls : List Le} {v : Int} (h : useL ls v ≠ 0) : ∃ e ∈ ls, e.kd = 1 ∧ hld e.a e.l v = true := by
  unfold useL at h
  match hq : ls.filter (fun e => (e.kd == 1) && hld e.a e.l v) with
  | [] => rw [hq] at h; exact absurd rfl h
  | e :: r =>
    have he : e ∈ ls.filter (fun e => (e.kd == 1) && hld e.a e.l v) := by rw [hq]; simp
    obtain ⟨h1, h2⟩ := List.mem_filter.1 he
    simp only [Bool.and_eq_true, beq_iff_eq] at h2
    exact ⟨e, h1, h2⟩
/-- So many steps up there is a pool that is in no other one; each has its lease in the next. -/
def Dep (ps : List Po) : Nat → Nat → Prop
  | 0, q => q < ps.length ∧ (poAt ps q).up = 0
  | d + 1, q => q < ps.length ∧ (poAt ps q).up ≠ 0 ∧ ∃ r : Nat, atId ps (poAt ps q).up = r ∧ (∃ e ∈ (poAt ps r).ls, e.kd = 2 ∧ e.ow = (poAt ps q).id) ∧ Dep ps d r
theorem dep_of {ps : List Po} (hF : Full ps) (f : Nat) : ∀ q, q < ps.length → upB ps f (poAt ps q) = true → ∃ d, Dep ps d q := by
  induction f with
  | zero => intro q _ h; cases h
  | succ f ih =>
    intro q hq h
    unfold upB at h
    by_cases c1 : (poAt ps q).up = 0
    · exact ⟨0, hq, c1⟩
    · rw [if_neg c1] at h
      by_cases c2 : atId ps (poAt ps q).up < 0
      · rw [if_pos c2] at h; cases h
      · rw [if_neg c2] at h
        obtain ⟨r, hr, hat, -⟩ := atId_range c2
        rw [hat, Int.toNat_natCast] at h
        by_cases c3 : anyAt (poAt ps r).n (forB (poAt ps r).ls (poAt ps q).id) = true
        · rw [if_pos c3] at h
          obtain ⟨d, hd⟩ := ih r hr h
          exact ⟨d + 1, hq, c1, r, hat, (for_mem (hF r hr)).1 c3, hd⟩
        · rw [if_neg c3] at h; cases h
theorem Dep.lt {ps : List Po} : ∀ {d q : Nat}, Dep ps d q → q < ps.length
  | 0, _, h => h.1
  | _ + 1, _, h => h.1
theorem ids_lt {ps : List Po} (h : idsB ps.length ps = true) (i : Nat) : ∀ d, i + d + 1 < ps.length → (poAt ps i).id < (poAt ps (i + d + 1)).id := by
  unfold idsB risePoB at h
  simp only [Bool.and_eq_true] at h
  have hr := List.all_eq_true.1 h.1
  have one : ∀ k, k + 1 < ps.length → (poAt ps k).id < (poAt ps (k + 1)).id := fun k hk => by
    have := hr (k + 1) (List.mem_range.2 hk)
    unfold risePoAt at this
    simpa using this
  intro d
  induction d with
  | zero => intro hd; exact one i hd
  | succ d ih =>
    intro hd
    have h1 := ih (by omega)
    have h2 := one (i + d + 1) (by omega)
    rw [show i + (d + 1) + 1 = i + d + 1 + 1 by omega]
    omega
theorem ids_one {ps : List Po} (h : idsB ps.length ps = true) {i j : Nat} (hi : i < ps.length) (hj : j < ps.length) (e : (poAt ps i).id = (poAt ps j).id) : i = j := by
  rcases Nat.lt_trichotomy i j with c | c | c
  · have := ids_lt h i (j - i - 1) (by omega)
    rw [show i + (j - i - 1) + 1 = j by omega] at this
    omega
  · exact c
  · have := ids_lt h j (i - j - 1) (by omega)
    rw [show j + (i - j - 1) + 1 = i by omega] at this
    omega
/-- The lease for a pool is its root. -/
theorem lease_root {t : Int} {ps : List Po} (hc : chkB t ps = 0) (hF : Full ps) {q r : Nat} (hq : q < ps.length) (hr : r < ps.length) {e : Le} (he : e ∈ (poAt ps r).ls) (h2 : e.kd = 2) (how : e.ow = (poAt ps q).id) : e.a = (poAt ps q).a ∧ e.l = (poAt ps q).l := by
  obtain ⟨-, -, hids, -, hp⟩ := chk_ok hc
  have hL := (les_mem (hF r hr)).1 (pool_ok (hp r hr)).2.2.2 e he
  unfold leB at hL
  rw [if_neg (by omega), if_pos h2] at hL
  by_cases c : atId ps e.ow < 0
  · rw [if_pos c] at hL; cases hL
  · rw [if_neg c] at hL
    obtain ⟨s, hs, hat, hsid⟩ := atId_range c
    rw [hat, Int.toNat_natCast] at hL
    have hsq : s = q := ids_one hids hs hq (by rw [hsid, how])
    subst hsq
    unfold le2 at hL
    simp only [Bool.and_eq_true, decide_eq_true_eq] at hL
    exact ⟨hL.1.2.1.symm, hL.1.2.2.symm⟩
theorem lease_in {t : Int} {ps : List Po} (hc : chkB t ps = 0) {q : Nat} (hq : q < ps.length) {e : Le} (he : e ∈ (poAt ps q).ls) {v : Int} (h : hld e.a e.l v = true) : hld (poAt ps q).a (poAt ps q).l v = true :=
  hld_ins h ((used_mem hc q hq).inn _ (List.mem_map.2 ⟨e, he, rfl⟩))
theorem tops_one {t : Int} {ps : List Po} (hc : chkB t ps = 0) {q r : Nat} (hqr : q < r) (hr : r < ps.length) (h1 : (poAt ps q).up = 0) (h2 : (poAt ps r).up = 0) {v : Int} (g1 : hld (poAt ps q).a (poAt ps q).l v = true) (g2 : hld (poAt ps r).a (poAt ps r).l v = true) : False := by
  obtain ⟨-, -, -, ht, -⟩ := chk_ok hc
  unfold topsB at ht
  have := List.all_eq_true.1 ht r (List.mem_range.2 hr)
  obtain ⟨a1, a2, a3⟩ := hld_parts g1
  obtain ⟨b1, b2, b3⟩ := hld_parts g2
  have hm : mts (poAt ps q).a (poAt ps q).l (poAt ps r).a (poAt ps r).l = true := mts_of a1 b1 (by omega) (by omega)
  have hy : anyAt r (topB ps (poAt ps r).a (poAt ps r).l) = true := any_yes hqr (by unfold topB; rw [h1, hm]; rfl)
  unfold topsAt at this
  rw [h2, hy] at this
  cases this
/-- Of the pools at one depth at most one holds the address. -/
theorem level_one {t : Int} {ps : List Po} (hc : chkB t ps = 0) (hF : Full ps) {v : Int} (d : Nat) : ∀ q r, Dep ps d q → Dep ps d r → hld (poAt ps q).a (poAt ps q).l v = true → hld (poAt ps r).a (poAt ps r).l v = true → q = r := by
  obtain ⟨-, -, hids, -, -⟩ := chk_ok hc
  induction d with
  | zero =>
    intro q r h1 h2 g1 g2
    rcases Nat.lt_trichotomy q r with c | c | c
    · exact (tops_one hc c h2.1 h1.2 h2.2 g1 g2).elim
    · exact c
    · exact (tops_one hc c h1.1 h2.2 h1.2 g2 g1).elim
  | succ d ih =>
    intro q r h1 h2 g1 g2
    obtain ⟨hq, -, q', -, ⟨e, he, e1, e2⟩, hdq⟩ := h1
    obtain ⟨hr, -, r', -, ⟨f, hf, f1, f2⟩, hdr⟩ := h2
    obtain ⟨ea, el⟩ := lease_root hc hF hq hdq.lt he e1 e2
    obtain ⟨fa, fl⟩ := lease_root hc hF hr hdr.lt hf f1 f2
    have ge : hld e.a e.l v = true := by rw [ea, el]; exact g1
    have gf : hld f.a f.l v = true := by rw [fa, fl]; exact g2
    have hqr := ih q' r' hdq hdr (lease_in hc hdq.lt he ge) (lease_in hc hdr.lt hf gf)
    subst hqr
    have hef := one_lease (used_mem hc q' hdq.lt) he hf ge gf
    subst hef
    exact ids_one hids hq hr (e2.symm.trans f2)
theorem climb {t : Int} {ps : List Po} (hc : chkB t ps = 0) (hF : Full ps) {v : Int} (k : Nat) : ∀ d q e, Dep ps (d + k) q → e ∈ (poAt ps q).ls → hld e.a e.l v = true → ∃ r, Dep ps d r ∧ hld (poAt ps r).a (poAt ps r).l v = true ∧ ((k = 0 ∧ r = q) ∨ ∃ f ∈ (poAt ps r).ls, f.kd = 2 ∧ hld f.a f.l v = true) := by
  induction k with
  | zero => intro d q e h he g; exact ⟨q, h, lease_in hc (Dep.lt h) he g, .inl ⟨rfl, rfl⟩⟩
  | succ k ih =>
    intro d q e h he g
    obtain ⟨hq, -, r, -, ⟨f, hf, f1, f2⟩, hd⟩ := h
    obtain ⟨fa, fl⟩ := lease_root hc hF hq (Dep.lt hd) hf f1 f2
    have gf : hld f.a f.l v = true := by rw [fa, fl]; exact lease_in hc hq he g
    obtain ⟨s, h1, h2, h3⟩ := ih d r f hd hf gf
    rcases h3 with ⟨-, rfl⟩ | h3
    · exact ⟨s, h1, h2, .inr ⟨f, hf, f1, gf⟩⟩
    · exact ⟨s, h1, h2, .inr h3⟩
theorem two_no {t : Int} {ps : List Po} (hc : chkB t ps = 0) (hF : Full ps) {v : Int} {q r d d' : Nat} {e f : Le} (hd : Dep ps d q) (hd' : Dep ps d' r) (hle : d' ≤ d) (hne : q ≠ r) (he : e ∈ (poAt ps q).ls) (hf : f ∈ (poAt ps r).ls) (f1 : f.kd = 1) (g1 : hld e.a e.l v = true) (g2 : hld f.a f.l v = true) : False := by
  obtain ⟨s, h1, h2, h3⟩ := climb hc hF (d - d') d' q e (by rw [show d' + (d - d') = d by omega]; exact hd) he g1
  have hsr := level_one hc hF d' s r h1 hd' h2 (lease_in hc hd'.lt hf g2)
  subst hsr
  rcases h3 with ⟨-, h4⟩ | ⟨x, hx, x1, x2⟩
  · exact hne h4.symm
  · have := one_lease (used_mem hc s hd'.lt) hx hf x2 g2
    subst this
    omega
theorem sum_zero : ∀ (l : List Nat), (∀ y ∈ l, y = 0) → l.sum = 0
  | [], _ => rfl
  | x :: r, h => by rw [List.sum_cons, h x (by simp), sum_zero r (fun y hy => h y (by simp [hy]))]
theorem sum_one : ∀ (l : List Nat), (∀ i (h : i < l.length), l[i] ≤ 1) → (∀ i j (hi : i < l.length) (hj : j < l.length), i < j → l[i] = 0 ∨ l[j] = 0) → l.sum ≤ 1
  | [], _, _ => by simp
  | x :: r, h1, h2 => by
    have hr := sum_one r (fun i h => h1 (i + 1) (by simpa using h)) (fun i j hi hj hij => h2 (i + 1) (j + 1) (by simpa using hi) (by simpa using hj) (by omega))
    have hx := h1 0 (by simp)
    simp only [List.getElem_cons_zero] at hx
    rw [List.sum_cons]
    by_cases h0 : x = 0
    · omega
    · have hz : ∀ y ∈ r, y = 0 := fun y hy => by
        obtain ⟨j, hj, rfl⟩ := List.mem_iff_getElem.1 hy
        rcases h2 0 (j + 1) (by simp) (by simpa using hj) (by omega) with c | c
        · exact absurd c h0
        · exact c
      have : r.sum = 0 := sum_zero r hz
      omega
/-- No address is in two leases for users. -/
theorem useN_one {t : Int} {ps : List Po} (hc : chkB t ps = 0) (hF : Full ps) (v : Int) : useN ps v ≤ 1 := by
  obtain ⟨-, -, -, -, hp⟩ := chk_ok hc
  refine sum_one _ (fun i h => ?_) (fun i j hi hj hij => ?_)
  · rw [List.length_map] at h
    rw [List.getElem_map, ← poAt_get h]
    exact useL_one (used_mem hc i h)
  · rw [List.length_map] at hi hj
    rw [List.getElem_map, List.getElem_map, ← poAt_get hi, ← poAt_get hj]
    by_cases c1 : useL (poAt ps i).ls v = 0
    · exact .inl c1
    · by_cases c2 : useL (poAt ps j).ls v = 0
      · exact .inr c2
      · obtain ⟨e, he, e1, e2⟩ := useL_some c1
        obtain ⟨f, hf, f1, f2⟩ := useL_some c2
        obtain ⟨d, hd⟩ := dep_of hF _ i hi (pool_ok (hp i hi)).2.2.1
        obtain ⟨d', hd'⟩ := dep_of hF _ j hj (pool_ok (hp j hj)).2.2.1
        by_cases c3 : d' ≤ d
        · exact (two_no hc hF hd hd' c3 (by omega) he hf f1 e2 f2).elim
        · exact (two_no hc hF hd' hd (by omega) (by omega) hf he e1 f2 e2).elim
end Go.Proofs.YtpdoonkhnabfjaaGreat
/- What Take leaves is right, and one more holds what was taken. -/
namespace Go.Proofs.YtpdoonkhnabfjaaGreat
open Go.RowKit Go.Shelf

theorem set_like {ps qs : List Po} {i c' : Nat} {x' : Option Addr} {ls' : List Le} (hs : sameB ps qs) (hf : Full ps) (hi : i < ps.length) : sameHs ps (qs.set i (withL (poAt qs i) x' ls'.length c' ls')) ∧ Full (qs.set i (withL (poAt qs i) x' ls'.length c' ls')) ∧ ∀ k, k < ps.length → (poAt (qs.set i (withL (poAt qs i) x' ls'.length c' ls')) k).ls = if i = k then ls' else (poAt ps k).ls := by
  have hi2 : i < qs.length := by rw [← hs.1]; exact hi
  have hat : ∀ k, poAt (qs.set i (withL (poAt qs i) x' ls'.length c' ls')) k = if i = k then withL (poAt qs i) x' ls'.length c' ls' else poAt qs k := fun k => poAt_set hi2
  refine ⟨⟨by rw [List.length_set]; exact hs.1, fun k hk => ?_⟩, fun k hk => ?_, fun k hk => ?_⟩
  · rw [hat]
    by_cases e : i = k
    · rw [if_pos e]
      subst e
      exact (hs.2 i hi).head
    · rw [if_neg e]
      exact (hs.2 k hk).head
  · rw [List.length_set] at hk
    rw [hat]
    by_cases e : i = k
    · rw [if_pos e]; rfl
    · rw [if_neg e]
      have hk2 : k < ps.length := by rw [hs.1]; exact hk
      have h1 := (hs.2 k hk2).2.2.2.2.2.2.2.2
      rw [← h1.1, ← h1.2]
      exact hf k hk2
  · rw [hat]
    by_cases e : i = k
    · rw [if_pos e, if_pos e]; rfl
    · rw [if_neg e, if_neg e]
      exact (hs.2 k hk).2.2.2.2.2.2.2.2.2.symm
theorem sum_set : ∀ (l : List Nat) (i y : Nat) (h : i < l.length), (l.set i y).sum + l[i] = l.sum + y
  | x :: r, 0, y, _ => by simp; omega
  | x :: r, i + 1, y, h => by
    have := sum_set r i y (by simpa using h)
    simp only [List.set_cons_succ, List.sum_cons, List.getElem_cons_succ]
    omega
theorem useL_put {e : Le} {ls ls' : List Le} (h : PutLe e ls ls') (v : Int) : useL ls' v = useL ls v + if ((e.kd == 1) && hld e.a e.l v) = true then 1 else 0 := by
  obtain ⟨k, hk, -, -, rfl⟩ := h
  unfold useL
  have e1 : ls.filter (fun e => (e.kd == 1) && hld e.a e.l v) = (ls.take k).filter (fun e => (e.kd == 1) && hld e.a e.l v) ++ (ls.drop k).filter (fun e => (e.kd == 1) && hld e.a e.l v) := by
    rw [← List.filter_append, List.take_append_drop]
  rw [e1, List.filter_append, List.filter_append, List.length_append, List.length_append, List.length_append, List.filter_cons, List.filter_nil]
  split
  · simp only [List.length_singleton]; omega
  · simp only [List.length_nil]; omega
theorem useN_eq {ps qs : List Po} (h : ps.length = qs.length) (hl : ∀ k, k < ps.length → (poAt qs k).ls = (poAt ps k).ls) (v : Int) : useN qs v = useN ps v := by
  unfold useN
  congr 1
  refine List.ext_getElem (by simp [h]) fun k h1 h2 => ?_
  rw [List.length_map] at h1 h2
  rw [List.getElem_map, List.getElem_map, ← poAt_get h1, ← poAt_get h2, hl k h2]
theorem useN_set {ps : List Po} {i : Nat} {p : Po} (hi : i < ps.length) (v : Int) : useN (ps.set i p) v + useL (poAt ps i).ls v = useN ps v + useL p.ls v := by
  unfold useN
  rw [List.map_set]
  have := sum_set (ps.map fun p => useL p.ls v) i (useL p.ls v) (by simpa using hi)
  rw [List.getElem_map, ← poAt_get hi] at this
  exact this
theorem putAt_of {e : Le} {ls ls' : List Le} (h : PutLe e ls ls') : PutAt (lp ls) e.a e.l (lp ls') := by
  obtain ⟨k, hk, h1, h2, rfl⟩ := h
  refine ⟨⟨k, by rw [lp_len]; exact hk, fun j hj => ?_, fun hj => ?_, ?_⟩⟩
  · rw [(lp_at (by omega)).1]
    have := h1 j hj
    omega
  · rw [lp_len] at hj
    rw [(lp_at hj).1]
    exact h2 hj
  · unfold lp
    simp
/-- What Take leaves is right. -/
theorem take_right {t : Int} {ps qs : List Po} {id z ow : Int} {i c' : Nat} {x' : Option Addr} {ls' : List Le} {a l : Int} (hF : Full ps) (hE : takeE t ps id z ow = 0) (hat : atId ps id = i) (hi : i < ps.length) (hal : (a, l) = pfitO (poAt ps i) (sizeZ (poAt ps i) z)) (hs : sameB ps qs) (hput : PutLe ⟨a, l, 1, ow, 0⟩ (poAt ps i).ls ls') :
    chkB t (qs.set i (withL (poAt qs i) x' ls'.length c' ls')) = 0 ∧ Full (qs.set i (withL (poAt qs i) x' ls'.length c' ls')) ∧ rt a l = true ∧ ∀ v, hld a l v = true → useN (qs.set i (withL (poAt qs i) x' ls'.length c' ls')) v = useN ps v + 1 := by
  obtain ⟨hc, -, how, hpf⟩ := take0 hE
  rw [hat, Int.toNat_natCast] at hpf
  obtain ⟨hH, hFr, hls⟩ := set_like (x' := x') (c' := c') (ls' := ls') hs hF hi
  obtain ⟨y, e1, e2, -⟩ := fit_free hc hi hpf
  rw [e1] at hal
  simp only [Prod.mk.injEq] at hal
  obtain ⟨rfl, hlz⟩ := hal
  rw [← hlz] at e2
  obtain ⟨-, ⟨ht0, ht1⟩, -, -, hpo⟩ := chk_ok hc
  have h31 := pfit_len hpf
  have hmem : ∀ e, e ∈ ls' ↔ e = ⟨a, l, 1, ow, 0⟩ ∨ e ∈ (poAt ps i).ls := fun e => by
    obtain ⟨k, hk, -, -, rfl⟩ := hput
    have : (poAt ps i).ls = (poAt ps i).ls.take k ++ (poAt ps i).ls.drop k := (List.take_append_drop _ _).symm
    constructor
    · intro h
      simp only [List.mem_append, List.mem_singleton] at h
      rcases h with (h | h) | h
      · exact .inr (List.mem_of_mem_take h)
      · exact .inl h
      · exact .inr (List.mem_of_mem_drop h)
    · rintro (h | h)
      · simp [h]
      · rw [this] at h
        simp only [List.mem_append, List.mem_singleton] at h ⊢
        rcases h with h | h
        · exact .inl (.inl h)
        · exact .inr h
  refine ⟨chk_keeps hc ht0 ht1 hH hF hFr (fun k hk => ?_) (fun k hk => ?_) (fun k hk e he h2 => ?_) (fun k hk e he => ?_), hFr, (ins_nums e2.1).1, fun v hv => ?_⟩
  · have hk2 : k < (qs.set i (withL (poAt qs i) x' ls'.length c' ls')).length := by rw [← hH.1]; exact hk
    rw [← hFr k hk2, hls k hk]
    by_cases e : i = k
    · subst e
      rw [if_pos rfl, hput.len, hF i hi]
      omega
    · rw [if_neg e, hF k hk]
      exact (chk_pool hc k hk).1
  · rw [hls k hk]
    by_cases e : i = k
    · subst e
      rw [if_pos rfl]
      exact put_used (used_mem hc i hi) e2.1 e2.2 (putAt_of hput)
    · rw [if_neg e]
      exact used_mem hc k hk
  · rw [hls k hk]
    by_cases e' : i = k
    · subst e'
      rw [if_pos rfl]
      exact (hmem e).2 (.inr he)
    · rw [if_neg e']
      exact he
  · rw [hls k hk] at he
    have hold : e ∈ (poAt ps k).ls → leB t ps (poAt ps k).id e = true := fun h => (les_mem (hF k hk)).1 (pool_ok (hpo k hk)).2.2.2 e h
    by_cases e' : i = k
    · subst e'
      rw [if_pos rfl] at he
      rcases (hmem e).1 he with rfl | h
      · unfold leB
        rw [if_pos rfl, how]
        rfl
      · exact hold h
    · rw [if_neg e'] at he
      exact hold he
  · have h1 := useN_set (ps := qs) (i := i) (p := withL (poAt qs i) x' ls'.length c' ls') (by rw [← hs.1]; exact hi) v
    have h2 := useN_eq (ps := ps) (qs := qs) hs.1 (fun k hk => (hs.2 k hk).2.2.2.2.2.2.2.2.2.symm) v
    have h3 := useL_put hput v
    rw [if_pos (by simp [hv])] at h3
    have h4 : (poAt qs i).ls = (poAt ps i).ls := (hs.2 i hi).2.2.2.2.2.2.2.2.2.symm
    have h5 : (withL (poAt qs i) x' ls'.length c' ls').ls = ls' := rfl
    rw [h4, h5] at h1
    omega
end Go.Proofs.YtpdoonkhnabfjaaGreat
/- What users of the law comes to. -/
namespace Go.Proofs.YtpdoonkhnabfjaaGreat
open Go.RowKit Go.Shelf

theorem useN_step {ps : List Po} {q : Nat} (hq : q < ps.length) (v : Int) : useN (ps.take (q + 1)) v = useN (ps.take q) v + useL (poAt ps q).ls v := by
  unfold useN
  rw [List.take_add_one, List.getElem?_eq_getElem hq, List.map_append, List.sum_append, poAt_get hq]
  simp
theorem useL_step {ls : List Le} {k : Nat} (hk : k < ls.length) (v : Int) : useL (ls.take (k + 1)) v = useL (ls.take k) v + if (((leAt ls k).kd == 1) && hld (leAt ls k).a (leAt ls k).l v) = true then 1 else 0 := by
  unfold useL
  rw [take_step hk, List.filter_append, List.length_append, List.filter_cons, List.filter_nil]
  split
  · rfl
  · rfl
theorem useL_le (ls : List Le) (v : Int) : useL ls v ≤ ls.length := List.length_filter_le _ _
theorem useN_le {ps : List Po} (h : ∀ i, i < ps.length → (poAt ps i).ls.length ≤ 32) (v : Int) : ∀ q, q ≤ ps.length → useN (ps.take q) v ≤ 32 * q
  | 0, _ => by simp [useN]
  | q + 1, hq => by
    have h1 := useN_le h v q (by omega)
    have h2 := useL_le (poAt ps q).ls v
    have h3 := h q (by omega)
    rw [useN_step (by omega)]
    omega
theorem holds_at (a l x : Int) (t : Bool) (h : hld a l x = t) (w : World) :
    Calls Tryz.prog 97 #[.agg #[.int .i64 a, .int .i64 l], .int .i64 x] w fun e w' => e = .returned (.bool t) ∧ Below w.heap.size w w' := by
  subst h
  exact holds_any a l x w
end Go.Proofs.YtpdoonkhnabfjaaGreat
/- What PoolApart comes to: it answers true. -/
namespace Go.Proofs.YtpdoonkhnabfjaaGreat
open Go.RowKit Go.Shelf

def chooseV (c n : Int) : Int := if c < 0 then -((c + 1).tmod n) else c % n
theorem choose_range (c n : Int) (hn : 0 < n) : 0 ≤ chooseV c n ∧ chooseV c n < n := by
  unfold chooseV
  split
  · rename_i h
    rw [← Int.neg_tmod, Int.tmod_eq_emod_of_nonneg (by omega)]
    exact ⟨Int.emod_nonneg _ (by omega), Int.emod_lt_of_pos _ hn⟩
  · exact ⟨Int.emod_nonneg _ (by omega), Int.emod_lt_of_pos _ hn⟩

end Go.Proofs.YtpdoonkhnabfjaaGreat
/- What leaseFine of the reference comes to. -/
namespace Go.Proofs.YtpdoonkhnabfjaaGreat
open Go.RowKit Go.Shelf

theorem within_at (x lo hi : Int) (t : Bool) (h : wth x lo hi = t) (w : World) : Calls Tryz.prog 25 #[.int .i64 x, .int .i64 lo, .int .i64 hi] w fun e w' => e = .returned (.bool t) ∧ w' = w := by
  subst h
  exact within_any x lo hi w

set_option maxRecDepth 100000 in
set_option maxHeartbeats 1600000 in
theorem leaseFine_1 (t : Int) (p : Po) (x : Option Addr) (n c : Nat) (ps : List Po) (e : Le) (w : World) (hk : e.kd = 1) :
    Calls Tryz.prog 43 #[.agg #[.int .i64 t, .slice x n c], poV p, leV e] w fun r w' => r = .returned (.bool (leB t ps p.id e)) ∧ Below w.heap.size w w' := by
  have hb1 : (e.kd == 1) = true := by simpa using hk
  rw [le_1 hk]
  clear hk
  cases hi : wth e.ow 1 65536
  all_goals go_enter Tryz.func43, Tryz.ntmps43
  all_goals go_wp2_with (go_at_call 25; refine (within_at e.ow 1 65536 _ hi _).mono ?_; rintro r w1 ⟨rfl, rfl⟩)
  all_goals go_ret
  all_goals exact ⟨rfl, (bl2 w _ _).alloc (by simp; omega) _⟩
set_option maxRecDepth 100000 in
set_option maxHeartbeats 1600000 in
theorem leaseFine_3 (t : Int) (p : Po) (x : Option Addr) (n c : Nat) (ps : List Po) (e : Le) (w : World) (hk : e.kd = 3) (t0 : 0 ≤ t) (t1 : t ≤ 1073741824) :
    Calls Tryz.prog 43 #[.agg #[.int .i64 t, .slice x n c], poV p, leV e] w fun r w' => r = .returned (.bool (leB t ps p.id e)) ∧ Below w.heap.size w w' := by
  have hb1 : (e.kd == 1) = false := by simp [hk]
  have hb2 : (e.kd == 2) = false := by simp [hk]
  have hb3 : (e.kd == 3) = true := by simp [hk]
  rw [le_3 hk]
  clear hk
  cases ho : (e.ow == 0)
  · go_enter Tryz.func43, Tryz.ntmps43
    go_wp2
    go_ret
    exact ⟨rfl, (bl2 w _ _).alloc (by simp; omega) _⟩
  · have hw : (decide (t < e.un) && decide (e.un ≤ t + 1024)) = wth e.un (t + 1) (t + 1024) := by
      unfold wth
      congr 1
    rw [hw]
    cases hu : wth e.un (t + 1) (t + 1024)
    all_goals go_enter Tryz.func43, Tryz.ntmps43
    all_goals go_wp2_with fail
    all_goals refine (within_at e.un (t + 1) (t + 1024) _ hu _).mono ?_
    all_goals rintro r w1 ⟨rfl, rfl⟩
    all_goals go_wp2
    all_goals go_ret
    all_goals exact ⟨rfl, (bl2 w _ _).alloc (by simp; omega) _⟩
set_option maxRecDepth 100000 in
set_option maxHeartbeats 1600000 in
theorem leaseFine_n (t : Int) (p : Po) (x : Option Addr) (n c : Nat) (ps : List Po) (e : Le) (w : World) (h1 : e.kd ≠ 1) (h2 : e.kd ≠ 2) (h3 : e.kd ≠ 3) :
    Calls Tryz.prog 43 #[.agg #[.int .i64 t, .slice x n c], poV p, leV e] w fun r w' => r = .returned (.bool (leB t ps p.id e)) ∧ Below w.heap.size w w' := by
  have hb1 : (e.kd == 1) = false := by simpa using h1
  have hb2 : (e.kd == 2) = false := by simpa using h2
  have hb3 : (e.kd == 3) = false := by simpa using h3
  rw [le_n h1 h2 h3]
  clear h1 h2 h3
  go_enter Tryz.func43, Tryz.ntmps43
  go_wp2
  go_ret
  exact ⟨rfl, (bl2 w _ _).alloc (by simp; omega) _⟩
set_option maxRecDepth 100000 in
set_option maxHeartbeats 3200000 in
theorem leaseFine_2 (t : Int) (p : Po) (x : Option Addr) (n c : Nat) (ps : List Po) (e : Le) (w : World) (hp : PoS w x n ps) (hn : n ≤ 64) (hk : e.kd = 2) :
    Calls Tryz.prog 43 #[.agg #[.int .i64 t, .slice x n c], poV p, leV e] w fun r w' => r = .returned (.bool (leB t ps p.id e)) ∧ Below w.heap.size w w' := by
  have hpl : Hid (ps.length = n) := hp.len
  have hb1 : (e.kd == 1) = false := by simp [hk]
  have hb2 : (e.kd == 2) = true := by simp [hk]
  have hk' : Hid (e.kd = 2) := hk
  clear hk
  go_enter Tryz.func43, Tryz.ntmps43
  go_upto_region 5 with fail
  obtain ⟨w0, hw0⟩ : ∃ w0, w0 = ((w.alloc (bkO t x n c)).alloc (poB p)).alloc (leO e) := ⟨_, rfl⟩
  rw [← hw0]
  have hB0 : Below w.heap.size w w0 := by rw [hw0]; exact (bl2 w _ _).alloc (by simp; omega) _
  have hb0 : w0.heap[w.heap.size]? = some (bkO t x n c) := by rw [hw0]; exact heap_old _ (heap_old _ (heap_new _ rfl))
  have hp0 : w0.heap[w.heap.size + 1]? = some (poB p) := by rw [hw0]; exact heap_old _ (heap_new _ (by simp))
  have hq0 : w0.heap[w.heap.size + 2]? = some (leO e) := by rw [hw0]; exact heap_new _ (by simp)
  clear hw0
  obtain ⟨kb, -⟩ := box_cells hb0
  obtain ⟨kq, -⟩ := box_cells hq0
  obtain ⟨kp, -⟩ := box_cells hp0
  go_upto_region 6 with (go_at_call 27; refine (poolAt_any t e.ow x n c ps _ (hp.later hB0) (by omega)).mono ?_; rintro r w1 ⟨rfl, hb1'⟩)
  have hbb1 := heap_later hb1' hb0
  have hbq1 := heap_later hb1' hq0
  have hbp1 := heap_later hb1' hp0
  have hB1 := hB0.trans (hb1'.mono hB0.size)
  clear hb1' kb kq kp hb0 hq0 hp0 hB0
  obtain ⟨kb, -⟩ := box_cells hbb1
  obtain ⟨kq, -⟩ := box_cells hbq1
  obtain ⟨kp, -⟩ := box_cells hbp1
  have g0 := Ws.here (v := .slice x n c) (kb 1)
  have g1 := Ws.here (v := .int .i64 e.a) (kq 0)
  have g2 := Ws.here (v := .int .i64 e.l) (kq 1)
  have g3 := Ws.here (v := .int .i64 e.un) (kq 4)
  have g4 := Ws.here (v := .int .i64 p.id) (kp 0)
  cases hneg : decide (atId ps e.ow < 0)
  · obtain ⟨i, hi, hai, -⟩ := atId_range (ps := ps) (id := e.ow) (by simpa using hneg)
    have hai' : Hid (atId ps e.ow = i) := hai
    rw [hpl.out] at hi
    have hpw := hp.later hB1
    obtain ⟨b, o, rfl, c0, c1, c2, c3, -⟩ := hpw.cells i hi
    rw [hai]
    have hge : decide ((i : Int) ≥ 0) = true := by simp
    clear hai hneg
    have e1 := Ws.here c1
    have e2 := Ws.here c2
    have e3 := Ws.here c3
    cases hup : ((poAt ps i).up == p.id)
    · refine wp_region_ws w1.heap.size (by kernel_rfl) (by kernel_rfl) ?_
      repeat (go_big_quiet_step (fail))
      refine wpQuiet_nil ?_
      rintro _ ⟨u, rfl⟩
      have hu2 := hB1.trans (u.property.mono hB1.size)
      generalize u.val = wu at hu2 ⊢
      clear u g0 g1 g2 g3 g4 e1 e2 e3
      go_wp2
      go_ret
      exact ⟨ret_bool (by rw [le_2 hk'.out hai'.out]; unfold le2; rw [hup]; rfl), hu2⟩
    · cases heq : (decide ((poAt ps i).a = e.a) && decide ((poAt ps i).l = e.l))
      all_goals refine wp_region_ws w1.heap.size (by kernel_rfl) (by kernel_rfl) ?_
      all_goals repeat (go_big_quiet_step (fail))
      all_goals refine quiet_eqlg _ _ _ (poAt ps i).a (poAt ps i).l e.a e.l rfl (by rfl) rfl rfl ?_
      all_goals rw [heq]
      all_goals simp only [Act.put, List.setIfInBounds_toArray, List.set_cons_zero, List.set_cons_succ]
      all_goals repeat (go_big_quiet_step (fail))
      all_goals refine wpQuiet_nil ?_
      all_goals rintro _ ⟨u, rfl⟩
      all_goals have hu2 := hB1.trans (u.property.mono hB1.size)
      all_goals generalize u.val = wu at hu2 ⊢
      all_goals clear u g0 g1 g2 g3 g4 e1 e2 e3
      all_goals go_wp2
      all_goals go_ret
      all_goals exact ⟨ret_bool (by rw [le_2 hk'.out hai'.out]; unfold le2; rw [hup, heq]; rfl), hu2⟩
  · have hai' : Hid (atId ps e.ow < 0) := by unfold Hid; simpa using hneg
    have hge : decide (atId ps e.ow ≥ 0) = false := by simp at hneg ⊢; omega
    clear hneg
    refine wp_region_ws w1.heap.size (by kernel_rfl) (by kernel_rfl) ?_
    repeat (go_big_quiet_step (fail))
    refine wpQuiet_nil ?_
    rintro _ ⟨u, rfl⟩
    have hu2 := hB1.trans (u.property.mono hB1.size)
    generalize u.val = wu at hu2 ⊢
    clear u g0 g1 g2 g3 g4
    go_wp2
    go_ret
    exact ⟨ret_bool (by rw [le_2n hk'.out hai'.out]), hu2⟩
theorem leaseFine_any (t : Int) (p : Po) (x : Option Addr) (n c : Nat) (ps : List Po) (e : Le) (w : World) (hp : PoS w x n ps) (hn : n ≤ 64) (t0 : 0 ≤ t) (t1 : t ≤ 1073741824) :
    Calls Tryz.prog 43 #[.agg #[.int .i64 t, .slice x n c], poV p, leV e] w fun r w' => r = .returned (.bool (leB t ps p.id e)) ∧ Below w.heap.size w w' := by
  by_cases h1 : e.kd = 1
  · exact leaseFine_1 t p x n c ps e w h1
  · by_cases h2 : e.kd = 2
    · exact leaseFine_2 t p x n c ps e w hp hn h2
    · by_cases h3 : e.kd = 3
      · exact leaseFine_3 t p x n c ps e w h3 t0 t1
      · exact leaseFine_n t p x n c ps e w h1 h2 h3
end Go.Proofs.YtpdoonkhnabfjaaGreat
/- What upFine of the reference comes to. -/
namespace Go.Proofs.YtpdoonkhnabfjaaGreat
open Go.RowKit Go.Shelf

theorem any_next (j : Nat) (f : Nat → Bool) : anyAt (j + 1) f = (anyAt j f || f j) := by
  unfold anyAt
  rw [List.range_succ, List.any_append]
  simp
set_option maxRecDepth 100000 in
set_option maxHeartbeats 3200000 in
theorem upFine_any (t : Int) (x : Option Addr) (n c : Nat) (ps : List Po) (p : Po) (w : World) (hp : PoS w x n ps) (hn : n ≤ 64) :
    Calls Tryz.prog 42 #[.agg #[.int .i64 t, .slice x n c], poV p] w fun e w' => e = .returned (.bool (upB ps (n + 1) p)) ∧ Below w.heap.size w w' := by
  have hpl : Hid (ps.length = n) := hp.len
  go_enter Tryz.func42, Tryz.ntmps42
  go_upto_region 1 with fail
  obtain ⟨w0, hw0⟩ : ∃ w0, w0 = (w.alloc (.cells #[.int .i64 t, .slice x n c] 24)).alloc (poB p) := ⟨_, rfl⟩
  rw [← hw0]
  have hB0 : Below w.heap.size w w0 := by rw [hw0]; exact bl2 w _ _
  have hb0 : w0.heap[w.heap.size]? = some (.cells #[.int .i64 t, .slice x n c] 24) := by rw [hw0]; exact heap_old _ (heap_new _ rfl)
  have hq0 : w0.heap[w.heap.size + 1]? = some (poB p) := by rw [hw0]; exact heap_new _ (by simp)
  clear hw0
  go_wp2
  go_loopw [5] (fun i wr => ∃ (k : Nat) (q : Po), k ≤ n + 1 ∧ i = .int .i64 k ∧ Hid (upB ps (n + 1) p = upB ps (n + 1 - k) q) ∧ wr.heap[w.heap.size]? = some (.cells #[.int .i64 t, .slice x n c] 24) ∧ wr.heap[w.heap.size + 1]? = some (poB q) ∧ Below w.heap.size w wr) (fun i _ => n + 1 - (intOf i).toNat)
  case atStart => exact ⟨0, p, by omega, rfl, rfl, hb0, hq0, hB0⟩
  case round =>
    obtain ⟨k, q, hk, rfl, hup, hbb, hbq, hB⟩ := hrel
    clear hb0 hq0 hB0
    have kb1 : wr.cell? ⟨w.heap.size, 1, none⟩ = some (.slice x n c) := (box_cells hbb).1 1
    by_cases hlt : k ≤ n
    · have hlt' : Hid (k ≤ n) := hlt
      obtain ⟨f, hf⟩ : ∃ f : Nat, Hid (n + 1 - k = f + 1) := ⟨n - k, by unfold Hid; omega⟩
      have hkn : (k : Int) ≤ n := by omega
      have hkd : decide ((k : Int) ≤ n) = true := by simpa using hlt
      have kb0 : wr.cell? ⟨w.heap.size, 0, none⟩ = some (.int .i64 t) := (box_cells hbb).1 0
      have kq0 : wr.cell? ⟨w.heap.size + 1, 0, none⟩ = some (.int .i64 q.id) := (box_cells hbq).1 0
      have kq1 : wr.cell? ⟨w.heap.size + 1, 1, none⟩ = some (.int .i64 q.up) := (box_cells hbq).1 1
      clear hlt
      by_cases hu : q.up = 0
      · have hu' : Hid (q.up = 0) := hu
        have hub : (q.up == 0) = true := by simpa using hu
        go_wp2
        go_ret
        exact ⟨ret_bool (by rw [hup.out, hf.out, up_0 hu'.out]), hB⟩
      · have hu' : Hid (q.up ≠ 0) := hu
        have hub : (q.up == 0) = false := by simpa using hu
        clear hu
        obtain ⟨ia, hia⟩ : ∃ ia, Hid (ia = atId ps q.up) := ⟨_, rfl⟩
        have hpc := poolAt_any t q.up x n c ps wr (hp.later hB) (by omega)
        rw [← hia.out] at hpc
        go_wp2_with fail
        refine hpc.mono ?_
        rintro e w1 ⟨rfl, hb1⟩
        have hbb1 := heap_later hb1 hbb
        have hbq1 := heap_later hb1 hbq
        have hB1 := hB.trans (hb1.mono hB.size)
        clear hb1 kb0 kb1 kq0 kq1 hbb hbq hB hpc
        by_cases hneg : ia < 0
        · have hai' : Hid (atId ps q.up < 0) := by unfold Hid; rw [← hia.out]; exact hneg
          clear hia
          go_wp2
          go_ret
          exact ⟨ret_bool (by rw [hup.out, hf.out, up_none hu'.out hai'.out]), hB1⟩
        · obtain ⟨i, hi, hai, -⟩ := atId_range (ps := ps) (id := q.up) (by rw [← hia.out]; exact hneg)
          have hai' : Hid (atId ps q.up = i) := hai
          obtain rfl : ia = (i : Int) := hia.out.trans hai
          rw [hpl.out] at hi
          have hpw := hp.later hB1
          obtain ⟨b, o, rfl, c0, c1, c2, c3, c4, c5, c6, c7, c8⟩ := hpw.cells i hi
          obtain ⟨hl1, hl2, hl3⟩ := hpw.leases i hi
          have hge : decide ((i : Int) < 0) = false := by simp
          have hi0 : (0 : Int) ≤ i := by omega
          have hin : (i : Int) < n := by omega
          have hlen : Hid ((poAt ps i).ls.length = (poAt ps i).n) := hl3.len
          clear hai hneg hia
          have kb1 : w1.cell? ⟨w.heap.size, 1, none⟩ = some (.slice (some ⟨b, o, none⟩) n c) := (box_cells hbb1).1 1
          have kq0 : w1.cell? ⟨w.heap.size + 1, 0, none⟩ = some (.int .i64 q.id) := (box_cells hbq1).1 0
          go_wp2
          go_loopw [8, 7] (fun kk s ws => ∃ j : Nat, kk = .int .i64 j ∧ j ≤ (poAt ps i).n ∧ s = .bool (anyAt j (forB (poAt ps i).ls q.id)) ∧ Below w1.heap.size w1 ws) (fun kk _ _ => (poAt ps i).n - (intOf kk).toNat)
          case atStart => exact ⟨0, rfl, by omega, rfl, Below.refl _ _⟩
          case round =>
            obtain ⟨j, rfl, hjn, rfl, hBs⟩ := hrel
            have kb1' := cell_later_add hBs kb1
            have kq0' := cell_later_add hBs kq0
            have c8' := cell_later_add hBs c8
            have hstep : Hid (anyAt (j + 1) (forB (poAt ps i).ls q.id) = (anyAt j (forB (poAt ps i).ls q.id) || forB (poAt ps i).ls q.id j)) := any_next j _
            obtain ⟨B, hB'⟩ : ∃ B, Hid (B = anyAt j (forB (poAt ps i).ls q.id)) := ⟨_, rfl⟩
            rw [← hB'.out]
            by_cases hltj : j < (poAt ps i).n
            · obtain ⟨b2, o2, hx2, e0, e1, e2, e3, e4⟩ := (hl3.later hBs).cells j hltj
              rw [hx2] at c8'
              have hjn2 : (j : Int) < (poAt ps i).n := by omega
              have hj0 : (0 : Int) ≤ j := by omega
              have hltjh : Hid (j < (poAt ps i).n) := hltj
              clear hltj
              go_upto_region 14 with fail
              obtain ⟨w2, hw2⟩ : ∃ w2, w2 = wr.alloc (leO (leAt (poAt ps i).ls j)) := ⟨_, rfl⟩
              rw [show wr.alloc (.cells #[.int .i64 (leAt (poAt ps i).ls j).a, .int .i64 (leAt (poAt ps i).ls j).l, .int .i64 (leAt (poAt ps i).ls j).kd, .int .i64 (leAt (poAt ps i).ls j).ow, .int .i64 (leAt (poAt ps i).ls j).un] 55) = w2 from hw2.symm]
              have hB2 : Below wr.heap.size wr w2 := by rw [hw2]; exact bl1 _ _
              have hv2 : w2.heap[wr.heap.size]? = some (leO (leAt (poAt ps i).ls j)) := by rw [hw2]; exact heap_new _ rfl
              have hBt := hBs.trans (hB2.mono hBs.size)
              have kq2 := cell_later_add hB2 kq0'
              clear hw2 hB2 e0 e1 e2 e3 e4 kb1' kq0' c8'
              have v2 : w2.cell? ⟨wr.heap.size, 2, none⟩ = some (.int .i64 (leAt (poAt ps i).ls j).kd) := (box_cells hv2).1 2
              have v3 : w2.cell? ⟨wr.heap.size, 3, none⟩ = some (.int .i64 (leAt (poAt ps i).ls j).ow) := (box_cells hv2).1 3
              have hst : Hid (∀ r, r = (B || (((leAt (poAt ps i).ls j).kd == 2) && ((leAt (poAt ps i).ls j).ow == q.id))) → Value.bool r = .bool (anyAt (j + 1) (forB (poAt ps i).ls q.id))) := fun r hr => by
                rw [hr, hstep.out, ← hB'.out]
                rfl
              clear hstep hB'
              cases B with
              | true =>
                go_wp2
                go_roundw
                case rel => exact ⟨j + 1, by go_num, hltjh.out, hst.out true rfl, hBt⟩
                case measure => have := hltjh.out; simp [intOf]; omega
              | false =>
                cases hk2 : ((leAt (poAt ps i).ls j).kd == 2) with
                | false =>
                  go_wp2
                  go_roundw
                  case rel => exact ⟨j + 1, by go_num, hltjh.out, hst.out false (by rw [hk2]; rfl), hBt⟩
                  case measure => have := hltjh.out; simp [intOf]; omega
                | true =>
                  cases ho2 : ((leAt (poAt ps i).ls j).ow == q.id) with
                  | false =>
                    go_wp2
                    go_roundw
                    case rel => exact ⟨j + 1, by go_num, hltjh.out, hst.out false (by rw [hk2, ho2]; rfl), hBt⟩
                    case measure => have := hltjh.out; simp [intOf]; omega
                  | true =>
                    go_wp2
                    go_roundw
                    case rel => exact ⟨j + 1, by go_num, hltjh.out, hst.out true (by rw [hk2, ho2]; rfl), hBt⟩
                    case measure => have := hltjh.out; simp [intOf]; omega
            · have hne : ¬ (j : Int) < (poAt ps i).n := by omega
              have hje : Hid (j = (poAt ps i).n) := by unfold Hid; omega
              have hBe : Hid (B = anyAt (poAt ps i).n (forB (poAt ps i).ls q.id)) := by
                unfold Hid
                rw [hB'.out, hje.out]
              have hbb2 := heap_later hBs hbb1
              have hbq2 := heap_later hBs hbq1
              have hu2 := hB1.trans (hBs.mono hB1.size)
              have d0 := cell_later_add hBs c0
              have d1 := cell_later_add hBs c1
              have d2 := cell_later_add hBs c2
              have d3 := cell_later_add hBs c3
              have d4 := cell_later_add hBs c4
              have d5 := cell_later_add hBs c5
              have d6 := cell_later_add hBs c6
              have d7 := cell_later_add hBs c7
              obtain ⟨kq, fq⟩ := box_cells hbq2
              clear hltj hstep hB'
              cases B with
              | false =>
                go_wp2
                go_ret
                exact ⟨ret_bool (by rw [hup.out, hf.out, up_bad hu'.out hai'.out hBe.out.symm]), hu2⟩
              | true =>
                go_wp2
                go_roundw
                case rel => exact ⟨k + 1, poAt ps i, by have := hlt'.out; omega, by go_num, by
                  unfold Hid
                  rw [hup.out, hf.out, up_next hu'.out hai'.out hBe.out.symm]
                  congr 1
                  have := hf.out
                  omega, (poB_other (poAt ps i) (by omega)).trans hbb2, poB_set (poAt ps i) hbq2, poB_below (poAt ps i) hu2 (by omega)⟩
                case measure => have := hlt'.out; simp [intOf]; omega
    · have hne : ¬ (k : Int) ≤ n := by omega
      have hkd : decide ((k : Int) ≤ n) = false := by simpa using hlt
      have hke : Hid (n + 1 - k = 0) := by unfold Hid; omega
      clear hlt
      go_wp2
      go_ret
      exact ⟨ret_bool (by rw [hup.out, hke.out]; rfl), hB⟩
end Go.Proofs.YtpdoonkhnabfjaaGreat
/- One turn more of the way up adds nothing: the pools of a way are all different. -/
namespace Go.Proofs.YtpdoonkhnabfjaaGreat
open Go.RowKit Go.Shelf

theorem few_below : ∀ (n : Nat) (l : List Nat), l.Nodup → (∀ x ∈ l, x < n) → l.length ≤ n
  | 0, l, _, h => by
    match l, h with
    | [], _ => exact Nat.le_refl _
    | x :: r, h => exact absurd (h x (by simp)) (by omega)
  | n + 1, l, hn, h => by
    by_cases hm : n ∈ l
    · have h1 := few_below n (l.erase n) (hn.erase n) (fun x hx => by
        have hx1 := h x (List.mem_of_mem_erase hx)
        have hx2 : x ≠ n := fun e => by
          subst e
          exact (List.Nodup.not_mem_erase hn) hx
        omega)
      rw [List.length_erase_of_mem hm] at h1
      omega
    · have h1 := few_below n l hn (fun x hx => by
        have hx1 := h x hx
        have hx2 : x ≠ n := fun e => hm (e ▸ hx)
        omega)
      omega
theorem dep_one {ps : List Po} : ∀ (d e q : Nat), Dep ps d q → Dep ps e q → d = e
  | 0, 0, _, _, _ => rfl
  | 0, e + 1, q, h, g => absurd h.2 g.2.1
  | d + 1, 0, q, h, g => absurd g.2 h.2.1
  | d + 1, e + 1, q, h, g => by
    obtain ⟨-, -, r, h1, -, h2⟩ := h
    obtain ⟨-, -, s, g1, -, g2⟩ := g
    have : r = s := by omega
    subst this
    rw [dep_one d e r h2 g2]
/-- The pools of the way up: one of each depth. -/
theorem dep_list {ps : List Po} : ∀ (d q : Nat), Dep ps d q → ∃ l : List Nat, l.length = d + 1 ∧ l.Nodup ∧ ∀ x ∈ l, x < ps.length ∧ ∃ e, e ≤ d ∧ Dep ps e x
  | 0, q, h => ⟨[q], rfl, by simp, fun x hx => by
    obtain rfl : x = q := by simpa using hx
    exact ⟨h.1, 0, Nat.le_refl _, h⟩⟩
  | d + 1, q, h => by
    have hq := h
    obtain ⟨h0, -, r, -, -, h2⟩ := h
    obtain ⟨l, l1, l2, l3⟩ := dep_list d r h2
    refine ⟨q :: l, by rw [List.length_cons, l1], List.nodup_cons.2 ⟨fun hm => ?_, l2⟩, fun x hx => ?_⟩
    · obtain ⟨-, e, he, hd⟩ := l3 q hm
      have := dep_one _ _ _ hq hd
      omega
    · rcases List.mem_cons.1 hx with rfl | hx
      · exact ⟨h0, d + 1, Nat.le_refl _, hq⟩
      · obtain ⟨x1, e, he, hd⟩ := l3 x hx
        exact ⟨x1, e, by omega, hd⟩
theorem dep_lt {ps : List Po} {d q : Nat} (h : Dep ps d q) : d < ps.length := by
  obtain ⟨l, l1, l2, l3⟩ := dep_list d q h
  have := few_below ps.length l l2 (fun x hx => (l3 x hx).1)
  omega
theorem up_of_dep {ps : List Po} (hF : Full ps) : ∀ (d f q : Nat), Dep ps d q → d < f → upB ps f (poAt ps q) = true
  | 0, f + 1, q, h, _ => by unfold upB; rw [if_pos h.2]
  | d + 1, f + 1, q, h, hf => by
    obtain ⟨-, h1, r, h2, h3, h4⟩ := h
    have hr := h4.lt
    unfold upB
    rw [if_neg h1, h2, if_neg (by omega), Int.toNat_natCast, if_pos ((for_mem (hF r hr)).2 h3)]
    exact up_of_dep hF d f r h4 (by omega)
/-- One turn more adds nothing. -/
theorem up_more {ps : List Po} (hF : Full ps) {q : Nat} (hq : q < ps.length) : upB ps (ps.length + 1) (poAt ps q) = upB ps ps.length (poAt ps q) := by
  cases h : upB ps (ps.length + 1) (poAt ps q) with
  | true =>
    obtain ⟨d, hd⟩ := dep_of hF _ q hq h
    exact (up_of_dep hF d _ q hd (dep_lt hd)).symm
  | false =>
    cases h2 : upB ps ps.length (poAt ps q) with
    | false => rfl
    | true =>
      obtain ⟨d, hd⟩ := dep_of hF _ q hq h2
      rw [up_of_dep hF d _ q hd (by have := dep_lt hd; omega)] at h
      cases h
end Go.Proofs.YtpdoonkhnabfjaaGreat
/- What a right book is, row by row. -/
namespace Go.Proofs.YtpdoonkhnabfjaaGreat
open Go.RowKit Go.Shelf

/-- What the reference asks of the j-th pool first; and then. -/
def Row1 (ps : List Po) (j : Nat) : Prop := wth (poAt ps j).id 1 65536 = true ∧ (j = 0 ∨ (poAt ps (j - 1)).id < (poAt ps j).id) ∧ chkS (poAt ps j).a (poAt ps j).l (poAt ps j).n (lp (poAt ps j).ls) = 0 ∧ ruleB (poAt ps j).mn (poAt ps j).mx (poAt ps j).us (poAt ps j).co (poAt ps j).l = true
def Row2 (t : Int) (ps : List Po) (j : Nat) : Prop := upB ps (ps.length + 1) (poAt ps j) = true ∧ (∀ k, k < (poAt ps j).n → leB t ps (poAt ps j).id (leAt (poAt ps j).ls k) = true) ∧ ∀ m, m < j → ((poAt ps j).up = 0 ∧ (poAt ps m).up = 0) → mts (poAt ps j).a (poAt ps j).l (poAt ps m).a (poAt ps m).l = false
theorem chk_01 {t : Int} {ps : List Po} (h : ps.length ≤ 8) : chkB t ps = 0 ∨ chkB t ps = 1 := by
  unfold chkB
  rw [if_neg (by omega)]
  split
  · exact .inl rfl
  · exact .inr rfl
theorem tops_row {ps : List Po} {j : Nat} : topsAt ps j = true ↔ ∀ m, m < j → ((poAt ps j).up = 0 ∧ (poAt ps m).up = 0) → mts (poAt ps j).a (poAt ps j).l (poAt ps m).a (poAt ps m).l = false := by
  constructor
  · intro h m hm hu
    cases hx : mts (poAt ps j).a (poAt ps j).l (poAt ps m).a (poAt ps m).l with
    | false => rfl
    | true =>
      have hy : anyAt j (topB ps (poAt ps j).a (poAt ps j).l) = true := any_yes hm (by unfold topB; rw [hu.2, mts_comm, hx]; rfl)
      unfold topsAt at h
      rw [hu.1, hy] at h
      cases h
  · intro h
    unfold topsAt
    cases hu : ((poAt ps j).up == 0) with
    | false => rfl
    | true =>
      have hn : anyAt j (topB ps (poAt ps j).a (poAt ps j).l) = false := any_no fun m hm => by
        unfold topB
        cases hv : ((poAt ps m).up == 0) with
        | false => rfl
        | true =>
          rw [mts_comm, h m hm ⟨by simpa using hu, by simpa using hv⟩]
          rfl
      rw [hn]
      rfl
theorem chk_rows {t : Int} {ps : List Po} (hF : Full ps) (h8 : ps.length ≤ 8) : chkB t ps = 0 ↔ wth t 0 1073741824 = true ∧ ∀ j, j < ps.length → Row1 ps j ∧ Row2 t ps j := by
  constructor
  · intro h
    obtain ⟨-, ht, hi, htop, hp⟩ := chk_ok h
    refine ⟨by unfold wth; simp [ht.1, ht.2], fun j hj => ?_⟩
    obtain ⟨p1, p2, p3, p4⟩ := pool_ok (hp j hj)
    refine ⟨⟨?_, ?_, p1, p2⟩, ?_, fun k hk => ?_, ?_⟩
    · have := ids_ok hi j hj
      unfold wth
      simp [this.1, this.2]
    · cases j with
      | zero => exact .inl rfl
      | succ j =>
        have := ids_lt hi j 0 (by omega)
        exact .inr this
    · rw [up_more hF hj]
      exact p3
    · exact (les_mem (hF j hj)).1 p4 _ (leAt_mem (by rw [hF j hj]; exact hk))
    · unfold topsB at htop
      exact tops_row.1 (List.all_eq_true.1 htop j (List.mem_range.2 hj))
  · rintro ⟨ht, h⟩
    refine chk_yes h8 ?_
    have hi : idsB ps.length ps = true := by
      unfold idsB
      have h1 : risePoB ps = true := risePo_yes fun j hj => by
        unfold risePoAt
        rcases (h j hj).1.2.1 with c | c
        · simp [c]
        · simp [c]
      have h2 : anyAt ps.length (fun i => !wth (poAt ps i).id 1 65536) = false := any_no fun j hj => by rw [(h j hj).1.1]; rfl
      rw [h1, h2]
      rfl
    have htp : topsB ps = true := tops_yes fun j hj => tops_row.2 (h j hj).2.2.2
    have hps : poolsB t ps = true := pools_yes fun j hj => by
      obtain ⟨⟨-, -, r3, r4⟩, s1, s2, -⟩ := h j hj
      rw [up_more hF hj] at s1
      have s3 : lesB t ps (poAt ps j) = true := les_yes s2
      unfold poolB
      rw [r3, r4, s1, s3]
      rfl
    rw [ht, hi, htp, hps]
    rfl
end Go.Proofs.YtpdoonkhnabfjaaGreat
/- A law of my own: a region that draws its order, parted in three: a head that reads, a middle that has one order alone, and the rest. -/
namespace Go.Proofs.YtpdoonkhnabfjaaGreat
open Go.RowKit

/-- What comes behind n waits for something that comes from n on. -/
def fanB (md : Region.Mode) (ops : Array Oper) (n : Nat) : Bool :=
  (List.range ops.size).all fun t => decide (t ≤ n) || (List.range t).any fun s => decide (n ≤ s) && Region.waitsFor md ops t s
theorem fan_waits {md : Region.Mode} {ops : Array Oper} {n : Nat} {listed : Array Bool} (hs : Region.sinkB md ops n = true) (hc : fanB md ops n = true) (inv : HeadInv md ops n listed) :
    ∀ (d i : Nat), n - i = d → i < n → listed.getD i true = false → ∀ t, n ≤ t → t ∉ Region.ready md ops listed := by
  intro d
  induction d using Nat.strongRecOn with
  | _ d ih =>
    intro i hd hi hun t ht hr
    obtain ⟨_, ot, hot, hall⟩ := mem_ready.1 hr
    have htlt : t < ops.size := (Array.getElem?_eq_some_iff.1 hot).1
    by_cases htn : t = n
    · subst htn
      have h1 := List.all_eq_true.1 hs i (List.mem_range.2 hi)
      obtain ⟨j, hj, hj2⟩ := List.any_eq_true.1 h1
      simp only [Bool.and_eq_true, decide_eq_true_eq] at hj2
      obtain ⟨oj, hoj, e, he, hb, hon⟩ := Region.waitsFor_spec hj2.2
      have hjle : j ≤ t := by have := List.mem_range.1 hj; omega
      by_cases hjt : j = t
      · subst hjt
        have : oj = ot := Option.some.inj (hoj.symm.trans hot)
        subst this
        have h2 := hall e he hb
        rw [hon, getD_both hun] at h2
        cases h2
      · cases hl : listed.getD j false with
        | true =>
          have h2 := inv.closed j oj hoj hl e he hb
          rw [hon, getD_both hun] at h2
          cases h2
        | false =>
          have hjs : j < listed.size := by rw [inv.size]; omega
          exact ih (t - j) (by omega) j rfl (by omega) (getD_in hjs hl) t (Nat.le_refl _) hr
    · have h1 := List.all_eq_true.1 hc t (List.mem_range.2 htlt)
      simp only [Bool.or_eq_true, decide_eq_true_eq] at h1
      rcases h1 with h1 | h1
      · omega
      · obtain ⟨s, hs1, hs2⟩ := List.any_eq_true.1 h1
        simp only [Bool.and_eq_true, decide_eq_true_eq] at hs2
        have hst := List.mem_range.1 hs1
        obtain ⟨o', ho', e, he, hb, hon⟩ := Region.waitsFor_spec hs2.2
        have : o' = ot := Option.some.inj (ho'.symm.trans hot)
        subst this
        have h2 := hall e he hb
        rw [hon, getD_both (inv.tail s hs2.1 (by omega))] at h2
        cases h2
/-- What may come up now, and yields in every world of the class, may be taken first. -/
theorem headQ_fan {P : Program} {md : Region.Mode} {ops : Array Oper} {C : World → Prop} {n i : Nat} {oi : Oper} {v : Value} {L : Array Bool → Act → Prop} (hi : ops[i]? = some oi) (hsel : ∀ (j : Nat) (o : Oper) cs b, ops[j]? = some o → o.op ≠ .select cs b)
    (hs : Region.sinkB md ops n = true) (hc : fanB md ops n = true) (hin : i < n) (hL : ∀ listed a, L listed a → ∀ j ∈ Region.ready md ops listed, n ≤ j) (f : Nat) :
    ∀ (listed : Array Bool) (a : Act), HeadInv md ops n listed → (∀ j oj, ops[j]? = some oj → j ≠ i → listed.getD j true = false → (∀ e ∈ oj.after, Region.binds md e = true → e.on ≠ i) → oi.apart ops oj = true) →
      i ∈ Region.ready md ops listed → YieldsIn P ops C oi v a → headQ P md ops C n L f (listed.setIfInBounds i true) (a.put oi.dst v) → headQ P md ops C n L (f + 1) listed a := by
  induction f with
  | zero =>
    intro listed a inv hfree hr hy H
    refine ⟨List.ne_nil_of_mem hr, fun j hj => ?_⟩
    have hjn : j < n := Nat.lt_of_not_le fun h => fan_waits hs hc inv _ i rfl hin (mem_ready.1 hr).1 j h hj
    refine ⟨hjn, ?_⟩
    by_cases e : j = i
    · subst e; exact hy.qOp hi H
    · exact absurd (hL _ _ H j (ready_mono hj e)) (by omega)
  | succ f ih =>
    intro listed a inv hfree hr hy H
    refine ⟨List.ne_nil_of_mem hr, fun j hj => ?_⟩
    have hjn : j < n := Nat.lt_of_not_le fun h => fan_waits hs hc inv _ i rfl hin (mem_ready.1 hr).1 j h hj
    refine ⟨hjn, ?_⟩
    by_cases e : j = i
    · subst e; exact hy.qOp hi H
    obtain ⟨hun, oj, hoj, hall⟩ := mem_ready.1 hj
    have hno : ∀ x ∈ oj.after, Region.binds md x = true → x.on ≠ i := fun x hx hb he => by
      have h1 := hall x hx hb
      rw [he, getD_both (mem_ready.1 hr).1] at h1
      cases h1
    have h2 := qOp_put hoj (hfree j oj hoj e hun hno) (fun cs b => hsel i oi cs b hi) (fun cs b => hsel j oj cs b hoj) hy (H.2 j (ready_mono hj e)).2
    refine qOp_mono (fun a' h3 => ih _ a' (inv.set hj hjn) (fun k ok hk hki hku => ?_) (ready_mono hr (Ne.symm e)) h3.1 ?_) h2
    · refine hfree k ok hk hki ?_
      by_cases hjk : j = k
      · subst hjk; exact hun
      · rw [getD_set_ne true hjk] at hku; exact hku
    · rw [Array.setIfInBounds_comm _ _ e]
      exact h3.2
/-- So many more, from k on, have come up. -/
def doneTo : Nat → Nat → Array Bool → Array Bool
  | 0, _, listed => listed
  | f + 1, k, listed => doneTo f (k + 1) (listed.setIfInBounds k true)
def lexTo (md : Region.Mode) (ops : Array Oper) : Nat → Nat → Array Bool → Bool
  | 0, _, _ => true
  | f + 1, k, listed => (Region.ready md ops listed).contains k && Region.free md ops listed k && lexTo md ops f (k + 1) (listed.setIfInBounds k true)
def seqTo (md : Region.Mode) (ops : Array Oper) : Nat → Nat → Array Bool → Bool
  | 0, _, _ => true
  | g + 1, k, listed => decide (Region.ready md ops listed = [k]) && seqTo md ops g (k + 1) (listed.setIfInBounds k true)
theorem headQ_to {P : Program} {md : Region.Mode} {ops : Array Oper} {C : World → Prop} {n : Nat} {K : Act → Prop} {D : Array Bool} (hsel : Region.noSelect ops = true) (hs : Region.sinkB md ops n = true) (hc : fanB md ops n = true)
    (hD : ∀ j ∈ Region.ready md ops D, n ≤ j) (l : List Oper) :
    ∀ (k : Nat) (listed : Array Bool) (a : Act), (∀ j, j < l.length → l[j]? = ops[k + j]?) → k + l.length = n → HeadInv md ops n listed → lexTo md ops l.length k listed = true → doneTo l.length k listed = D → wpQuiet P ops C K l a →
      headQ P md ops C n (fun listed' a' => listed' = D ∧ K a') l.length listed a := by
  induction l with
  | nil =>
    intro k listed a _ hk _ hB hd h
    exact ⟨hd, h⟩
  | cons o l ih =>
    intro k listed a hl hk inv hB hd h
    have h0 : ops[k]? = some o := by simpa using (hl 0 (by simp)).symm
    simp only [List.length_cons, lexTo, Bool.and_eq_true] at hB
    have hkn : k < n := by simp only [List.length_cons] at hk; omega
    have hr : k ∈ Region.ready md ops listed := by simpa using hB.1.1
    have hq : qOp P ops C k (wpQuiet P ops C K l) a := by unfold qOp; simp only [h0]; exact h
    obtain ⟨v, hy, hK⟩ := yieldsIn_of_qOp h0 hq
    refine headQ_fan h0 (Region.noSelect_spec hsel) hs hc hkn (fun _ _ hL => by rw [hL.1]; exact hD) l.length listed a inv (Region.free_spec h0 hB.1.2) hr hy ?_
    exact ih (k + 1) _ _ (fun j hj => by have := hl (j + 1) (by simp; omega); simpa [Nat.add_assoc, Nat.add_comm 1 j] using this) (by simp only [List.length_cons] at hk; omega) (inv.set hr hkn) hB.2 hd hK
/-- Behind the middle: the rest of the region. -/
def restQ (P : Program) (ops : Array Oper) (g : Nat) (D : Array Bool) (Q : Exit → Act → World → Prop) : Exit → Act → World → Prop
  | .normal, a, w => wpAny P .any ops Q g D a w
  | .exit i, a, w => Q (.exit i) a w
  | .goto i, a, w => Q (.goto i) a w
  | .ret, a, w => Q .ret a w
  | .panic c, a, w => Q (.panic c) a w
  | .outgrown, a, w => Q .outgrown a w
theorem restQ_normal {P : Program} {ops : Array Oper} {g : Nat} {D : Array Bool} {Q : Exit → Act → World → Prop} {a : Act} {w : World} (h : wpAny P .any ops Q g D a w) : restQ P ops g D Q .normal a w := h
theorem upon_rest {P : Program} {ops : Array Oper} {g : Nat} {D : Array Bool} {Q : Exit → Act → World → Prop} {o : Oper} {a : Act} {w : World} {K : Act → World → Prop} (h : o.wp P a w K (restQ P ops g D Q)) : o.wp P a w K Q := by
  unfold Oper.wp at *
  generalize (execOp a.eval o).run P w = r at *
  cases r with
  | ok n w' =>
    cases n <;> simp only [Oper.upon] at h ⊢ <;>
      first
        | exact h
        | exact Calls.mono h (fun e w'' he => by cases e <;> exact he)
  | halt x w' => cases x <;> simp only [Oper.upon] at h ⊢ <;> exact h
theorem wpAny_mid {P : Program} {ops : Array Oper} {g : Nat} {D : Array Bool} {Q : Exit → Act → World → Prop} : ∀ (l : List Oper) (k : Nat) (listed : Array Bool) (a : Act) (w : World), (∀ j, j < l.length → l[j]? = ops[k + j]?) →
    seqTo .any ops l.length k listed = true → doneTo l.length k listed = D → wpList P ops (restQ P ops g D Q) l a w → wpAny P .any ops Q (l.length + g) listed a w
  | [], _, _, _, _, _, _, hd, h => by
    subst hd
    rw [List.length_nil, Nat.zero_add]
    exact h
  | o :: l, k, listed, a, w, hl, hB, hd, h => by
    have h0 : ops[k]? = some o := by simpa using (hl 0 (by simp)).symm
    simp only [List.length_cons, seqTo, Bool.and_eq_true, decide_eq_true_eq] at hB
    rw [List.length_cons, show l.length + 1 + g = (l.length + g) + 1 by omega]
    refine ⟨fun h1 => (by rw [hB.1] at h1; cases h1), fun i hi => ?_⟩
    rw [hB.1] at hi
    have hik : i = k := by simpa using hi
    subst hik
    have hw : wpOp P ops Q i (wpList P ops (restQ P ops g D Q) l) a w := by
      unfold wpOp
      simp only [h0]
      unfold wpList at h
      by_cases hg : Region.wanted o (yielded ops a.tmps) = true
      · rw [if_pos hg] at h ⊢
        exact h.imp upon_rest id
      · rw [if_neg hg] at h ⊢
        exact h
    exact wpOp_mono (fun a' w' h' => wpAny_mid l (i + 1) _ a' w' (fun j hj => by have := hl (j + 1) (by simp; omega); simpa [Nat.add_assoc, Nat.add_comm 1 j] using this) hB.2 hd h') hw
/-- May the region be parted at n and at k? -/
def midB (ops : Array Oper) (n k : Nat) : Bool :=
  Region.noSelect ops && decide (n ≤ k) && decide (k ≤ ops.size) && Region.sinkB .any ops n && fanB .any ops n && lexTo .any ops n 0 (Array.replicate ops.size false) &&
    (Region.ready .any ops (doneTo n 0 (Array.replicate ops.size false))).all (fun j => decide (n ≤ j)) && seqTo .any ops (k - n) n (doneTo n 0 (Array.replicate ops.size false))
theorem wp_region_mid {P : Program} {id : Nat} {Q : Exit → Act → World → Prop} {a : Act} {w : World} {l : List Oper} (m n k : Nat) (hm : P.follows .mixedOrders = true) (hB : midB l.toArray n k = true)
    (h : wpQuiet P l.toArray (fun w' => ∃ u : Ws m w, w' = u.val) (fun a' => ∀ u : Ws m w, wpList P l.toArray (restQ P l.toArray (l.length - k) (doneTo (k - n) n (doneTo n 0 (Array.replicate l.toArray.size false))) Q) ((l.drop n).take (k - n)) a' u.val) (l.take n) a) : (Code.region id l.toArray true).wp P Q a w := by
  simp only [midB, Bool.and_eq_true, decide_eq_true_eq] at hB
  obtain ⟨⟨⟨⟨⟨⟨⟨hsel, hnk⟩, hk⟩, hs⟩, hc⟩, hlex⟩, hD⟩, hseq⟩ := hB
  have hk' : k ≤ l.length := by simpa using hk
  have htl : (l.take n).length = n := by simp; omega
  have hml : ((l.drop n).take (k - n)).length = k - n := by simp; omega
  have hD' : ∀ j ∈ Region.ready .any l.toArray (doneTo n 0 (Array.replicate l.toArray.size false)), n ≤ j := fun j hj => by simpa using List.all_eq_true.1 hD j hj
  have inv0 : HeadInv .any l.toArray n (Array.replicate l.toArray.size false) :=
    ⟨by simp, fun j oj _ hl => (by rw [getD_replicate_false] at hl; cases hl), fun t _ ht => getD_in (by simpa using ht) (getD_replicate_false _ _)⟩
  have H := headQ_to (md := .any) hsel hs hc hD' (l.take n) 0 _ a (fun j hj => by rw [htl] at hj; simp [hj]) (by simpa using htl) inv0 (by rw [htl]; exact hlex) (by rw [htl]) h
  refine wp_region_any hm ?_
  have h2 := headQ_sound (Q := Q) (g := l.toArray.size - n) (C := fun w' => ∃ u : Ws m w, w' = u.val) (fun listed a' w' hw' hL => by
    obtain ⟨u, rfl⟩ := hw'
    obtain ⟨rfl, hL2⟩ := hL
    have h3 := wpAny_mid (Q := Q) ((l.drop n).take (k - n)) n _ a' u.val (fun j hj => by rw [hml] at hj; simp [List.getElem?_drop, hj]) (by rw [hml]; exact hseq) (by rw [hml]) (hL2 u)
    rw [hml] at h3
    rwa [show k - n + (l.length - k) = l.toArray.size - n by simp; omega] at h3) _ _ _ _ ⟨⟨_, (Below.refl m w).drew⟩, rfl⟩ H
  rw [htl, show n + (l.toArray.size - n) = l.toArray.size by simp; omega] at h2
  exact h2
end Go.Proofs.YtpdoonkhnabfjaaGreat
