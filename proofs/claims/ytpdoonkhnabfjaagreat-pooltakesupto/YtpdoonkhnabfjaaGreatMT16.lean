/- What a book that came in is. -/
import Derived.Test.YtpdoonkhnabfjaaGreatMT15
import Derived.Deep.Slices
import Derived.StillTail
import Derived.Deep.RegionHeld3
import Derived.Test.YtpdoonkhnabfjaaGreatMT14
import Derived.Deep.DeepAppendRoom
import Derived.Test.YtpdoonkhnabfjaaGreatMT11
namespace Go.Proofs.YtpdoonkhnabfjaaGreat
open Go.ChangeShapes Go.WideShapes Go.ChangeAt Go.RowKit Go.Joins

theorem bulk_one {H : Type} (d : DataW H) : 1 ≤ Rows.uptoBulk d := by
  cases d with
  | lit l => cases l <;> simp [Rows.uptoBulk]
  | nil => simp [Rows.uptoBulk]
  | ptr d => simp [Rows.uptoBulk]
  | slice es sp => simp [Rows.uptoBulk]
  | agg ps => simp [Rows.uptoBulk]
  | iface t d => simp [Rows.uptoBulk]
  | map es => simp [Rows.uptoBulk]
  | held h => simp [Rows.uptoBulk]
theorem bulk_part {H : Type} {d : DataW H} {l : List (DataW H)} (h : d ∈ l) : Rows.uptoBulk d ≤ Rows.uptoBulkAll l := by
  induction l with
  | nil => cases h
  | cons x r ih =>
    rw [Rows.uptoBulkAll]
    rcases List.mem_cons.1 h with rfl | e
    · omega
    · have := ih e; omega
theorem bulk_len {H : Type} (l : List (DataW H)) : l.length ≤ Rows.uptoBulkAll l := by
  induction l with
  | nil => exact Nat.zero_le _
  | cons x r ih => have := bulk_one x; rw [Rows.uptoBulkAll, List.length_cons]; omega
theorem cellsL : Tryz.prog.cellsOf 55 = 5 := by kernel_rfl
theorem cellsPo : Tryz.prog.cellsOf 49 = 9 := by kernel_rfl
theorem cellsR : Tryz.prog.cellsOf 28 = 4 := by kernel_rfl
theorem cellsLs : Tryz.prog.cellsOf 47 = 1 := by kernel_rfl
theorem cellsPs : Tryz.prog.cellsOf 22 = 1 := by kernel_rfl
theorem cellsB : Tryz.prog.cellsOf 24 = 2 := by kernel_rfl
section
variable {H : Type} {enc : TypeId × Value → H} {w : World}
theorem int_of {n : Nat} {v : Value} {y : Option (DataW H × List MemPlace)} (hy : y.isSome = true) (h : DataW.trod enc Tryz.prog w 0 (fun _ => true) true n 3 [v] = y) : ∃ a : Int, v = .int .i64 a := by
  obtain ⟨y, rfl⟩ := Option.isSome_iff_exists.1 hy
  obtain ⟨a, e, -⟩ := DataW.trod_int Tryz.underlying3 h
  simp at e
  exact ⟨a, e⟩
theorem some_at {α : Type} {xs : List α} {m i : Nat} (h : xs.length = m) (hi : i < m) : (xs[i]?).isSome = true := by
  rw [List.getElem?_eq_getElem (by omega)]
  rfl
set_option maxRecDepth 20000 in
theorem trod_lease {n : Nat} {cs : List Value} {x : DataW H × List MemPlace} (hl : cs.length = 5) (h : DataW.trod enc Tryz.prog w 0 (fun _ => true) true n 55 cs = some x) : ∃ e : Le, cs = cL e := by
  obtain ⟨xs, k, -, -, -, hxl, hf⟩ := DataW.trod_struct Tryz.underlying55 h
  match cs, hl with
  | [v0, v1, v2, v3, v4], _ =>
    have g0 := hf 0 _ rfl
    have g1 := hf 1 _ rfl
    have g2 := hf 2 _ rfl
    have g3 := hf 3 _ rfl
    have y : ∀ i, i < 4 → (xs[i]?).isSome = true := fun i hi => some_at hxl hi
    simp [cells3, cellsP] at g0 g1 g2 g3
    obtain ⟨z0, h0⟩ := Option.isSome_iff_exists.1 (y 0 (by omega))
    rw [h0] at g0
    obtain ⟨a2, rfl⟩ := int_of (y 1 (by omega)) g1
    obtain ⟨a3, rfl⟩ := int_of (y 2 (by omega)) g2
    obtain ⟨a4, rfl⟩ := int_of (y 3 (by omega)) g3
    obtain ⟨us, k4, -, -, -, hul, hu⟩ := DataW.trod_struct Tryz.underlying26 g0
    have p0 := hu 0 _ rfl
    have p1 := hu 1 _ rfl
    simp [cells3] at p0 p1
    obtain ⟨a0, rfl⟩ := int_of (some_at hul (by decide)) p0
    obtain ⟨a1, rfl⟩ := int_of (some_at hul (by decide)) p1
    exact ⟨⟨a0, a1, a2, a3, a4⟩, rfl⟩
set_option maxRecDepth 20000 in
theorem trod_leases {n : Nat} {v : Value} {y : DataW H × List MemPlace} (h : DataW.trod enc Tryz.prog w 0 (fun _ => true) true n 47 [v] = some y) :
    ∃ (x : Option Addr) (k c : Nat) (ls : List Le), v = .slice x k c ∧ LS w x k ls ∧ k ≤ c ∧ k ≤ Rows.uptoBulk y.1 := by
  rcases Deep.open_slice Tryz.underlying47 h with ⟨h0, -⟩ | ⟨a, len, cap, m, k, D, Pl, h1, -, hl, hm, hmm, hx, hcell⟩
  · simp at h0
    exact ⟨none, 0, 0, [], h0, ⟨rfl, fun i hi => by cases hi⟩, by omega, by omega⟩
  · simp at h1
    subst h1
    simp at hmm
    have hmm' := hmm.symm
    subst hmm'
    clear hmm
    have hd : y.1 = .slice ((List.range len).map D) ((List.range (cap - len)).map fun j => D (len + j)) := by rw [hx]
    have hbk : len ≤ Rows.uptoBulk y.1 := by
      rw [hd, Rows.uptoBulk]
      have := bulk_len ((List.range len).map D)
      rw [List.length_map, List.length_range] at this
      omega
    have each : ∀ i, i < cap → ∃ q : Le, ∀ j, j < 5 → w.cell? (a.add (i * 5 + j)) = (cL q)[j]? := fun i hi => by
      obtain ⟨cs', e1, e2⟩ := hcell i hi
      rw [cellsL] at e1
      obtain ⟨-, hlen, hc⟩ := World.cells?_some e1
      obtain ⟨q, rfl⟩ := trod_lease hlen e2
      exact ⟨q, fun j hj => by
        have := hc j hj
        rw [Deep.add_add] at this
        exact this⟩
    have : Inhabited Le := ⟨leZ⟩
    obtain ⟨Q, hQ⟩ := Deep.choose_lt each
    by_cases hn0 : len = 0
    · subst hn0
      exact ⟨some a, 0, cap, [], rfl, ⟨rfl, fun i hi => by cases hi⟩, by omega, by omega⟩
    · have hsp : a.spot = none := by
        have h0 := hQ 0 (by omega) 0 (by omega)
        have h1 : w.cell? (a.add (0 * 5 + 0)) = some (.int .i64 (Q 0).a) := h0
        have := World.cell?_spot h1
        simpa [Addr.add] using this
      obtain ⟨b, o, sp⟩ := a
      simp only at hsp
      subst hsp
      refine ⟨some ⟨b, o, none⟩, len, cap, (List.range len).map Q, rfl, ⟨by simp, fun i hi => ⟨b, o, rfl, ?_⟩⟩, hl, hbk⟩
      have hat : leAt ((List.range len).map Q) i = Q i := by unfold leAt; rw [List.getD_eq_getElem?_getD, List.getElem?_map, List.getElem?_range hi]; rfl
      rw [hat]
      have e : ∀ j, j < 5 → ∀ u, (cL (Q i))[j]? = some u → w.cell? ⟨b, o + i * 5 + j, none⟩ = some u := fun j hj u hu => by
        have := hQ i (by omega) j hj
        rw [addr_add, hu, ← Nat.add_assoc] at this
        exact this
      exact ⟨e 0 (by omega) _ rfl, e 1 (by omega) _ rfl, e 2 (by omega) _ rfl, e 3 (by omega) _ rfl, e 4 (by omega) _ rfl⟩
set_option maxRecDepth 20000 in
theorem trod_pool {n : Nat} {cs : List Value} {x : DataW H × List MemPlace} (hl : cs.length = 9) (h : DataW.trod enc Tryz.prog w 0 (fun _ => true) true n 49 cs = some x) : ∃ p : Po, cs = cP p ∧ LS w p.x p.n p.ls ∧ p.n ≤ p.c ∧ p.n ≤ Rows.uptoBulk x.1 := by
  obtain ⟨xs, k, -, hxx, -, hxl, hf⟩ := DataW.trod_struct Tryz.underlying49 h
  match cs, hl with
  | [v0, v1, v2, v3, v4, v5, v6, v7, v8], _ =>
    have g0 := hf 0 _ rfl
    have g1 := hf 1 _ rfl
    have g2 := hf 2 _ rfl
    have g3 := hf 3 _ rfl
    have g4 := hf 4 _ rfl
    have y : ∀ i, i < 5 → (xs[i]?).isSome = true := fun i hi => some_at hxl hi
    simp [cells3, cellsP, cellsR, cellsLs] at g0 g1 g2 g3 g4
    obtain ⟨a0, rfl⟩ := int_of (y 0 (by omega)) g0
    obtain ⟨a1, rfl⟩ := int_of (y 1 (by omega)) g1
    obtain ⟨z2, h2⟩ := Option.isSome_iff_exists.1 (y 2 (by omega))
    obtain ⟨z3, h3⟩ := Option.isSome_iff_exists.1 (y 3 (by omega))
    obtain ⟨z4, h4⟩ := Option.isSome_iff_exists.1 (y 4 (by omega))
    rw [h2] at g2
    rw [h3] at g3
    rw [h4] at g4
    obtain ⟨us, k4, -, -, -, hul, hu⟩ := DataW.trod_struct Tryz.underlying26 g2
    obtain ⟨ts, k5, -, -, -, htl, ht⟩ := DataW.trod_struct Tryz.underlying28 g3
    have p0 := hu 0 _ rfl
    have p1 := hu 1 _ rfl
    have r0 := ht 0 _ rfl
    have r1 := ht 1 _ rfl
    have r2 := ht 2 _ rfl
    have r3 := ht 3 _ rfl
    simp [cells3] at p0 p1 r0 r1 r2 r3
    obtain ⟨a4, rfl⟩ := int_of (some_at hul (by decide)) p0
    obtain ⟨a5, rfl⟩ := int_of (some_at hul (by decide)) p1
    obtain ⟨a6, rfl⟩ := int_of (some_at htl (by decide)) r0
    obtain ⟨a7, rfl⟩ := int_of (some_at htl (by decide)) r1
    obtain ⟨a8, rfl⟩ := int_of (some_at htl (by decide)) r2
    obtain ⟨a9, rfl⟩ := int_of (some_at htl (by decide)) r3
    obtain ⟨lx, ln, lc, ls, rfl, hLS, hlc, hlb⟩ := trod_leases g4
    refine ⟨⟨a0, a1, a4, a5, a6, a7, a8, a9, lx, ln, lc, ls⟩, rfl, hLS, hlc, ?_⟩
    have hm : z4.1 ∈ xs.map (·.1) := List.mem_map.2 ⟨z4, List.mem_of_getElem? h4, rfl⟩
    have hb := bulk_part hm
    have hx1 : x.1 = .agg (xs.map (·.1)) := by rw [hxx]
    rw [hx1, Rows.uptoBulk]
    show ln ≤ _
    omega
end
set_option maxRecDepth 100000 in
theorem open_book {H : Type} {enc : TypeId × Value → H} {w : World} {r : Reach} {b0 : Nat} {v : Value} {d : DataW H} {p : List MemPlace}
    (hv : Value.okWide Tryz.prog w r b0 24 v) (h : DataW.Trod enc Tryz.prog w 0 (fun _ => true) true 24 v d p) (hbulk : Rows.uptoBulk d ≤ 1048576) :
    ∃ (t : Int) (x : Option Addr) (n c : Nat) (ps : List Po), v = .agg #[.int .i64 t, .slice x n c] ∧ Bk w x n c ps ∧ n ≤ 1048576 := by
  obtain ⟨c0, c1, y0, y1, m0, rfl, hd, -, hy0, hy1⟩ := open_agg2 Tryz.underlying24 (by kernel_rfl) cellsB hv h
  obtain ⟨t, et, -, -⟩ := DataW.trod_int Tryz.underlying3 hy0
  simp at et
  subst et
  have hby : Rows.uptoBulk y1.1 ≤ 1048576 := by
    rw [hd, Rows.uptoBulk, Rows.uptoBulkAll, Rows.uptoBulkAll] at hbulk
    omega
  rcases Deep.open_slice Tryz.underlying22 hy1 with ⟨h0, -⟩ | ⟨a, len, cap, m, k, D, Pl, h1, -, hl, hm, hmm, hx, hcell⟩
  · simp at h0
    subst h0
    exact ⟨t, none, 0, 0, [], rfl, Bk.nil w, by omega⟩
  · simp at h1
    subst h1
    simp at hmm
    have hmm' := hmm.symm
    subst hmm'
    clear hmm
    have hdy : y1.1 = .slice ((List.range len).map D) ((List.range (cap - len)).map fun j => D (len + j)) := by rw [hx]
    rw [hdy, Rows.uptoBulk] at hby
    have hbl := bulk_len ((List.range len).map D)
    rw [List.length_map, List.length_range] at hbl
    have hDb : ∀ i, i < len → Rows.uptoBulk (D i) ≤ 1048576 := fun i hi => by
      have := bulk_part (d := D i) (l := (List.range len).map D) (List.mem_map.2 ⟨i, List.mem_range.2 hi, rfl⟩)
      omega
    have each : ∀ i, i < cap → ∃ q : Po, (∀ j, j < 9 → w.cell? (a.add (i * 9 + j)) = (cP q)[j]?) ∧ LS w q.x q.n q.ls ∧ q.n ≤ q.c ∧ q.n ≤ Rows.uptoBulk (D i) := fun i hi => by
      obtain ⟨cs', e1, e2⟩ := hcell i hi
      rw [cellsPo] at e1
      obtain ⟨-, hlen, hc⟩ := World.cells?_some e1
      obtain ⟨q, rfl, hq⟩ := trod_pool hlen e2
      exact ⟨q, fun j hj => by
        have := hc j hj
        rw [Deep.add_add] at this
        exact this, hq⟩
    have : Inhabited Po := ⟨poZ⟩
    obtain ⟨Q, hQ⟩ := Deep.choose_lt each
    have hmax : cap ≤ 9223372036854775807 := by unfold maxLen at hm; omega
    by_cases hn0 : len = 0
    · subst hn0
      exact ⟨t, some a, 0, cap, [], rfl, ⟨⟨rfl, fun i hi => by omega, fun i hi => by omega⟩, by omega, hmax⟩, by omega⟩
    · have hsp : a.spot = none := by
        have h0 := (hQ 0 (by omega)).1 0 (by omega)
        have h1 : w.cell? (a.add (0 * 9 + 0)) = some (.int .i64 (Q 0).id) := h0
        have := World.cell?_spot h1
        simpa [Addr.add] using this
      obtain ⟨b, o, sp⟩ := a
      simp only at hsp
      subst hsp
      have hat : ∀ i, i < len → poAt ((List.range len).map Q) i = Q i := fun i hi => by unfold poAt; rw [List.getD_eq_getElem?_getD, List.getElem?_map, List.getElem?_range hi]; rfl
      refine ⟨t, some ⟨b, o, none⟩, len, cap, (List.range len).map Q, rfl, ⟨⟨by simp, fun i hi => ⟨b, o, rfl, ?_⟩, fun i hi => ?_⟩, hl, hmax⟩, by omega⟩
      · rw [hat i hi]
        have e : ∀ j, j < 9 → ∀ u, (cP (Q i))[j]? = some u → w.cell? ⟨b, o + i * 9 + j, none⟩ = some u := fun j hj u hu => by
          have := (hQ i (by omega)).1 j hj
          rw [addr_add, hu, ← Nat.add_assoc] at this
          exact this
        exact ⟨e 0 (by omega) _ rfl, e 1 (by omega) _ rfl, e 2 (by omega) _ rfl, e 3 (by omega) _ rfl, e 4 (by omega) _ rfl, e 5 (by omega) _ rfl, e 6 (by omega) _ rfl, e 7 (by omega) _ rfl, e 8 (by omega) _ rfl⟩
      · rw [hat i hi]
        obtain ⟨-, q1, q2, q3⟩ := hQ i (by omega)
        exact ⟨q2, Nat.le_trans q3 (hDb i hi), q1⟩
end Go.Proofs.YtpdoonkhnabfjaaGreat
/- What keeps a book right; and what comes of cooling. -/
namespace Go.Proofs.YtpdoonkhnabfjaaGreat
open Go.RowKit Go.Shelf

theorem all_same {n : Nat} {f g : Nat → Bool} (h : ∀ i, i < n → f i = g i) : (List.range n).all f = (List.range n).all g := by
  rw [Bool.eq_iff_iff, List.all_eq_true, List.all_eq_true]
  exact ⟨fun k i hi => by rw [← h i (List.mem_range.1 hi)]; exact k i hi, fun k i hi => by rw [h i (List.mem_range.1 hi)]; exact k i hi⟩
theorem any_same {n : Nat} {f g : Nat → Bool} (h : ∀ i, i < n → f i = g i) : anyAt n f = anyAt n g := by
  unfold anyAt
  rw [Bool.eq_iff_iff, List.any_eq_true, List.any_eq_true]
  exact ⟨fun ⟨i, hi, k⟩ => ⟨i, hi, by rw [← h i (List.mem_range.1 hi)]; exact k⟩, fun ⟨i, hi, k⟩ => ⟨i, hi, by rw [h i (List.mem_range.1 hi)]; exact k⟩⟩
/-- The same but for the leases. -/
def sameH (p q : Po) : Prop := p.id = q.id ∧ p.up = q.up ∧ p.a = q.a ∧ p.l = q.l ∧ p.mn = q.mn ∧ p.mx = q.mx ∧ p.us = q.us ∧ p.co = q.co
def sameHs (ps qs : List Po) : Prop := ps.length = qs.length ∧ ∀ i, i < ps.length → sameH (poAt ps i) (poAt qs i)
theorem sameP.head {p q : Po} (h : sameP p q) : sameH p q := ⟨h.1, h.2.1, h.2.2.1, h.2.2.2.1, h.2.2.2.2.1, h.2.2.2.2.2.1, h.2.2.2.2.2.2.1, h.2.2.2.2.2.2.2.1⟩
theorem sameH.trans {p q r : Po} (h : sameH p q) (g : sameH q r) : sameH p r :=
  ⟨h.1.trans g.1, h.2.1.trans g.2.1, h.2.2.1.trans g.2.2.1, h.2.2.2.1.trans g.2.2.2.1, h.2.2.2.2.1.trans g.2.2.2.2.1, h.2.2.2.2.2.1.trans g.2.2.2.2.2.1, h.2.2.2.2.2.2.1.trans g.2.2.2.2.2.2.1, h.2.2.2.2.2.2.2.trans g.2.2.2.2.2.2.2⟩
theorem sameH.withL {p q : Po} (h : sameH p q) (x : Option Addr) (n c : Nat) (ls : List Le) : sameH p (withL q x n c ls) := h
theorem atId_head {ps qs : List Po} (h : sameHs ps qs) (id : Int) : atId qs id = atId ps id := by
  by_cases h1 : atId ps id < 0
  · have h2 := atId_none h1
    rw [atId_no (ps := ps) h2, atId_no]
    intro j hj
    rw [← h.1] at hj
    rw [← (h.2 j hj).1]
    exact h2 j hj
  · obtain ⟨i, hi, hat, -⟩ := atId_range h1
    obtain ⟨-, h3, h4⟩ := atId_first hat
    rw [hat]
    refine atId_yes (by rw [← h.1]; exact hi) (by rw [← (h.2 i hi).1]; exact h3) (fun j hj => ?_)
    rw [← (h.2 j (by omega)).1]
    exact h4 j hj
theorem ids_head {ps qs : List Po} (h : sameHs ps qs) : idsB qs.length qs = idsB ps.length ps := by
  unfold idsB risePoB
  rw [← h.1]
  congr 1
  · refine all_same fun i hi => ?_
    unfold risePoAt
    rw [(h.2 i hi).1, (h.2 (i - 1) (by omega)).1]
  · congr 1
    refine any_same fun i hi => ?_
    rw [(h.2 i hi).1]
theorem tops_head {ps qs : List Po} (h : sameHs ps qs) : topsB qs = topsB ps := by
  unfold topsB
  rw [← h.1]
  refine all_same fun i hi => ?_
  obtain ⟨-, h2, h3, h4, -⟩ := h.2 i hi
  unfold topsAt
  rw [h2, h3, h4]
  congr 2
  refine any_same fun j hj => ?_
  obtain ⟨-, g2, g3, g4, -⟩ := h.2 j (by omega)
  unfold topB
  rw [g2, g3, g4]
theorem leB_head {ps qs : List Po} (h : sameHs ps qs) (t id : Int) (e : Le) : leB t qs id e = leB t ps id e := by
  unfold leB
  rw [atId_head h]
  by_cases h1 : e.kd = 1
  · rw [if_pos h1, if_pos h1]
  · rw [if_neg h1, if_neg h1]
    by_cases h2 : e.kd = 2
    · rw [if_pos h2, if_pos h2]
      by_cases h3 : atId ps e.ow < 0
      · rw [if_pos h3, if_pos h3]
      · rw [if_neg h3, if_neg h3]
        obtain ⟨i, hi, hat, -⟩ := atId_range h3
        rw [hat]
        obtain ⟨-, g2, g3, g4, -⟩ := h.2 i hi
        unfold le2
        rw [Int.toNat_natCast, g2, g3, g4]
    · rw [if_neg h2, if_neg h2]
theorem leAt_mem {ls : List Le} {i : Nat} (hi : i < ls.length) : leAt ls i ∈ ls := by
  unfold leAt
  rw [List.getD_eq_getElem?_getD, List.getElem?_eq_getElem hi]
  exact List.getElem_mem hi
theorem mem_leAt {ls : List Le} {e : Le} (h : e ∈ ls) : ∃ i, i < ls.length ∧ leAt ls i = e := by
  obtain ⟨i, hi, rfl⟩ := List.mem_iff_getElem.1 h
  exact ⟨i, hi, by unfold leAt; rw [List.getD_eq_getElem?_getD, List.getElem?_eq_getElem hi]; rfl⟩
theorem for_mem {ls : List Le} {id : Int} {n : Nat} (hn : ls.length = n) : anyAt n (forB ls id) = true ↔ ∃ e ∈ ls, e.kd = 2 ∧ e.ow = id := by
  constructor
  · intro h
    obtain ⟨i, hi, hf, -⟩ := least_at h
    unfold forB at hf
    simp only [Bool.and_eq_true, beq_iff_eq] at hf
    exact ⟨_, leAt_mem (by omega), hf⟩
  · rintro ⟨e, he, h1, h2⟩
    obtain ⟨i, hi, rfl⟩ := mem_leAt he
    refine any_yes (k := i) (by rw [← hn]; exact hi) ?_
    unfold forB
    rw [h1, h2]
    simp
/-- Each pool's number of leases is what its slice says. -/
def Full (ps : List Po) : Prop := ∀ i, i < ps.length → (poAt ps i).ls.length = (poAt ps i).n
theorem up_keeps {ps qs : List Po} (h : sameHs ps qs) (hp : Full ps) (hq : Full qs) (h2 : ∀ k, k < ps.length → ∀ e ∈ (poAt ps k).ls, e.kd = 2 → e ∈ (poAt qs k).ls) (f : Nat) :
    ∀ p q : Po, sameH p q → upB ps f p = true → upB qs f q = true := by
  induction f with
  | zero => intro p q _ h1; cases h1
  | succ f ih =>
    intro p q hpq h1
    obtain ⟨e1, e2, -⟩ := hpq
    unfold upB at h1 ⊢
    rw [← e1, ← e2]
    by_cases c1 : p.up = 0
    · rw [if_pos c1]
    · rw [if_neg c1] at h1 ⊢
      rw [atId_head h]
      by_cases c2 : atId ps p.up < 0
      · rw [if_pos c2] at h1; cases h1
      · rw [if_neg c2] at h1 ⊢
        obtain ⟨i, hi, hat, -⟩ := atId_range c2
        rw [hat] at h1 ⊢
        rw [Int.toNat_natCast] at h1 ⊢
        by_cases c3 : anyAt (poAt ps i).n (forB (poAt ps i).ls p.id) = true
        · rw [if_pos c3] at h1
          obtain ⟨e, he, k1, k2⟩ := (for_mem (hp i hi)).1 c3
          rw [if_pos ((for_mem (hq i (by rw [← h.1]; exact hi))).2 ⟨e, h2 i hi e he k1, k1, k2⟩)]
          exact ih _ _ (h.2 i hi) h1
        · rw [if_neg c3] at h1; cases h1
theorem les_mem {t : Int} {ps : List Po} {p : Po} (hn : p.ls.length = p.n) : lesB t ps p = true ↔ ∀ e ∈ p.ls, leB t ps p.id e = true := by
  unfold lesB
  rw [List.all_eq_true]
  constructor
  · intro h e he
    obtain ⟨i, hi, rfl⟩ := mem_leAt he
    exact h i (List.mem_range.2 (by omega))
  · intro h i hi
    exact h _ (leAt_mem (by have := List.mem_range.1 hi; omega))
/-- A book stays right: its pools are the same but for their leases; these are apart, and right. -/
theorem chk_keeps {t T : Int} {ps qs : List Po} (hc : chkB t ps = 0) (hT0 : 0 ≤ T) (hT1 : T ≤ 1073741824) (h : sameHs ps qs) (hp : Full ps) (hq : Full qs) (hn : ∀ k, k < ps.length → (poAt qs k).n ≤ 32) (hU : ∀ k, k < ps.length → Used (lp (poAt qs k).ls) (poAt ps k).a (poAt ps k).l)
    (h2 : ∀ k, k < ps.length → ∀ e ∈ (poAt ps k).ls, e.kd = 2 → e ∈ (poAt qs k).ls) (hL : ∀ k, k < ps.length → ∀ e ∈ (poAt qs k).ls, leB T ps (poAt ps k).id e = true) : chkB T qs = 0 := by
  obtain ⟨h8, -, hi, ht, hpo⟩ := chk_ok hc
  refine chk_yes (by rw [← h.1]; exact h8) ?_
  have hw : wth T 0 1073741824 = true := by unfold wth; simp [hT0, hT1]
  rw [hw, ids_head h, hi, tops_head h, ht]
  simp only [Bool.true_and]
  refine pools_yes fun j hj => ?_
  have hj2 : j < ps.length := by rw [h.1]; exact hj
  obtain ⟨p1, p2, p3, p4⟩ := pool_ok (hpo j hj2)
  obtain ⟨e1, e2, e3, e4, e5, e6, e7, e8⟩ := h.2 j hj2
  obtain ⟨-, hrt, -⟩ := chkS_ok p1
  unfold poolB
  have k1 : chkS (poAt qs j).a (poAt qs j).l (poAt qs j).n (lp (poAt qs j).ls) = 0 := by
    unfold chkS
    rw [if_neg (by have := hn j hj2; omega), ← e3, ← e4, hrt, apart_of (hU j hj2)]
    rfl
  have k3 : upB qs qs.length (poAt qs j) = true := by
    rw [← h.1]
    exact up_keeps h hp hq h2 _ _ _ (h.2 j hj2) p3
  have k4 : lesB T qs (poAt qs j) = true := (les_mem (hq j hj)).2 fun e he => by
    rw [leB_head h, ← e1]
    exact hL j hj2 e he
  rw [k1, k3, k4, ← e4, ← e5, ← e6, ← e7, ← e8, p2]
  rfl
theorem used_filter {ls : List Le} {a l : Int} {f : Le → Bool} (h : Used (lp ls) a l) : Used (lp (ls.filter f)) a l := by
  unfold lp at h ⊢
  refine ⟨fun u hu => ?_, ?_⟩
  · obtain ⟨e, he, rfl⟩ := List.mem_map.1 hu
    exact h.inn _ (List.mem_map.2 ⟨e, (List.mem_filter.1 he).1, rfl⟩)
  · have := h.rise
    rw [List.pairwise_map] at this ⊢
    exact this.filter f
theorem used_mem {t : Int} {ps : List Po} (hc : chkB t ps = 0) (i : Nat) (hi : i < ps.length) : Used (lp (poAt ps i).ls) (poAt ps i).a (poAt ps i).l := by
  obtain ⟨-, -, -, -, hp⟩ := chk_ok hc
  exact used_of (chkS_ok (pool_ok (hp i hi)).1).2.2
/-- What Pass leaves is right. -/
theorem pass_right {t m : Int} {ps qs rs : List Po} (hc : chkB t ps = 0) (hf : Full ps) (hm : 1 ≤ m) (hm1 : t + m ≤ 1073741824) (hs : sameB ps qs) (hp : PassTo (t + m) qs qs.length rs) :
    chkB (t + m) rs = 0 ∧ sameHs ps rs ∧ Full rs ∧ ∀ k, k < ps.length → (poAt rs k).ls = passL (t + m) (poAt ps k).ls := by
  have hl : ∀ k, k < ps.length → k < qs.length := fun k hk => by rw [← hs.1]; exact hk
  have hls : ∀ k, k < ps.length → (poAt rs k).ls = passL (t + m) (poAt ps k).ls ∧ (poAt rs k).n = (passL (t + m) (poAt ps k).ls).length ∧ sameH (poAt ps k) (poAt rs k) := fun k hk => by
    obtain ⟨x, c, e⟩ := (hp.2 k (hl k hk)).1 (hl k hk)
    rw [e, (hs.2 k hk).2.2.2.2.2.2.2.2.2]
    exact ⟨rfl, rfl, (hs.2 k hk).head⟩
  have hH : sameHs ps rs := ⟨hs.1.trans hp.1.symm, fun k hk => (hls k hk).2.2⟩
  have hF : Full rs := fun k hk => by
    have hk2 : k < ps.length := by rw [hH.1]; exact hk
    rw [(hls k hk2).1, (hls k hk2).2.1]
  obtain ⟨-, ⟨ht0, ht1⟩, -, -, hpo⟩ := chk_ok hc
  refine ⟨chk_keeps hc (by omega) hm1 hH hf hF (fun k hk => ?_) (fun k hk => ?_) (fun k hk e he h2 => ?_) (fun k hk e he => ?_), hH, hF, fun k hk => (hls k hk).1⟩
  · rw [(hls k hk).2.1]
    have h1 := (chk_pool hc k hk).1
    have h2 := List.length_filter_le (fun e => !cooled (t + m) e) (poAt ps k).ls
    have h3 := hf k hk
    unfold passL
    omega
  · rw [(hls k hk).1]
    exact used_filter (used_mem hc k hk)
  · rw [(hls k hk).1]
    refine List.mem_filter.2 ⟨he, ?_⟩
    unfold cooled
    rw [h2]
    rfl
  · rw [(hls k hk).1] at he
    obtain ⟨he1, he2⟩ := List.mem_filter.1 he
    have h4 := (les_mem (hf k hk)).1 (pool_ok (hpo k hk)).2.2.2 e he1
    unfold leB at h4 ⊢
    by_cases c1 : e.kd = 1
    · rw [if_pos c1] at h4 ⊢; exact h4
    · rw [if_neg c1] at h4 ⊢
      by_cases c2 : e.kd = 2
      · rw [if_pos c2] at h4 ⊢; exact h4
      · rw [if_neg c2] at h4 ⊢
        by_cases c3 : e.kd = 3
        · rw [if_pos c3] at h4 ⊢
          unfold cooled at he2
          rw [c3] at he2
          simp only [Bool.and_eq_true, decide_eq_true_eq, beq_self_eq_true, Bool.true_and, Bool.not_eq_true', decide_eq_false_iff_not] at h4 he2 ⊢
          exact ⟨h4.1, by omega, by omega⟩
        · rw [if_neg c3] at h4; cases h4
end Go.Proofs.YtpdoonkhnabfjaaGreat
/- The mathematics of PoolCools. -/
namespace Go.Proofs.YtpdoonkhnabfjaaGreat
open Go.RowKit Go.Shelf

theorem give_ok {t : Int} {ps : List Po} {id a l : Int} (h : giveE t ps id a l = 0) : chkB t ps = 0 ∧ ∃ i j : Nat, i < ps.length ∧ atId ps id = i ∧ j < (poAt ps i).n ∧ firstAt (poAt ps i).n (useB (poAt ps i).ls a l) = j ∧ (leAt (poAt ps i).ls j).kd = 1 ∧ (leAt (poAt ps i).ls j).a = a ∧ (leAt (poAt ps i).ls j).l = l := by
  unfold giveE at h
  by_cases h1 : chkB t ps = 0
  · refine ⟨h1, ?_⟩
    rw [if_neg (by simp [h1])] at h
    by_cases h2 : atId ps id < 0
    · rw [if_pos h2] at h; cases h
    · rw [if_neg h2] at h
      obtain ⟨i, hi, hat, -⟩ := atId_range h2
      rw [hat, Int.toNat_natCast] at h
      by_cases h3 : firstAt (poAt ps i).n (useB (poAt ps i).ls a l) < 0
      · rw [if_pos h3] at h; cases h
      · obtain ⟨j, hj, hf, hu⟩ := firstAt_range h3
        unfold useB at hu
        simp only [Bool.and_eq_true, beq_iff_eq, decide_eq_true_eq] at hu
        exact ⟨i, j, hi, hat, hj, hf, hu.1, hu.2.1, hu.2.2⟩
  · rw [if_pos h1] at h; exact absurd h h1
theorem give_like {ps rs : List Po} {i j : Nat} {t : Int} (h : CoolAt ps i j t rs) (hf : Full ps) (hi : i < ps.length) : sameHs ps rs ∧ Full rs ∧ (poAt rs i).ls = coolL (poAt ps i) j t := by
  obtain ⟨qs, x', c', hs, rfl⟩ := h
  have hi2 : i < qs.length := by rw [← hs.1]; exact hi
  have hat : ∀ k, poAt (qs.set i (withL (poAt qs i) x' (coolL (poAt ps i) j t).length c' (coolL (poAt ps i) j t))) k = if i = k then withL (poAt qs i) x' (coolL (poAt ps i) j t).length c' (coolL (poAt ps i) j t) else poAt qs k := fun k => poAt_set hi2
  refine ⟨⟨by rw [List.length_set]; exact hs.1, fun k hk => ?_⟩, fun k hk => ?_, ?_⟩
  · rw [hat]
    by_cases e : i = k
    · rw [if_pos e]
      subst e
      exact (hs.2 i hi).head
    · rw [if_neg e]
      exact (hs.2 k hk).head
  · rw [List.length_set] at hk
    rw [hat]
    by_cases e : i = k
    · rw [if_pos e]; rfl
    · rw [if_neg e]
      have hk2 : k < ps.length := by rw [hs.1]; exact hk
      have h1 := (hs.2 k hk2).2.2.2.2.2.2.2.2
      rw [← h1.1, ← h1.2]
      exact hf k hk2
  · rw [hat, if_pos rfl]
    rfl
/-- What fits in a right pool: free, and nothing that is free lies ahead of it. -/
theorem fit_free {t : Int} {ps : List Po} {i : Nat} {z : Int} (hc : chkB t ps = 0) (hi : i < ps.length) (h : pfitE (poAt ps i) z = 0) :
    ∃ x, pfitO (poAt ps i) z = (x, z) ∧ okFit (lp (poAt ps i).ls) (poAt ps i).a (poAt ps i).l z x ∧ ∀ y, okFit (lp (poAt ps i).ls) (poAt ps i).a (poAt ps i).l z y → x ≤ y := by
  obtain ⟨-, -, -, -, hp⟩ := chk_ok hc
  obtain ⟨h1, h2, -, -⟩ := pool_ok (hp i hi)
  obtain ⟨r1, r2, r3, r4, -, -⟩ := rule_ok h2
  obtain ⟨-, hrt, -⟩ := chkS_ok h1
  unfold pfitE at h
  unfold pfitO
  by_cases hz : z < (poAt ps i).mn ∨ (poAt ps i).mx < z
  · rw [if_pos hz] at h; cases h
  · rw [if_neg hz] at h ⊢
    cases hq : pfitS (poAt ps i) z with
    | none => rw [hq] at h; cases h
    | some y =>
      refine ⟨y, rfl, ?_⟩
      unfold pfitS at hq
      by_cases hn : (poAt ps i).n = 32
      · rw [if_pos hn] at hq; cases hq
      · rw [if_neg hn] at hq
        unfold fitS at hq
        have hE : fitE (poAt ps i).a (poAt ps i).l (poAt ps i).n (lp (poAt ps i).ls) z = 0 := by
          unfold fitE
          rw [if_pos h1, if_neg (by omega)]
        rw [if_pos hE] at hq
        have hF := fit_hol (z := z) (hol_are (lp (poAt ps i).ls) (16 - (poAt ps i).l).toNat (poAt ps i).a (poAt ps i).l hrt (by omega)) (by omega)
        rw [hq] at hF
        exact hF
/-- What is free can be had. -/
theorem free_fit {t : Int} {ps : List Po} {i : Nat} {z y : Int} (hc : chkB t ps = 0) (hi : i < ps.length) (hn : (poAt ps i).n ≠ 32) (hz1 : (poAt ps i).mn ≤ z) (hz2 : z ≤ (poAt ps i).mx) (hy : okFit (lp (poAt ps i).ls) (poAt ps i).a (poAt ps i).l z y) : pfitE (poAt ps i) z = 0 := by
  obtain ⟨-, -, -, -, hp⟩ := chk_ok hc
  obtain ⟨h1, h2, -, -⟩ := pool_ok (hp i hi)
  obtain ⟨r1, r2, r3, r4, -, -⟩ := rule_ok h2
  obtain ⟨-, hrt, -⟩ := chkS_ok h1
  unfold pfitE
  rw [if_neg (by omega)]
  cases hq : pfitS (poAt ps i) z with
  | some y => rfl
  | none =>
    unfold pfitS at hq
    rw [if_neg hn] at hq
    unfold fitS at hq
    have hE : fitE (poAt ps i).a (poAt ps i).l (poAt ps i).n (lp (poAt ps i).ls) z = 0 := by
      unfold fitE
      rw [if_pos h1, if_neg (by omega)]
    rw [if_pos hE] at hq
    have hF := fit_hol (z := z) (hol_are (lp (poAt ps i).ls) (16 - (poAt ps i).l).toNat (poAt ps i).a (poAt ps i).l hrt (by omega)) (by omega)
    rw [hq] at hF
    exact absurd hy (hF y)
theorem take0 {t : Int} {ps : List Po} {id z ow : Int} (h : takeE t ps id z ow = 0) : chkB t ps = 0 ∧ ¬ atId ps id < 0 ∧ wth ow 1 65536 = true ∧ pfitE (poAt ps (atId ps id).toNat) (sizeZ (poAt ps (atId ps id).toNat) z) = 0 := by
  unfold takeE at h
  by_cases h1 : chkB t ps = 0
  · rw [if_neg (by simp [h1])] at h
    by_cases h2 : atId ps id < 0
    · rw [if_pos h2] at h; cases h
    · rw [if_neg h2] at h
      by_cases h3 : wth ow 1 65536 = false
      · rw [if_pos h3] at h; cases h
      · rw [if_neg h3] at h
        exact ⟨h1, h2, by simpa using h3, h⟩
  · rw [if_pos h1] at h; exact absurd h h1
theorem mtsAny_mem {a l : Int} {ls : List Le} (h : mtsAny a l (lp ls) = false) {e : Le} (he : e ∈ ls) : mts a l e.a e.l = false := by
  cases hm : mts a l e.a e.l with
  | false => rfl
  | true =>
    have hmem : (e.a, e.l) ∈ lp ls := List.mem_map.2 ⟨e, he, rfl⟩
    have := mtsAny_iff.2 ⟨_, hmem, hm⟩
    rw [this] at h; cases h
theorem mtsAny_none {a l : Int} {ls : List Le} (h : ∀ e ∈ ls, mts a l e.a e.l = false) : mtsAny a l (lp ls) = false := by
  cases hm : mtsAny a l (lp ls) with
  | false => rfl
  | true =>
    obtain ⟨u, hu, h1⟩ := mtsAny_iff.1 hm
    obtain ⟨e, he, rfl⟩ := List.mem_map.1 hu
    rw [h e he] at h1
    cases h1
theorem leAt_eq {ls : List Le} {i : Nat} (hi : i < ls.length) : leAt ls i = ls[i] := by
  unfold leAt
  rw [List.getD_eq_getElem?_getD, List.getElem?_eq_getElem hi]
  rfl
/-- The others of a right pool's leases do not meet that one. -/
theorem others_apart {ls : List Le} {a l : Int} {j : Nat} (h : Used (lp ls) a l) (hj : j < ls.length) : ∀ e ∈ ls.take j ++ ls.drop (j + 1), mts (leAt ls j).a (leAt ls j).l e.a e.l = false := by
  intro e he
  have hr := h.rise
  unfold lp at hr
  rw [List.pairwise_map, List.pairwise_iff_getElem] at hr
  cases hm : mts (leAt ls j).a (leAt ls j).l e.a e.l with
  | false => rfl
  | true =>
    obtain ⟨-, -, m1, m2⟩ := mts_nums hm
    rw [leAt_eq hj] at m1 m2
    rcases List.mem_append.1 he with h1 | h1
    · obtain ⟨k, hk, rfl⟩ := List.mem_iff_getElem.1 h1
      rw [List.length_take] at hk
      have := hr k j (by omega) hj (by omega)
      simp only at this
      rw [List.getElem_take] at m1 m2
      omega
    · obtain ⟨k, hk, rfl⟩ := List.mem_iff_getElem.1 h1
      rw [List.length_drop] at hk
      have := hr j (j + 1 + k) hj (by omega) (by omega)
      simp only at this
      rw [List.getElem_drop] at m1 m2
      omega
theorem cool_filter {p : Po} {j : Nat} {t T : Int} (hj : j < p.ls.length) (hT : t + p.co ≤ T) : passL T (coolL p j t) = passL T (p.ls.take j ++ p.ls.drop (j + 1)) := by
  unfold coolL
  by_cases h : p.co = 0
  · rw [if_pos h]
  · rw [if_neg h, List.set_eq_take_append_cons_drop, if_pos hj]
    unfold passL
    rw [List.filter_append, List.filter_append, List.filter_cons]
    have : cooled T ⟨(leAt p.ls j).a, (leAt p.ls j).l, 3, 0, t + p.co⟩ = true := by
      unfold cooled
      simp [hT]
    rw [this]
    rfl
/-- Before it has cooled, what came back meets nothing that is taken. -/
theorem cool_apart {t m : Int} {ps rs us : List Po} {id a l z ow : Int} {i j : Nat} (hi : i < ps.length) (hat : atId ps id = i) (hj : j < (poAt ps i).n) (ha : (leAt (poAt ps i).ls j).a = a) (hl : (leAt (poAt ps i).ls j).l = l) (hf : Full ps)
    (hcool : CoolAt ps i j t rs) (hm : 1 ≤ m) (hm2 : m < (poAt ps i).co) (hH : sameHs rs us) (hls : (poAt us i).ls = passL (t + m) (poAt rs i).ls) (hE : takeE (t + m) us id z ow = 0) :
    mts a l (pfitO (poAt us (atId us id).toNat) (sizeZ (poAt us (atId us id).toNat) z)).1 (pfitO (poAt us (atId us id).toNat) (sizeZ (poAt us (atId us id).toNat) z)).2 = false := by
  obtain ⟨g1, g2, g3⟩ := give_like hcool hf hi
  have hau : atId us id = i := (atId_head hH id).trans ((atId_head g1 id).trans hat)
  obtain ⟨k1, -, -, k4⟩ := take0 hE
  rw [hau, Int.toNat_natCast] at k4 ⊢
  have hiu : i < us.length := by rw [← hH.1, ← g1.1]; exact hi
  obtain ⟨x, e1, e2, -⟩ := fit_free k1 hiu k4
  rw [e1]
  have hjl : j < (poAt ps i).ls.length := by rw [hf i hi]; exact hj
  have hmem : (⟨a, l, 3, 0, t + (poAt ps i).co⟩ : Le) ∈ (poAt us i).ls := by
    rw [hls, g3]
    refine List.mem_filter.2 ⟨?_, ?_⟩
    · unfold coolL
      rw [if_neg (by omega), ha, hl]
      exact List.mem_set hjl _
    · unfold cooled
      simp
      omega
  rw [mts_comm]
  exact mtsAny_mem e2.2 hmem
/-- When it has cooled, it can be had again. -/
theorem cool_again {t m : Int} {ps rs us : List Po} {id a l : Int} {i j : Nat} (hc : chkB t ps = 0) (hi : i < ps.length) (hat : atId ps id = i) (hj : j < (poAt ps i).n) (ha : (leAt (poAt ps i).ls j).a = a) (hl : (leAt (poAt ps i).ls j).l = l) (hf : Full ps)
    (hcool : CoolAt ps i j t rs) (hm2 : (poAt ps i).co ≤ m) (hmn : (poAt ps i).mn ≤ l) (hmx : l ≤ (poAt ps i).mx) (hcu : chkB (t + m) us = 0) (hH : sameHs rs us) (hfu : Full us) (hls : (poAt us i).ls = passL (t + m) (poAt rs i).ls) :
    takeE (t + m) us id l 1 = 0 ∧ (pfitO (poAt us (atId us id).toNat) (sizeZ (poAt us (atId us id).toNat) l)).1 ≤ a := by
  obtain ⟨g1, g2, g3⟩ := give_like hcool hf hi
  have hau : atId us id = i := (atId_head hH id).trans ((atId_head g1 id).trans hat)
  have hiu : i < us.length := by rw [← hH.1, ← g1.1]; exact hi
  have hsh := (g1.2 i hi).trans (hH.2 i (by rw [← g1.1]; exact hi))
  obtain ⟨s1, s2, s3, s4, s5, s6, s7, s8⟩ := hsh
  have hjl : j < (poAt ps i).ls.length := by rw [hf i hi]; exact hj
  have hls2 : (poAt us i).ls = passL (t + m) ((poAt ps i).ls.take j ++ (poAt ps i).ls.drop (j + 1)) := by
    rw [hls, g3, cool_filter hjl (by omega)]
  have hU := used_mem hc i hi
  have hno : mtsAny a l (lp (poAt us i).ls) = false := mtsAny_none fun e he => by
    rw [hls2] at he
    have := others_apart hU hjl e (List.mem_filter.1 he).1
    rw [ha, hl] at this
    exact this
  have hin : ins a l (poAt us i).a (poAt us i).l = true := by
    have := hU.inn _ (List.mem_map.2 ⟨_, leAt_mem hjl, rfl⟩)
    rw [← s3, ← s4, ← ha, ← hl]
    exact this
  have hn : (poAt us i).n ≠ 32 := by
    rw [← hfu i hiu, hls2]
    have h1 := List.length_filter_le (fun e => !cooled (t + m) e) ((poAt ps i).ls.take j ++ (poAt ps i).ls.drop (j + 1))
    have h2 := (chk_pool hc i hi).1
    have h3 := hf i hi
    rw [List.length_append, List.length_take, List.length_drop] at h1
    unfold passL
    omega
  obtain ⟨-, -, -, -, hp⟩ := chk_ok hcu
  obtain ⟨-, hru, -, -⟩ := pool_ok (hp i hiu)
  obtain ⟨r1, r2, r3, r4, -, -⟩ := rule_ok hru
  obtain ⟨ra, rb, n1, n2, n3⟩ := ins_nums hin
  have hl0 : 0 ≤ (poAt us i).l := by
    exact (rt_range rb).1
  obtain ⟨zz, hzz⟩ : ∃ zz, zz = sizeZ (poAt us i) l := ⟨_, rfl⟩
  have hz1 : (poAt us i).mn ≤ zz ∧ zz ≤ (poAt us i).mx ∧ l ≤ zz := by
    rw [hzz]
    unfold sizeZ
    by_cases h0 : l = 0
    · rw [if_pos h0]; omega
    · rw [if_neg h0]; omega
  have hok : okFit (lp (poAt us i).ls) (poAt us i).a (poAt us i).l zz a := by
    have hpart := ins_part ra hz1.2.2 (by omega)
    exact ⟨ins_trans hpart hin, free_in hpart hno⟩
  have hE := free_fit hcu hiu hn hz1.1 hz1.2.1 hok
  obtain ⟨x, e1, e2, e3⟩ := fit_free hcu hiu hE
  refine ⟨?_, ?_⟩
  · unfold takeE
    rw [if_neg (by simp [hcu]), hau, if_neg (by omega), if_neg (by decide), Int.toNat_natCast, ← hzz]
    exact hE
  · rw [hau, Int.toNat_natCast, ← hzz, e1]
    exact e3 a hok
end Go.Proofs.YtpdoonkhnabfjaaGreat
/- What PoolCools comes to: it answers true. -/
namespace Go.Proofs.YtpdoonkhnabfjaaGreat
open Go.RowKit Go.Shelf

theorem pass_ok {t : Int} {ps : List Po} {m : Int} (h : passE t ps m = 0) : chkB t ps = 0 ∧ 1 ≤ m ∧ t + m ≤ 1073741824 := by
  unfold passE at h
  by_cases h1 : chkB t ps = 0
  · rw [if_neg (by simp [h1])] at h
    by_cases h2 : m < 1 ∨ 1073741824 - t < m
    · rw [if_pos h2] at h; cases h
    · exact ⟨h1, by omega, by omega⟩
  · rw [if_pos h1] at h; exact absurd h h1
theorem Bk.full {w : World} {x : Option Addr} {n c : Nat} {ps : List Po} (h : Bk w x n c ps) : Full ps := fun i hi => (h.ps.leases i (by rw [← h.ps.len]; exact hi)).2.2.len
theorem OBk.full {w : World} {base : Nat} {v : Value} {ps : List Po} (h : OBk w base v ps ps.length) : Full ps := fun i hi => (h.own i hi).ls.2.1
/-- Whatever a book of the call's own is, its leases are few if each pool has at most 32, or it is what Pass or Give leaves. -/
theorem cool_len {p : Po} {j : Nat} {t : Int} (hj : j < p.ls.length) : (coolL p j t).length ≤ p.ls.length := by
  unfold coolL
  split
  · rw [List.length_append, List.length_take, List.length_drop]; omega
  · rw [List.length_set]; exact Nat.le_refl _

end Go.Proofs.YtpdoonkhnabfjaaGreat
/- The mathematics of PoolApart: in a right book no address is in two leases for users. -/
namespace Go.Proofs.YtpdoonkhnabfjaaGreat
open Go.RowKit Go.Shelf

/-- In how many leases for users of these an address is. -/
def useL (ls : List Le) (v : Int) : Nat := (ls.filter fun e => (e.kd == 1) && hld e.a e.l v).length
def useN (ps : List Po) (v : Int) : Nat := (ps.map fun p => useL p.ls v).sum
theorem hld_parts {a l v : Int} (h : hld a l v = true) : rt a l = true ∧ a ≤ v ∧ v < a + sp l := by
  unfold hld at h
  simp only [Bool.and_eq_true, decide_eq_true_eq] at h
  exact ⟨h.1.1, h.1.2, h.2⟩
theorem hld_of {a l v : Int} (h1 : rt a l = true) (h2 : a ≤ v) (h3 : v < a + sp l) : hld a l v = true := by
  unfold hld
  simp [h1, h2, h3]
theorem hld_ins {a l c m v : Int} (h : hld a l v = true) (hi : ins a l c m = true) : hld c m v = true := by
  obtain ⟨-, h1, h2⟩ := hld_parts h
  obtain ⟨-, r2, -, h3, h4⟩ := ins_nums hi
  exact hld_of r2 (by omega) (by omega)
/-- Two leases of a right pool that hold one address are one. -/
theorem one_lease {ls : List Le} {a l v : Int} {e f : Le} (h : Used (lp ls) a l) (he : e ∈ ls) (hf : f ∈ ls) (h1 : hld e.a e.l v = true) (h2 : hld f.a f.l v = true) : e = f := by
  have hr := h.rise
  unfold lp at hr
  rw [List.pairwise_map, List.pairwise_iff_getElem] at hr
  obtain ⟨-, a1, a2⟩ := hld_parts h1
  obtain ⟨-, b1, b2⟩ := hld_parts h2
  obtain ⟨i, hi, rfl⟩ := List.mem_iff_getElem.1 he
  obtain ⟨j, hj, rfl⟩ := List.mem_iff_getElem.1 hf
  rcases Nat.lt_trichotomy i j with c | c | c
  · have := hr i j hi hj c; simp only at this; omega
  · subst c; rfl
  · have := hr j i hj hi c; simp only at this; omega
/-- Of a right pool's leases at most one is a user's that holds the address. -/
theorem useL_one {ls : List Le} {a l v : Int} (h : Used (lp ls) a l) : useL ls v ≤ 1 := by
  have hr := h.rise
  unfold lp at hr
  rw [List.pairwise_map] at hr
  have hr2 := hr.filter (fun e => (e.kd == 1) && hld e.a e.l v)
  have hall : ∀ e ∈ ls.filter (fun e => (e.kd == 1) && hld e.a e.l v), hld e.a e.l v = true := fun e he => by
    have := (List.mem_filter.1 he).2
    simp only [Bool.and_eq_true] at this
    exact this.2
  show (ls.filter fun e => (e.kd == 1) && hld e.a e.l v).length ≤ 1
  match hq : ls.filter (fun e => (e.kd == 1) && hld e.a e.l v) with
  | [] => rw [hq]; exact Nat.zero_le _
  | [e] => rw [hq]; exact Nat.le_refl _
  | e :: f :: r =>
    rw [hq] at hr2 hall
    obtain ⟨-, a1, a2⟩ := hld_parts (hall e (by simp))
    obtain ⟨-, b1, b2⟩ := hld_parts (hall f (by simp))
    have := (List.pairwise_cons.1 hr2).1 f (by simp)
    simp only at this
    omega
theorem useL_some {ls : List Le} {v : Int} (h : useL ls v ≠ 0) : ∃ e ∈ ls, e.kd = 1 ∧ hld e.a e.l v = true := by
  unfold useL at h
  match hq : ls.filter (fun e => (e.kd == 1) && hld e.a e.l v) with
  | [] => rw [hq] at h; exact absurd rfl h
  | e :: r =>
    have he : e ∈ ls.filter (fun e => (e.kd == 1) && hld e.a e.l v) := by rw [hq]; simp
    obtain ⟨h1, h2⟩ := List.mem_filter.1 he
    simp only [Bool.and_eq_true, beq_iff_eq] at h2
    exact ⟨e, h1, h2⟩
/-- So many steps up there is a pool that is in no other one; each has its lease in the next. -/
def Dep (ps : List Po) : Nat → Nat → Prop
  | 0, q => q < ps.length ∧ (poAt ps q).up = 0
  | d + 1, q => q < ps.length ∧ (poAt ps q).up ≠ 0 ∧ ∃ r : Nat, atId ps (poAt ps q).up = r ∧ (∃ e ∈ (poAt ps r).ls, e.kd = 2 ∧ e.ow = (poAt ps q).id) ∧ Dep ps d r
theorem dep_of {ps : List Po} (hF : Full ps) (f : Nat) : ∀ q, q < ps.length → upB ps f (poAt ps q) = true → ∃ d, Dep ps d q := by
  induction f with
  | zero => intro q _ h; cases h
  | succ f ih =>
    intro q hq h
    unfold upB at h
    by_cases c1 : (poAt ps q).up = 0
    · exact ⟨0, hq, c1⟩
    · rw [if_neg c1] at h
      by_cases c2 : atId ps (poAt ps q).up < 0
      · rw [if_pos c2] at h; cases h
      · rw [if_neg c2] at h
        obtain ⟨r, hr, hat, -⟩ := atId_range c2
        rw [hat, Int.toNat_natCast] at h
        by_cases c3 : anyAt (poAt ps r).n (forB (poAt ps r).ls (poAt ps q).id) = true
        · rw [if_pos c3] at h
          obtain ⟨d, hd⟩ := ih r hr h
          exact ⟨d + 1, hq, c1, r, hat, (for_mem (hF r hr)).1 c3, hd⟩
        · rw [if_neg c3] at h; cases h
theorem Dep.lt {ps : List Po} : ∀ {d q : Nat}, Dep ps d q → q < ps.length
  | 0, _, h => h.1
  | _ + 1, _, h => h.1
theorem ids_lt {ps : List Po} (h : idsB ps.length ps = true) (i : Nat) : ∀ d, i + d + 1 < ps.length → (poAt ps i).id < (poAt ps (i + d + 1)).id := by
  unfold idsB risePoB at h
  simp only [Bool.and_eq_true] at h
  have hr := List.all_eq_true.1 h.1
  have one : ∀ k, k + 1 < ps.length → (poAt ps k).id < (poAt ps (k + 1)).id := fun k hk => by
    have := hr (k + 1) (List.mem_range.2 hk)
    unfold risePoAt at this
    simpa using this
  intro d
  induction d with
  | zero => intro hd; exact one i hd
  | succ d ih =>
    intro hd
    have h1 := ih (by omega)
    have h2 := one (i + d + 1) (by omega)
    rw [show i + (d + 1) + 1 = i + d + 1 + 1 by omega]
    omega
theorem ids_one {ps : List Po} (h : idsB ps.length ps = true) {i j : Nat} (hi : i < ps.length) (hj : j < ps.length) (e : (poAt ps i).id = (poAt ps j).id) : i = j := by
  rcases Nat.lt_trichotomy i j with c | c | c
  · have := ids_lt h i (j - i - 1) (by omega)
    rw [show i + (j - i - 1) + 1 = j by omega] at this
    omega
  · exact c
  · have := ids_lt h j (i - j - 1) (by omega)
    rw [show j + (i - j - 1) + 1 = i by omega] at this
    omega
/-- The lease for a pool is its root. -/
theorem lease_root {t : Int} {ps : List Po} (hc : chkB t ps = 0) (hF : Full ps) {q r : Nat} (hq : q < ps.length) (hr : r < ps.length) {e : Le} (he : e ∈ (poAt ps r).ls) (h2 : e.kd = 2) (how : e.ow = (poAt ps q).id) : e.a = (poAt ps q).a ∧ e.l = (poAt ps q).l := by
  obtain ⟨-, -, hids, -, hp⟩ := chk_ok hc
  have hL := (les_mem (hF r hr)).1 (pool_ok (hp r hr)).2.2.2 e he
  unfold leB at hL
  rw [if_neg (by omega), if_pos h2] at hL
  by_cases c : atId ps e.ow < 0
  · rw [if_pos c] at hL; cases hL
  · rw [if_neg c] at hL
    obtain ⟨s, hs, hat, hsid⟩ := atId_range c
    rw [hat, Int.toNat_natCast] at hL
    have hsq : s = q := ids_one hids hs hq (by rw [hsid, how])
    subst hsq
    unfold le2 at hL
    simp only [Bool.and_eq_true, decide_eq_true_eq] at hL
    exact ⟨hL.1.2.1.symm, hL.1.2.2.symm⟩
theorem lease_in {t : Int} {ps : List Po} (hc : chkB t ps = 0) {q : Nat} (hq : q < ps.length) {e : Le} (he : e ∈ (poAt ps q).ls) {v : Int} (h : hld e.a e.l v = true) : hld (poAt ps q).a (poAt ps q).l v = true :=
  hld_ins h ((used_mem hc q hq).inn _ (List.mem_map.2 ⟨e, he, rfl⟩))
theorem tops_one {t : Int} {ps : List Po} (hc : chkB t ps = 0) {q r : Nat} (hqr : q < r) (hr : r < ps.length) (h1 : (poAt ps q).up = 0) (h2 : (poAt ps r).up = 0) {v : Int} (g1 : hld (poAt ps q).a (poAt ps q).l v = true) (g2 : hld (poAt ps r).a (poAt ps r).l v = true) : False := by
  obtain ⟨-, -, -, ht, -⟩ := chk_ok hc
  unfold topsB at ht
  have := List.all_eq_true.1 ht r (List.mem_range.2 hr)
  obtain ⟨a1, a2, a3⟩ := hld_parts g1
  obtain ⟨b1, b2, b3⟩ := hld_parts g2
  have hm : mts (poAt ps q).a (poAt ps q).l (poAt ps r).a (poAt ps r).l = true := mts_of a1 b1 (by omega) (by omega)
  have hy : anyAt r (topB ps (poAt ps r).a (poAt ps r).l) = true := any_yes hqr (by unfold topB; rw [h1, hm]; rfl)
  unfold topsAt at this
  rw [h2, hy] at this
  cases this
/-- Of the pools at one depth at most one holds the address. -/
theorem level_one {t : Int} {ps : List Po} (hc : chkB t ps = 0) (hF : Full ps) {v : Int} (d : Nat) : ∀ q r, Dep ps d q → Dep ps d r → hld (poAt ps q).a (poAt ps q).l v = true → hld (poAt ps r).a (poAt ps r).l v = true → q = r := by
  obtain ⟨-, -, hids, -, -⟩ := chk_ok hc
  induction d with
  | zero =>
    intro q r h1 h2 g1 g2
    rcases Nat.lt_trichotomy q r with c | c | c
    · exact (tops_one hc c h2.1 h1.2 h2.2 g1 g2).elim
    · exact c
    · exact (tops_one hc c h1.1 h2.2 h1.2 g2 g1).elim
  | succ d ih =>
    intro q r h1 h2 g1 g2
    obtain ⟨hq, -, q', -, ⟨e, he, e1, e2⟩, hdq⟩ := h1
    obtain ⟨hr, -, r', -, ⟨f, hf, f1, f2⟩, hdr⟩ := h2
    obtain ⟨ea, el⟩ := lease_root hc hF hq hdq.lt he e1 e2
    obtain ⟨fa, fl⟩ := lease_root hc hF hr hdr.lt hf f1 f2
    have ge : hld e.a e.l v = true := by rw [ea, el]; exact g1
    have gf : hld f.a f.l v = true := by rw [fa, fl]; exact g2
    have hqr := ih q' r' hdq hdr (lease_in hc hdq.lt he ge) (lease_in hc hdr.lt hf gf)
    subst hqr
    have hef := one_lease (used_mem hc q' hdq.lt) he hf ge gf
    subst hef
    exact ids_one hids hq hr (e2.symm.trans f2)
theorem climb {t : Int} {ps : List Po} (hc : chkB t ps = 0) (hF : Full ps) {v : Int} (k : Nat) : ∀ d q e, Dep ps (d + k) q → e ∈ (poAt ps q).ls → hld e.a e.l v = true → ∃ r, Dep ps d r ∧ hld (poAt ps r).a (poAt ps r).l v = true ∧ ((k = 0 ∧ r = q) ∨ ∃ f ∈ (poAt ps r).ls, f.kd = 2 ∧ hld f.a f.l v = true) := by
  induction k with
  | zero => intro d q e h he g; exact ⟨q, h, lease_in hc (Dep.lt h) he g, .inl ⟨rfl, rfl⟩⟩
  | succ k ih =>
    intro d q e h he g
    obtain ⟨hq, -, r, -, ⟨f, hf, f1, f2⟩, hd⟩ := h
    obtain ⟨fa, fl⟩ := lease_root hc hF hq (Dep.lt hd) hf f1 f2
    have gf : hld f.a f.l v = true := by rw [fa, fl]; exact lease_in hc hq he g
    obtain ⟨s, h1, h2, h3⟩ := ih d r f hd hf gf
    rcases h3 with ⟨-, rfl⟩ | h3
    · exact ⟨s, h1, h2, .inr ⟨f, hf, f1, gf⟩⟩
    · exact ⟨s, h1, h2, .inr h3⟩
theorem two_no {t : Int} {ps : List Po} (hc : chkB t ps = 0) (hF : Full ps) {v : Int} {q r d d' : Nat} {e f : Le} (hd : Dep ps d q) (hd' : Dep ps d' r) (hle : d' ≤ d) (hne : q ≠ r) (he : e ∈ (poAt ps q).ls) (hf : f ∈ (poAt ps r).ls) (f1 : f.kd = 1) (g1 : hld e.a e.l v = true) (g2 : hld f.a f.l v = true) : False := by
  obtain ⟨s, h1, h2, h3⟩ := climb hc hF (d - d') d' q e (by rw [show d' + (d - d') = d by omega]; exact hd) he g1
  have hsr := level_one hc hF d' s r h1 hd' h2 (lease_in hc hd'.lt hf g2)
  subst hsr
  rcases h3 with ⟨-, h4⟩ | ⟨x, hx, x1, x2⟩
  · exact hne h4.symm
  · have := one_lease (used_mem hc s hd'.lt) hx hf x2 g2
    subst this
    omega
theorem sum_zero : ∀ (l : List Nat), (∀ y ∈ l, y = 0) → l.sum = 0
  | [], _ => rfl
  | x :: r, h => by rw [List.sum_cons, h x (by simp), sum_zero r (fun y hy => h y (by simp [hy]))]
theorem sum_one : ∀ (l : List Nat), (∀ i (h : i < l.length), l[i] ≤ 1) → (∀ i j (hi : i < l.length) (hj : j < l.length), i < j → l[i] = 0 ∨ l[j] = 0) → l.sum ≤ 1
  | [], _, _ => by simp
  | x :: r, h1, h2 => by
    have hr := sum_one r (fun i h => h1 (i + 1) (by simpa using h)) (fun i j hi hj hij => h2 (i + 1) (j + 1) (by simpa using hi) (by simpa using hj) (by omega))
    have hx := h1 0 (by simp)
    simp only [List.getElem_cons_zero] at hx
    rw [List.sum_cons]
    by_cases h0 : x = 0
    · omega
    · have hz : ∀ y ∈ r, y = 0 := fun y hy => by
        obtain ⟨j, hj, rfl⟩ := List.mem_iff_getElem.1 hy
        rcases h2 0 (j + 1) (by simp) (by simpa using hj) (by omega) with c | c
        · exact absurd c h0
        · exact c
      have : r.sum = 0 := sum_zero r hz
      omega
/-- No address is in two leases for users. -/
theorem useN_one {t : Int} {ps : List Po} (hc : chkB t ps = 0) (hF : Full ps) (v : Int) : useN ps v ≤ 1 := by
  obtain ⟨-, -, -, -, hp⟩ := chk_ok hc
  refine sum_one _ (fun i h => ?_) (fun i j hi hj hij => ?_)
  · rw [List.length_map] at h
    rw [List.getElem_map, ← poAt_get h]
    exact useL_one (used_mem hc i h)
  · rw [List.length_map] at hi hj
    rw [List.getElem_map, List.getElem_map, ← poAt_get hi, ← poAt_get hj]
    by_cases c1 : useL (poAt ps i).ls v = 0
    · exact .inl c1
    · by_cases c2 : useL (poAt ps j).ls v = 0
      · exact .inr c2
      · obtain ⟨e, he, e1, e2⟩ := useL_some c1
        obtain ⟨f, hf, f1, f2⟩ := useL_some c2
        obtain ⟨d, hd⟩ := dep_of hF _ i hi (pool_ok (hp i hi)).2.2.1
        obtain ⟨d', hd'⟩ := dep_of hF _ j hj (pool_ok (hp j hj)).2.2.1
        by_cases c3 : d' ≤ d
        · exact (two_no hc hF hd hd' c3 (by omega) he hf f1 e2 f2).elim
        · exact (two_no hc hF hd' hd (by omega) (by omega) hf he e1 f2 e2).elim
end Go.Proofs.YtpdoonkhnabfjaaGreat
/- What Take leaves is right, and one more holds what was taken. -/
namespace Go.Proofs.YtpdoonkhnabfjaaGreat
open Go.RowKit Go.Shelf

theorem set_like {ps qs : List Po} {i c' : Nat} {x' : Option Addr} {ls' : List Le} (hs : sameB ps qs) (hf : Full ps) (hi : i < ps.length) : sameHs ps (qs.set i (withL (poAt qs i) x' ls'.length c' ls')) ∧ Full (qs.set i (withL (poAt qs i) x' ls'.length c' ls')) ∧ ∀ k, k < ps.length → (poAt (qs.set i (withL (poAt qs i) x' ls'.length c' ls')) k).ls = if i = k then ls' else (poAt ps k).ls := by
  have hi2 : i < qs.length := by rw [← hs.1]; exact hi
  have hat : ∀ k, poAt (qs.set i (withL (poAt qs i) x' ls'.length c' ls')) k = if i = k then withL (poAt qs i) x' ls'.length c' ls' else poAt qs k := fun k => poAt_set hi2
  refine ⟨⟨by rw [List.length_set]; exact hs.1, fun k hk => ?_⟩, fun k hk => ?_, fun k hk => ?_⟩
  · rw [hat]
    by_cases e : i = k
    · rw [if_pos e]
      subst e
      exact (hs.2 i hi).head
    · rw [if_neg e]
      exact (hs.2 k hk).head
  · rw [List.length_set] at hk
    rw [hat]
    by_cases e : i = k
    · rw [if_pos e]; rfl
    · rw [if_neg e]
      have hk2 : k < ps.length := by rw [hs.1]; exact hk
      have h1 := (hs.2 k hk2).2.2.2.2.2.2.2.2
      rw [← h1.1, ← h1.2]
      exact hf k hk2
  · rw [hat]
    by_cases e : i = k
    · rw [if_pos e, if_pos e]; rfl
    · rw [if_neg e, if_neg e]
      exact (hs.2 k hk).2.2.2.2.2.2.2.2.2.symm
theorem sum_set : ∀ (l : List Nat) (i y : Nat) (h : i < l.length), (l.set i y).sum + l[i] = l.sum + y
  | x :: r, 0, y, _ => by simp; omega
  | x :: r, i + 1, y, h => by
    have := sum_set r i y (by simpa using h)
    simp only [List.set_cons_succ, List.sum_cons, List.getElem_cons_succ]
    omega
theorem useL_put {e : Le} {ls ls' : List Le} (h : PutLe e ls ls') (v : Int) : useL ls' v = useL ls v + if ((e.kd == 1) && hld e.a e.l v) = true then 1 else 0 := by
  obtain ⟨k, hk, -, -, rfl⟩ := h
  unfold useL
  have e1 : ls.filter (fun e => (e.kd == 1) && hld e.a e.l v) = (ls.take k).filter (fun e => (e.kd == 1) && hld e.a e.l v) ++ (ls.drop k).filter (fun e => (e.kd == 1) && hld e.a e.l v) := by
    rw [← List.filter_append, List.take_append_drop]
  rw [e1, List.filter_append, List.filter_append, List.length_append, List.length_append, List.length_append, List.filter_cons, List.filter_nil]
  split
  · simp only [List.length_singleton]; omega
  · simp only [List.length_nil]; omega
theorem useN_eq {ps qs : List Po} (h : ps.length = qs.length) (hl : ∀ k, k < ps.length → (poAt qs k).ls = (poAt ps k).ls) (v : Int) : useN qs v = useN ps v := by
  unfold useN
  congr 1
  refine List.ext_getElem (by simp [h]) fun k h1 h2 => ?_
  rw [List.length_map] at h1 h2
  rw [List.getElem_map, List.getElem_map, ← poAt_get h1, ← poAt_get h2, hl k h2]
theorem useN_set {ps : List Po} {i : Nat} {p : Po} (hi : i < ps.length) (v : Int) : useN (ps.set i p) v + useL (poAt ps i).ls v = useN ps v + useL p.ls v := by
  unfold useN
  rw [List.map_set]
  have := sum_set (ps.map fun p => useL p.ls v) i (useL p.ls v) (by simpa using hi)
  rw [List.getElem_map, ← poAt_get hi] at this
  exact this
theorem putAt_of {e : Le} {ls ls' : List Le} (h : PutLe e ls ls') : PutAt (lp ls) e.a e.l (lp ls') := by
  obtain ⟨k, hk, h1, h2, rfl⟩ := h
  refine ⟨⟨k, by rw [lp_len]; exact hk, fun j hj => ?_, fun hj => ?_, ?_⟩⟩
  · rw [(lp_at (by omega)).1]
    have := h1 j hj
    omega
  · rw [lp_len] at hj
    rw [(lp_at hj).1]
    exact h2 hj
  · unfold lp
    simp
/-- What Take leaves is right. -/
theorem take_right {t : Int} {ps qs : List Po} {id z ow : Int} {i c' : Nat} {x' : Option Addr} {ls' : List Le} {a l : Int} (hF : Full ps) (hE : takeE t ps id z ow = 0) (hat : atId ps id = i) (hi : i < ps.length) (hal : (a, l) = pfitO (poAt ps i) (sizeZ (poAt ps i) z)) (hs : sameB ps qs) (hput : PutLe ⟨a, l, 1, ow, 0⟩ (poAt ps i).ls ls') :
    chkB t (qs.set i (withL (poAt qs i) x' ls'.length c' ls')) = 0 ∧ Full (qs.set i (withL (poAt qs i) x' ls'.length c' ls')) ∧ rt a l = true ∧ ∀ v, hld a l v = true → useN (qs.set i (withL (poAt qs i) x' ls'.length c' ls')) v = useN ps v + 1 := by
  obtain ⟨hc, -, how, hpf⟩ := take0 hE
  rw [hat, Int.toNat_natCast] at hpf
  obtain ⟨hH, hFr, hls⟩ := set_like (x' := x') (c' := c') (ls' := ls') hs hF hi
  obtain ⟨y, e1, e2, -⟩ := fit_free hc hi hpf
  rw [e1] at hal
  simp only [Prod.mk.injEq] at hal
  obtain ⟨rfl, hlz⟩ := hal
  rw [← hlz] at e2
  obtain ⟨-, ⟨ht0, ht1⟩, -, -, hpo⟩ := chk_ok hc
  have h31 := pfit_len hpf
  have hmem : ∀ e, e ∈ ls' ↔ e = ⟨a, l, 1, ow, 0⟩ ∨ e ∈ (poAt ps i).ls := fun e => by
    obtain ⟨k, hk, -, -, rfl⟩ := hput
    have : (poAt ps i).ls = (poAt ps i).ls.take k ++ (poAt ps i).ls.drop k := (List.take_append_drop _ _).symm
    constructor
    · intro h
      simp only [List.mem_append, List.mem_singleton] at h
      rcases h with (h | h) | h
      · exact .inr (List.mem_of_mem_take h)
      · exact .inl h
      · exact .inr (List.mem_of_mem_drop h)
    · rintro (h | h)
      · simp [h]
      · rw [this] at h
        simp only [List.mem_append, List.mem_singleton] at h ⊢
        rcases h with h | h
        · exact .inl (.inl h)
        · exact .inr h
  refine ⟨chk_keeps hc ht0 ht1 hH hF hFr (fun k hk => ?_) (fun k hk => ?_) (fun k hk e he h2 => ?_) (fun k hk e he => ?_), hFr, (ins_nums e2.1).1, fun v hv => ?_⟩
  · have hk2 : k < (qs.set i (withL (poAt qs i) x' ls'.length c' ls')).length := by rw [← hH.1]; exact hk
    rw [← hFr k hk2, hls k hk]
    by_cases e : i = k
    · subst e
      rw [if_pos rfl, hput.len, hF i hi]
      omega
    · rw [if_neg e, hF k hk]
      exact (chk_pool hc k hk).1
  · rw [hls k hk]
    by_cases e : i = k
    · subst e
      rw [if_pos rfl]
      exact put_used (used_mem hc i hi) e2.1 e2.2 (putAt_of hput)
    · rw [if_neg e]
      exact used_mem hc k hk
  · rw [hls k hk]
    by_cases e' : i = k
    · subst e'
      rw [if_pos rfl]
      exact (hmem e).2 (.inr he)
    · rw [if_neg e']
      exact he
  · rw [hls k hk] at he
    have hold : e ∈ (poAt ps k).ls → leB t ps (poAt ps k).id e = true := fun h => (les_mem (hF k hk)).1 (pool_ok (hpo k hk)).2.2.2 e h
    by_cases e' : i = k
    · subst e'
      rw [if_pos rfl] at he
      rcases (hmem e).1 he with rfl | h
      · unfold leB
        rw [if_pos rfl, how]
        rfl
      · exact hold h
    · rw [if_neg e'] at he
      exact hold he
  · have h1 := useN_set (ps := qs) (i := i) (p := withL (poAt qs i) x' ls'.length c' ls') (by rw [← hs.1]; exact hi) v
    have h2 := useN_eq (ps := ps) (qs := qs) hs.1 (fun k hk => (hs.2 k hk).2.2.2.2.2.2.2.2.2.symm) v
    have h3 := useL_put hput v
    rw [if_pos (by simp [hv])] at h3
    have h4 : (poAt qs i).ls = (poAt ps i).ls := (hs.2 i hi).2.2.2.2.2.2.2.2.2.symm
    have h5 : (withL (poAt qs i) x' ls'.length c' ls').ls = ls' := rfl
    rw [h4, h5] at h1
    omega
end Go.Proofs.YtpdoonkhnabfjaaGreat
/- What users of the law comes to. -/
namespace Go.Proofs.YtpdoonkhnabfjaaGreat
open Go.RowKit Go.Shelf

theorem useN_step {ps : List Po} {q : Nat} (hq : q < ps.length) (v : Int) : useN (ps.take (q + 1)) v = useN (ps.take q) v + useL (poAt ps q).ls v := by
  unfold useN
  rw [List.take_add_one, List.getElem?_eq_getElem hq, List.map_append, List.sum_append, poAt_get hq]
  simp
theorem useL_step {ls : List Le} {k : Nat} (hk : k < ls.length) (v : Int) : useL (ls.take (k + 1)) v = useL (ls.take k) v + if (((leAt ls k).kd == 1) && hld (leAt ls k).a (leAt ls k).l v) = true then 1 else 0 := by
  unfold useL
  rw [take_step hk, List.filter_append, List.length_append, List.filter_cons, List.filter_nil]
  split
  · rfl
  · rfl
theorem useL_le (ls : List Le) (v : Int) : useL ls v ≤ ls.length := List.length_filter_le _ _
theorem useN_le {ps : List Po} (h : ∀ i, i < ps.length → (poAt ps i).ls.length ≤ 32) (v : Int) : ∀ q, q ≤ ps.length → useN (ps.take q) v ≤ 32 * q
  | 0, _ => by simp [useN]
  | q + 1, hq => by
    have h1 := useN_le h v q (by omega)
    have h2 := useL_le (poAt ps q).ls v
    have h3 := h q (by omega)
    rw [useN_step (by omega)]
    omega
theorem holds_at (a l x : Int) (t : Bool) (h : hld a l x = t) (w : World) :
    Calls Tryz.prog 97 #[.agg #[.int .i64 a, .int .i64 l], .int .i64 x] w fun e w' => e = .returned (.bool t) ∧ Below w.heap.size w w' := by
  subst h
  exact holds_any a l x w
end Go.Proofs.YtpdoonkhnabfjaaGreat
/- What PoolApart comes to: it answers true. -/
namespace Go.Proofs.YtpdoonkhnabfjaaGreat
open Go.RowKit Go.Shelf

def chooseV (c n : Int) : Int := if c < 0 then -((c + 1).tmod n) else c % n
theorem choose_range (c n : Int) (hn : 0 < n) : 0 ≤ chooseV c n ∧ chooseV c n < n := by
  unfold chooseV
  split
  · rename_i h
    rw [← Int.neg_tmod, Int.tmod_eq_emod_of_nonneg (by omega)]
    exact ⟨Int.emod_nonneg _ (by omega), Int.emod_lt_of_pos _ hn⟩
  · exact ⟨Int.emod_nonneg _ (by omega), Int.emod_lt_of_pos _ hn⟩

end Go.Proofs.YtpdoonkhnabfjaaGreat
/- What leaseFine of the reference comes to. -/
namespace Go.Proofs.YtpdoonkhnabfjaaGreat
open Go.RowKit Go.Shelf

theorem within_at (x lo hi : Int) (t : Bool) (h : wth x lo hi = t) (w : World) : Calls Tryz.prog 25 #[.int .i64 x, .int .i64 lo, .int .i64 hi] w fun e w' => e = .returned (.bool t) ∧ w' = w := by
  subst h
  exact within_any x lo hi w

set_option maxRecDepth 100000 in
set_option maxHeartbeats 1600000 in
theorem leaseFine_1 (t : Int) (p : Po) (x : Option Addr) (n c : Nat) (ps : List Po) (e : Le) (w : World) (hk : e.kd = 1) :
    Calls Tryz.prog 43 #[.agg #[.int .i64 t, .slice x n c], poV p, leV e] w fun r w' => r = .returned (.bool (leB t ps p.id e)) ∧ Below w.heap.size w w' := by
  have hb1 : (e.kd == 1) = true := by simpa using hk
  rw [le_1 hk]
  clear hk
  cases hi : wth e.ow 1 65536
  all_goals go_enter Tryz.func43, Tryz.ntmps43
  all_goals go_wp2_with (go_at_call 25; refine (within_at e.ow 1 65536 _ hi _).mono ?_; rintro r w1 ⟨rfl, rfl⟩)
  all_goals go_ret
  all_goals exact ⟨rfl, (bl2 w _ _).alloc (by simp; omega) _⟩
set_option maxRecDepth 100000 in
set_option maxHeartbeats 1600000 in
theorem leaseFine_3 (t : Int) (p : Po) (x : Option Addr) (n c : Nat) (ps : List Po) (e : Le) (w : World) (hk : e.kd = 3) (t0 : 0 ≤ t) (t1 : t ≤ 1073741824) :
    Calls Tryz.prog 43 #[.agg #[.int .i64 t, .slice x n c], poV p, leV e] w fun r w' => r = .returned (.bool (leB t ps p.id e)) ∧ Below w.heap.size w w' := by
  have hb1 : (e.kd == 1) = false := by simp [hk]
  have hb2 : (e.kd == 2) = false := by simp [hk]
  have hb3 : (e.kd == 3) = true := by simp [hk]
  rw [le_3 hk]
  clear hk
  cases ho : (e.ow == 0)
  · go_enter Tryz.func43, Tryz.ntmps43
    go_wp2
    go_ret
    exact ⟨rfl, (bl2 w _ _).alloc (by simp; omega) _⟩
  · have hw : (decide (t < e.un) && decide (e.un ≤ t + 1024)) = wth e.un (t + 1) (t + 1024) := by
      unfold wth
      congr 1
    rw [hw]
    cases hu : wth e.un (t + 1) (t + 1024)
    all_goals go_enter Tryz.func43, Tryz.ntmps43
    all_goals go_wp2_with fail
    all_goals refine (within_at e.un (t + 1) (t + 1024) _ hu _).mono ?_
    all_goals rintro r w1 ⟨rfl, rfl⟩
    all_goals go_wp2
    all_goals go_ret
    all_goals exact ⟨rfl, (bl2 w _ _).alloc (by simp; omega) _⟩
set_option maxRecDepth 100000 in
set_option maxHeartbeats 1600000 in
theorem leaseFine_n (t : Int) (p : Po) (x : Option Addr) (n c : Nat) (ps : List Po) (e : Le) (w : World) (h1 : e.kd ≠ 1) (h2 : e.kd ≠ 2) (h3 : e.kd ≠ 3) :
    Calls Tryz.prog 43 #[.agg #[.int .i64 t, .slice x n c], poV p, leV e] w fun r w' => r = .returned (.bool (leB t ps p.id e)) ∧ Below w.heap.size w w' := by
  have hb1 : (e.kd == 1) = false := by simpa using h1
  have hb2 : (e.kd == 2) = false := by simpa using h2
  have hb3 : (e.kd == 3) = false := by simpa using h3
  rw [le_n h1 h2 h3]
  clear h1 h2 h3
  go_enter Tryz.func43, Tryz.ntmps43
  go_wp2
  go_ret
  exact ⟨rfl, (bl2 w _ _).alloc (by simp; omega) _⟩
set_option maxRecDepth 100000 in
set_option maxHeartbeats 3200000 in
theorem leaseFine_2 (t : Int) (p : Po) (x : Option Addr) (n c : Nat) (ps : List Po) (e : Le) (w : World) (hp : PoS w x n ps) (hn : n ≤ 64) (hk : e.kd = 2) :
    Calls Tryz.prog 43 #[.agg #[.int .i64 t, .slice x n c], poV p, leV e] w fun r w' => r = .returned (.bool (leB t ps p.id e)) ∧ Below w.heap.size w w' := by
  have hpl : Hid (ps.length = n) := hp.len
  have hb1 : (e.kd == 1) = false := by simp [hk]
  have hb2 : (e.kd == 2) = true := by simp [hk]
  have hk' : Hid (e.kd = 2) := hk
  clear hk
  go_enter Tryz.func43, Tryz.ntmps43
  go_upto_region 5 with fail
  obtain ⟨w0, hw0⟩ : ∃ w0, w0 = ((w.alloc (bkO t x n c)).alloc (poB p)).alloc (leO e) := ⟨_, rfl⟩
  rw [← hw0]
  have hB0 : Below w.heap.size w w0 := by rw [hw0]; exact (bl2 w _ _).alloc (by simp; omega) _
  have hb0 : w0.heap[w.heap.size]? = some (bkO t x n c) := by rw [hw0]; exact heap_old _ (heap_old _ (heap_new _ rfl))
  have hp0 : w0.heap[w.heap.size + 1]? = some (poB p) := by rw [hw0]; exact heap_old _ (heap_new _ (by simp))
  have hq0 : w0.heap[w.heap.size + 2]? = some (leO e) := by rw [hw0]; exact heap_new _ (by simp)
  clear hw0
  obtain ⟨kb, -⟩ := box_cells hb0
  obtain ⟨kq, -⟩ := box_cells hq0
  obtain ⟨kp, -⟩ := box_cells hp0
  go_upto_region 6 with (go_at_call 27; refine (poolAt_any t e.ow x n c ps _ (hp.later hB0) (by omega)).mono ?_; rintro r w1 ⟨rfl, hb1'⟩)
  have hbb1 := heap_later hb1' hb0
  have hbq1 := heap_later hb1' hq0
  have hbp1 := heap_later hb1' hp0
  have hB1 := hB0.trans (hb1'.mono hB0.size)
  clear hb1' kb kq kp hb0 hq0 hp0 hB0
  obtain ⟨kb, -⟩ := box_cells hbb1
  obtain ⟨kq, -⟩ := box_cells hbq1
  obtain ⟨kp, -⟩ := box_cells hbp1
  have g0 := Ws.here (v := .slice x n c) (kb 1)
  have g1 := Ws.here (v := .int .i64 e.a) (kq 0)
  have g2 := Ws.here (v := .int .i64 e.l) (kq 1)
  have g3 := Ws.here (v := .int .i64 e.un) (kq 4)
  have g4 := Ws.here (v := .int .i64 p.id) (kp 0)
  cases hneg : decide (atId ps e.ow < 0)
  · obtain ⟨i, hi, hai, -⟩ := atId_range (ps := ps) (id := e.ow) (by simpa using hneg)
    have hai' : Hid (atId ps e.ow = i) := hai
    rw [hpl.out] at hi
    have hpw := hp.later hB1
    obtain ⟨b, o, rfl, c0, c1, c2, c3, -⟩ := hpw.cells i hi
    rw [hai]
    have hge : decide ((i : Int) ≥ 0) = true := by simp
    clear hai hneg
    have e1 := Ws.here c1
    have e2 := Ws.here c2
    have e3 := Ws.here c3
    cases hup : ((poAt ps i).up == p.id)
    · refine wp_region_ws w1.heap.size (by kernel_rfl) (by kernel_rfl) ?_
      repeat (go_big_quiet_step (fail))
      refine wpQuiet_nil ?_
      rintro _ ⟨u, rfl⟩
      have hu2 := hB1.trans (u.property.mono hB1.size)
      generalize u.val = wu at hu2 ⊢
      clear u g0 g1 g2 g3 g4 e1 e2 e3
      go_wp2
      go_ret
      exact ⟨ret_bool (by rw [le_2 hk'.out hai'.out]; unfold le2; rw [hup]; rfl), hu2⟩
    · cases heq : (decide ((poAt ps i).a = e.a) && decide ((poAt ps i).l = e.l))
      all_goals refine wp_region_ws w1.heap.size (by kernel_rfl) (by kernel_rfl) ?_
      all_goals repeat (go_big_quiet_step (fail))
      all_goals refine quiet_eqlg _ _ _ (poAt ps i).a (poAt ps i).l e.a e.l rfl (by rfl) rfl rfl ?_
      all_goals rw [heq]
      all_goals simp only [Act.put, List.setIfInBounds_toArray, List.set_cons_zero, List.set_cons_succ]
      all_goals repeat (go_big_quiet_step (fail))
      all_goals refine wpQuiet_nil ?_
      all_goals rintro _ ⟨u, rfl⟩
      all_goals have hu2 := hB1.trans (u.property.mono hB1.size)
      all_goals generalize u.val = wu at hu2 ⊢
      all_goals clear u g0 g1 g2 g3 g4 e1 e2 e3
      all_goals go_wp2
      all_goals go_ret
      all_goals exact ⟨ret_bool (by rw [le_2 hk'.out hai'.out]; unfold le2; rw [hup, heq]; rfl), hu2⟩
  · have hai' : Hid (atId ps e.ow < 0) := by unfold Hid; simpa using hneg
    have hge : decide (atId ps e.ow ≥ 0) = false := by simp at hneg ⊢; omega
    clear hneg
    refine wp_region_ws w1.heap.size (by kernel_rfl) (by kernel_rfl) ?_
    repeat (go_big_quiet_step (fail))
    refine wpQuiet_nil ?_
    rintro _ ⟨u, rfl⟩
    have hu2 := hB1.trans (u.property.mono hB1.size)
    generalize u.val = wu at hu2 ⊢
    clear u g0 g1 g2 g3 g4
    go_wp2
    go_ret
    exact ⟨ret_bool (by rw [le_2n hk'.out hai'.out]), hu2⟩
theorem leaseFine_any (t : Int) (p : Po) (x : Option Addr) (n c : Nat) (ps : List Po) (e : Le) (w : World) (hp : PoS w x n ps) (hn : n ≤ 64) (t0 : 0 ≤ t) (t1 : t ≤ 1073741824) :
    Calls Tryz.prog 43 #[.agg #[.int .i64 t, .slice x n c], poV p, leV e] w fun r w' => r = .returned (.bool (leB t ps p.id e)) ∧ Below w.heap.size w w' := by
  by_cases h1 : e.kd = 1
  · exact leaseFine_1 t p x n c ps e w h1
  · by_cases h2 : e.kd = 2
    · exact leaseFine_2 t p x n c ps e w hp hn h2
    · by_cases h3 : e.kd = 3
      · exact leaseFine_3 t p x n c ps e w h3 t0 t1
      · exact leaseFine_n t p x n c ps e w h1 h2 h3
end Go.Proofs.YtpdoonkhnabfjaaGreat
/- What upFine of the reference comes to. -/
namespace Go.Proofs.YtpdoonkhnabfjaaGreat
open Go.RowKit Go.Shelf

theorem any_next (j : Nat) (f : Nat → Bool) : anyAt (j + 1) f = (anyAt j f || f j) := by
  unfold anyAt
  rw [List.range_succ, List.any_append]
  simp
set_option maxRecDepth 100000 in
set_option maxHeartbeats 3200000 in
theorem upFine_any (t : Int) (x : Option Addr) (n c : Nat) (ps : List Po) (p : Po) (w : World) (hp : PoS w x n ps) (hn : n ≤ 64) :
    Calls Tryz.prog 42 #[.agg #[.int .i64 t, .slice x n c], poV p] w fun e w' => e = .returned (.bool (upB ps (n + 1) p)) ∧ Below w.heap.size w w' := by
  have hpl : Hid (ps.length = n) := hp.len
  go_enter Tryz.func42, Tryz.ntmps42
  go_upto_region 1 with fail
  obtain ⟨w0, hw0⟩ : ∃ w0, w0 = (w.alloc (.cells #[.int .i64 t, .slice x n c] 24)).alloc (poB p) := ⟨_, rfl⟩
  rw [← hw0]
  have hB0 : Below w.heap.size w w0 := by rw [hw0]; exact bl2 w _ _
  have hb0 : w0.heap[w.heap.size]? = some (.cells #[.int .i64 t, .slice x n c] 24) := by rw [hw0]; exact heap_old _ (heap_new _ rfl)
  have hq0 : w0.heap[w.heap.size + 1]? = some (poB p) := by rw [hw0]; exact heap_new _ (by simp)
  clear hw0
  go_wp2
  go_loopw [5] (fun i wr => ∃ (k : Nat) (q : Po), k ≤ n + 1 ∧ i = .int .i64 k ∧ Hid (upB ps (n + 1) p = upB ps (n + 1 - k) q) ∧ wr.heap[w.heap.size]? = some (.cells #[.int .i64 t, .slice x n c] 24) ∧ wr.heap[w.heap.size + 1]? = some (poB q) ∧ Below w.heap.size w wr) (fun i _ => n + 1 - (intOf i).toNat)
  case atStart => exact ⟨0, p, by omega, rfl, rfl, hb0, hq0, hB0⟩
  case round =>
    obtain ⟨k, q, hk, rfl, hup, hbb, hbq, hB⟩ := hrel
    clear hb0 hq0 hB0
    have kb1 : wr.cell? ⟨w.heap.size, 1, none⟩ = some (.slice x n c) := (box_cells hbb).1 1
    by_cases hlt : k ≤ n
    · have hlt' : Hid (k ≤ n) := hlt
      obtain ⟨f, hf⟩ : ∃ f : Nat, Hid (n + 1 - k = f + 1) := ⟨n - k, by unfold Hid; omega⟩
      have hkn : (k : Int) ≤ n := by omega
      have hkd : decide ((k : Int) ≤ n) = true := by simpa using hlt
      have kb0 : wr.cell? ⟨w.heap.size, 0, none⟩ = some (.int .i64 t) := (box_cells hbb).1 0
      have kq0 : wr.cell? ⟨w.heap.size + 1, 0, none⟩ = some (.int .i64 q.id) := (box_cells hbq).1 0
      have kq1 : wr.cell? ⟨w.heap.size + 1, 1, none⟩ = some (.int .i64 q.up) := (box_cells hbq).1 1
      clear hlt
      by_cases hu : q.up = 0
      · have hu' : Hid (q.up = 0) := hu
        have hub : (q.up == 0) = true := by simpa using hu
        go_wp2
        go_ret
        exact ⟨ret_bool (by rw [hup.out, hf.out, up_0 hu'.out]), hB⟩
      · have hu' : Hid (q.up ≠ 0) := hu
        have hub : (q.up == 0) = false := by simpa using hu
        clear hu
        obtain ⟨ia, hia⟩ : ∃ ia, Hid (ia = atId ps q.up) := ⟨_, rfl⟩
        have hpc := poolAt_any t q.up x n c ps wr (hp.later hB) (by omega)
        rw [← hia.out] at hpc
        go_wp2_with fail
        refine hpc.mono ?_
        rintro e w1 ⟨rfl, hb1⟩
        have hbb1 := heap_later hb1 hbb
        have hbq1 := heap_later hb1 hbq
        have hB1 := hB.trans (hb1.mono hB.size)
        clear hb1 kb0 kb1 kq0 kq1 hbb hbq hB hpc
        by_cases hneg : ia < 0
        · have hai' : Hid (atId ps q.up < 0) := by unfold Hid; rw [← hia.out]; exact hneg
          clear hia
          go_wp2
          go_ret
          exact ⟨ret_bool (by rw [hup.out, hf.out, up_none hu'.out hai'.out]), hB1⟩
        · obtain ⟨i, hi, hai, -⟩ := atId_range (ps := ps) (id := q.up) (by rw [← hia.out]; exact hneg)
          have hai' : Hid (atId ps q.up = i) := hai
          obtain rfl : ia = (i : Int) := hia.out.trans hai
          rw [hpl.out] at hi
          have hpw := hp.later hB1
          obtain ⟨b, o, rfl, c0, c1, c2, c3, c4, c5, c6, c7, c8⟩ := hpw.cells i hi
          obtain ⟨hl1, hl2, hl3⟩ := hpw.leases i hi
          have hge : decide ((i : Int) < 0) = false := by simp
          have hi0 : (0 : Int) ≤ i := by omega
          have hin : (i : Int) < n := by omega
          have hlen : Hid ((poAt ps i).ls.length = (poAt ps i).n) := hl3.len
          clear hai hneg hia
          have kb1 : w1.cell? ⟨w.heap.size, 1, none⟩ = some (.slice (some ⟨b, o, none⟩) n c) := (box_cells hbb1).1 1
          have kq0 : w1.cell? ⟨w.heap.size + 1, 0, none⟩ = some (.int .i64 q.id) := (box_cells hbq1).1 0
          go_wp2
          go_loopw [8, 7] (fun kk s ws => ∃ j : Nat, kk = .int .i64 j ∧ j ≤ (poAt ps i).n ∧ s = .bool (anyAt j (forB (poAt ps i).ls q.id)) ∧ Below w1.heap.size w1 ws) (fun kk _ _ => (poAt ps i).n - (intOf kk).toNat)
          case atStart => exact ⟨0, rfl, by omega, rfl, Below.refl _ _⟩
          case round =>
            obtain ⟨j, rfl, hjn, rfl, hBs⟩ := hrel
            have kb1' := cell_later_add hBs kb1
            have kq0' := cell_later_add hBs kq0
            have c8' := cell_later_add hBs c8
            have hstep : Hid (anyAt (j + 1) (forB (poAt ps i).ls q.id) = (anyAt j (forB (poAt ps i).ls q.id) || forB (poAt ps i).ls q.id j)) := any_next j _
            obtain ⟨B, hB'⟩ : ∃ B, Hid (B = anyAt j (forB (poAt ps i).ls q.id)) := ⟨_, rfl⟩
            rw [← hB'.out]
            by_cases hltj : j < (poAt ps i).n
            · obtain ⟨b2, o2, hx2, e0, e1, e2, e3, e4⟩ := (hl3.later hBs).cells j hltj
              rw [hx2] at c8'
              have hjn2 : (j : Int) < (poAt ps i).n := by omega
              have hj0 : (0 : Int) ≤ j := by omega
              have hltjh : Hid (j < (poAt ps i).n) := hltj
              clear hltj
              go_upto_region 14 with fail
              obtain ⟨w2, hw2⟩ : ∃ w2, w2 = wr.alloc (leO (leAt (poAt ps i).ls j)) := ⟨_, rfl⟩
              rw [show wr.alloc (.cells #[.int .i64 (leAt (poAt ps i).ls j).a, .int .i64 (leAt (poAt ps i).ls j).l, .int .i64 (leAt (poAt ps i).ls j).kd, .int .i64 (leAt (poAt ps i).ls j).ow, .int .i64 (leAt (poAt ps i).ls j).un] 55) = w2 from hw2.symm]
              have hB2 : Below wr.heap.size wr w2 := by rw [hw2]; exact bl1 _ _
              have hv2 : w2.heap[wr.heap.size]? = some (leO (leAt (poAt ps i).ls j)) := by rw [hw2]; exact heap_new _ rfl
              have hBt := hBs.trans (hB2.mono hBs.size)
              have kq2 := cell_later_add hB2 kq0'
              clear hw2 hB2 e0 e1 e2 e3 e4 kb1' kq0' c8'
              have v2 : w2.cell? ⟨wr.heap.size, 2, none⟩ = some (.int .i64 (leAt (poAt ps i).ls j).kd) := (box_cells hv2).1 2
              have v3 : w2.cell? ⟨wr.heap.size, 3, none⟩ = some (.int .i64 (leAt (poAt ps i).ls j).ow) := (box_cells hv2).1 3
              have hst : Hid (∀ r, r = (B || (((leAt (poAt ps i).ls j).kd == 2) && ((leAt (poAt ps i).ls j).ow == q.id))) → Value.bool r = .bool (anyAt (j + 1) (forB (poAt ps i).ls q.id))) := fun r hr => by
                rw [hr, hstep.out, ← hB'.out]
                rfl
              clear hstep hB'
              cases B with
              | true =>
                go_wp2
                go_roundw
                case rel => exact ⟨j + 1, by go_num, hltjh.out, hst.out true rfl, hBt⟩
                case measure => have := hltjh.out; simp [intOf]; omega
              | false =>
                cases hk2 : ((leAt (poAt ps i).ls j).kd == 2) with
                | false =>
                  go_wp2
                  go_roundw
                  case rel => exact ⟨j + 1, by go_num, hltjh.out, hst.out false (by rw [hk2]; rfl), hBt⟩
                  case measure => have := hltjh.out; simp [intOf]; omega
                | true =>
                  cases ho2 : ((leAt (poAt ps i).ls j).ow == q.id) with
                  | false =>
                    go_wp2
                    go_roundw
                    case rel => exact ⟨j + 1, by go_num, hltjh.out, hst.out false (by rw [hk2, ho2]; rfl), hBt⟩
                    case measure => have := hltjh.out; simp [intOf]; omega
                  | true =>
                    go_wp2
                    go_roundw
                    case rel => exact ⟨j + 1, by go_num, hltjh.out, hst.out true (by rw [hk2, ho2]; rfl), hBt⟩
                    case measure => have := hltjh.out; simp [intOf]; omega
            · have hne : ¬ (j : Int) < (poAt ps i).n := by omega
              have hje : Hid (j = (poAt ps i).n) := by unfold Hid; omega
              have hBe : Hid (B = anyAt (poAt ps i).n (forB (poAt ps i).ls q.id)) := by
                unfold Hid
                rw [hB'.out, hje.out]
              have hbb2 := heap_later hBs hbb1
              have hbq2 := heap_later hBs hbq1
              have hu2 := hB1.trans (hBs.mono hB1.size)
              have d0 := cell_later_add hBs c0
              have d1 := cell_later_add hBs c1
              have d2 := cell_later_add hBs c2
              have d3 := cell_later_add hBs c3
              have d4 := cell_later_add hBs c4
              have d5 := cell_later_add hBs c5
              have d6 := cell_later_add hBs c6
              have d7 := cell_later_add hBs c7
              obtain ⟨kq, fq⟩ := box_cells hbq2
              clear hltj hstep hB'
              cases B with
              | false =>
                go_wp2
                go_ret
                exact ⟨ret_bool (by rw [hup.out, hf.out, up_bad hu'.out hai'.out hBe.out.symm]), hu2⟩
              | true =>
                go_wp2
                go_roundw
                case rel => exact ⟨k + 1, poAt ps i, by have := hlt'.out; omega, by go_num, by
                  unfold Hid
                  rw [hup.out, hf.out, up_next hu'.out hai'.out hBe.out.symm]
                  congr 1
                  have := hf.out
                  omega, (poB_other (poAt ps i) (by omega)).trans hbb2, poB_set (poAt ps i) hbq2, poB_below (poAt ps i) hu2 (by omega)⟩
                case measure => have := hlt'.out; simp [intOf]; omega
    · have hne : ¬ (k : Int) ≤ n := by omega
      have hkd : decide ((k : Int) ≤ n) = false := by simpa using hlt
      have hke : Hid (n + 1 - k = 0) := by unfold Hid; omega
      clear hlt
      go_wp2
      go_ret
      exact ⟨ret_bool (by rw [hup.out, hke.out]; rfl), hB⟩
end Go.Proofs.YtpdoonkhnabfjaaGreat
/- One turn more of the way up adds nothing: the pools of a way are all different. -/
namespace Go.Proofs.YtpdoonkhnabfjaaGreat
open Go.RowKit Go.Shelf

theorem few_below : ∀ (n : Nat) (l : List Nat), l.Nodup → (∀ x ∈ l, x < n) → l.length ≤ n
  | 0, l, _, h => by
    match l, h with
    | [], _ => exact Nat.le_refl _
    | x :: r, h => exact absurd (h x (by simp)) (by omega)
  | n + 1, l, hn, h => by
    by_cases hm : n ∈ l
    · have h1 := few_below n (l.erase n) (hn.erase n) (fun x hx => by
        have hx1 := h x (List.mem_of_mem_erase hx)
        have hx2 : x ≠ n := fun e => by
          subst e
          exact (List.Nodup.not_mem_erase hn) hx
        omega)
      rw [List.length_erase_of_mem hm] at h1
      omega
    · have h1 := few_below n l hn (fun x hx => by
        have hx1 := h x hx
        have hx2 : x ≠ n := fun e => hm (e ▸ hx)
        omega)
      omega
theorem dep_one {ps : List Po} : ∀ (d e q : Nat), Dep ps d q → Dep ps e q → d = e
  | 0, 0, _, _, _ => rfl
  | 0, e + 1, q, h, g => absurd h.2 g.2.1
  | d + 1, 0, q, h, g => absurd g.2 h.2.1
  | d + 1, e + 1, q, h, g => by
    obtain ⟨-, -, r, h1, -, h2⟩ := h
    obtain ⟨-, -, s, g1, -, g2⟩ := g
    have : r = s := by omega
    subst this
    rw [dep_one d e r h2 g2]
/-- The pools of the way up: one of each depth. -/
theorem dep_list {ps : List Po} : ∀ (d q : Nat), Dep ps d q → ∃ l : List Nat, l.length = d + 1 ∧ l.Nodup ∧ ∀ x ∈ l, x < ps.length ∧ ∃ e, e ≤ d ∧ Dep ps e x
  | 0, q, h => ⟨[q], rfl, by simp, fun x hx => by
    obtain rfl : x = q := by simpa using hx
    exact ⟨h.1, 0, Nat.le_refl _, h⟩⟩
  | d + 1, q, h => by
    have hq := h
    obtain ⟨h0, -, r, -, -, h2⟩ := h
    obtain ⟨l, l1, l2, l3⟩ := dep_list d r h2
    refine ⟨q :: l, by rw [List.length_cons, l1], List.nodup_cons.2 ⟨fun hm => ?_, l2⟩, fun x hx => ?_⟩
    · obtain ⟨-, e, he, hd⟩ := l3 q hm
      have := dep_one _ _ _ hq hd
      omega
    · rcases List.mem_cons.1 hx with rfl | hx
      · exact ⟨h0, d + 1, Nat.le_refl _, hq⟩
      · obtain ⟨x1, e, he, hd⟩ := l3 x hx
        exact ⟨x1, e, by omega, hd⟩
theorem dep_lt {ps : List Po} {d q : Nat} (h : Dep ps d q) : d < ps.length := by
  obtain ⟨l, l1, l2, l3⟩ := dep_list d q h
  have := few_below ps.length l l2 (fun x hx => (l3 x hx).1)
  omega
theorem up_of_dep {ps : List Po} (hF : Full ps) : ∀ (d f q : Nat), Dep ps d q → d < f → upB ps f (poAt ps q) = true
  | 0, f + 1, q, h, _ => by unfold upB; rw [if_pos h.2]
  | d + 1, f + 1, q, h, hf => by
    obtain ⟨-, h1, r, h2, h3, h4⟩ := h
    have hr := h4.lt
    unfold upB
    rw [if_neg h1, h2, if_neg (by omega), Int.toNat_natCast, if_pos ((for_mem (hF r hr)).2 h3)]
    exact up_of_dep hF d f r h4 (by omega)
/-- One turn more adds nothing. -/
theorem up_more {ps : List Po} (hF : Full ps) {q : Nat} (hq : q < ps.length) : upB ps (ps.length + 1) (poAt ps q) = upB ps ps.length (poAt ps q) := by
  cases h : upB ps (ps.length + 1) (poAt ps q) with
  | true =>
    obtain ⟨d, hd⟩ := dep_of hF _ q hq h
    exact (up_of_dep hF d _ q hd (dep_lt hd)).symm
  | false =>
    cases h2 : upB ps ps.length (poAt ps q) with
    | false => rfl
    | true =>
      obtain ⟨d, hd⟩ := dep_of hF _ q hq h2
      rw [up_of_dep hF d _ q hd (by have := dep_lt hd; omega)] at h
      cases h
end Go.Proofs.YtpdoonkhnabfjaaGreat
/- What a right book is, row by row. -/
namespace Go.Proofs.YtpdoonkhnabfjaaGreat
open Go.RowKit Go.Shelf

/-- What the reference asks of the j-th pool first; and then. -/
def Row1 (ps : List Po) (j : Nat) : Prop := wth (poAt ps j).id 1 65536 = true ∧ (j = 0 ∨ (poAt ps (j - 1)).id < (poAt ps j).id) ∧ chkS (poAt ps j).a (poAt ps j).l (poAt ps j).n (lp (poAt ps j).ls) = 0 ∧ ruleB (poAt ps j).mn (poAt ps j).mx (poAt ps j).us (poAt ps j).co (poAt ps j).l = true
def Row2 (t : Int) (ps : List Po) (j : Nat) : Prop := upB ps (ps.length + 1) (poAt ps j) = true ∧ (∀ k, k < (poAt ps j).n → leB t ps (poAt ps j).id (leAt (poAt ps j).ls k) = true) ∧ ∀ m, m < j → ((poAt ps j).up = 0 ∧ (poAt ps m).up = 0) → mts (poAt ps j).a (poAt ps j).l (poAt ps m).a (poAt ps m).l = false
theorem chk_01 {t : Int} {ps : List Po} (h : ps.length ≤ 8) : chkB t ps = 0 ∨ chkB t ps = 1 := by
  unfold chkB
  rw [if_neg (by omega)]
  split
  · exact .inl rfl
  · exact .inr rfl
theorem tops_row {ps : List Po} {j : Nat} : topsAt ps j = true ↔ ∀ m, m < j → ((poAt ps j).up = 0 ∧ (poAt ps m).up = 0) → mts (poAt ps j).a (poAt ps j).l (poAt ps m).a (poAt ps m).l = false := by
  constructor
  · intro h m hm hu
    cases hx : mts (poAt ps j).a (poAt ps j).l (poAt ps m).a (poAt ps m).l with
    | false => rfl
    | true =>
      have hy : anyAt j (topB ps (poAt ps j).a (poAt ps j).l) = true := any_yes hm (by unfold topB; rw [hu.2, mts_comm, hx]; rfl)
      unfold topsAt at h
      rw [hu.1, hy] at h
      cases h
  · intro h
    unfold topsAt
    cases hu : ((poAt ps j).up == 0) with
    | false => rfl
    | true =>
      have hn : anyAt j (topB ps (poAt ps j).a (poAt ps j).l) = false := any_no fun m hm => by
        unfold topB
        cases hv : ((poAt ps m).up == 0) with
        | false => rfl
        | true =>
          rw [mts_comm, h m hm ⟨by simpa using hu, by simpa using hv⟩]
          rfl
      rw [hn]
      rfl
theorem chk_rows {t : Int} {ps : List Po} (hF : Full ps) (h8 : ps.length ≤ 8) : chkB t ps = 0 ↔ wth t 0 1073741824 = true ∧ ∀ j, j < ps.length → Row1 ps j ∧ Row2 t ps j := by
  constructor
  · intro h
    obtain ⟨-, ht, hi, htop, hp⟩ := chk_ok h
    refine ⟨by unfold wth; simp [ht.1, ht.2], fun j hj => ?_⟩
    obtain ⟨p1, p2, p3, p4⟩ := pool_ok (hp j hj)
    refine ⟨⟨?_, ?_, p1, p2⟩, ?_, fun k hk => ?_, ?_⟩
    · have := ids_ok hi j hj
      unfold wth
      simp [this.1, this.2]
    · cases j with
      | zero => exact .inl rfl
      | succ j =>
        have := ids_lt hi j 0 (by omega)
        exact .inr this
    · rw [up_more hF hj]
      exact p3
    · exact (les_mem (hF j hj)).1 p4 _ (leAt_mem (by rw [hF j hj]; exact hk))
    · unfold topsB at htop
      exact tops_row.1 (List.all_eq_true.1 htop j (List.mem_range.2 hj))
  · rintro ⟨ht, h⟩
    refine chk_yes h8 ?_
    have hi : idsB ps.length ps = true := by
      unfold idsB
      have h1 : risePoB ps = true := risePo_yes fun j hj => by
        unfold risePoAt
        rcases (h j hj).1.2.1 with c | c
        · simp [c]
        · simp [c]
      have h2 : anyAt ps.length (fun i => !wth (poAt ps i).id 1 65536) = false := any_no fun j hj => by rw [(h j hj).1.1]; rfl
      rw [h1, h2]
      rfl
    have htp : topsB ps = true := tops_yes fun j hj => tops_row.2 (h j hj).2.2.2
    have hps : poolsB t ps = true := pools_yes fun j hj => by
      obtain ⟨⟨-, -, r3, r4⟩, s1, s2, -⟩ := h j hj
      rw [up_more hF hj] at s1
      have s3 : lesB t ps (poAt ps j) = true := les_yes s2
      unfold poolB
      rw [r3, r4, s1, s3]
      rfl
    rw [ht, hi, htp, hps]
    rfl
end Go.Proofs.YtpdoonkhnabfjaaGreat
/- A law of my own: a region that draws its order, parted in three: a head that reads, a middle that has one order alone, and the rest. -/
namespace Go.Proofs.YtpdoonkhnabfjaaGreat
open Go.RowKit

/-- What comes behind n waits for something that comes from n on. -/
def fanB (md : Region.Mode) (ops : Array Oper) (n : Nat) : Bool :=
  (List.range ops.size).all fun t => decide (t ≤ n) || (List.range t).any fun s => decide (n ≤ s) && Region.waitsFor md ops t s
theorem fan_waits {md : Region.Mode} {ops : Array Oper} {n : Nat} {listed : Array Bool} (hs : Region.sinkB md ops n = true) (hc : fanB md ops n = true) (inv : HeadInv md ops n listed) :
    ∀ (d i : Nat), n - i = d → i < n → listed.getD i true = false → ∀ t, n ≤ t → t ∉ Region.ready md ops listed := by
  intro d
  induction d using Nat.strongRecOn with
  | _ d ih =>
    intro i hd hi hun t ht hr
    obtain ⟨_, ot, hot, hall⟩ := mem_ready.1 hr
    have htlt : t < ops.size := (Array.getElem?_eq_some_iff.1 hot).1
    by_cases htn : t = n
    · subst htn
      have h1 := List.all_eq_true.1 hs i (List.mem_range.2 hi)
      obtain ⟨j, hj, hj2⟩ := List.any_eq_true.1 h1
      simp only [Bool.and_eq_true, decide_eq_true_eq] at hj2
      obtain ⟨oj, hoj, e, he, hb, hon⟩ := Region.waitsFor_spec hj2.2
      have hjle : j ≤ t := by have := List.mem_range.1 hj; omega
      by_cases hjt : j = t
      · subst hjt
        have : oj = ot := Option.some.inj (hoj.symm.trans hot)
        subst this
        have h2 := hall e he hb
        rw [hon, getD_both hun] at h2
        cases h2
      · cases hl : listed.getD j false with
        | true =>
          have h2 := inv.closed j oj hoj hl e he hb
          rw [hon, getD_both hun] at h2
          cases h2
        | false =>
          have hjs : j < listed.size := by rw [inv.size]; omega
          exact ih (t - j) (by omega) j rfl (by omega) (getD_in hjs hl) t (Nat.le_refl _) hr
    · have h1 := List.all_eq_true.1 hc t (List.mem_range.2 htlt)
      simp only [Bool.or_eq_true, decide_eq_true_eq] at h1
      rcases h1 with h1 | h1
      · omega
      · obtain ⟨s, hs1, hs2⟩ := List.any_eq_true.1 h1
        simp only [Bool.and_eq_true, decide_eq_true_eq] at hs2
        have hst := List.mem_range.1 hs1
        obtain ⟨o', ho', e, he, hb, hon⟩ := Region.waitsFor_spec hs2.2
        have : o' = ot := Option.some.inj (ho'.symm.trans hot)
        subst this
        have h2 := hall e he hb
        rw [hon, getD_both (inv.tail s hs2.1 (by omega))] at h2
        cases h2
/-- What may come up now, and yields in every world of the class, may be taken first. -/
theorem headQ_fan {P : Program} {md : Region.Mode} {ops : Array Oper} {C : World → Prop} {n i : Nat} {oi : Oper} {v : Value} {L : Array Bool → Act → Prop} (hi : ops[i]? = some oi) (hsel : ∀ (j : Nat) (o : Oper) cs b, ops[j]? = some o → o.op ≠ .select cs b)
    (hs : Region.sinkB md ops n = true) (hc : fanB md ops n = true) (hin : i < n) (hL : ∀ listed a, L listed a → ∀ j ∈ Region.ready md ops listed, n ≤ j) (f : Nat) :
    ∀ (listed : Array Bool) (a : Act), HeadInv md ops n listed → (∀ j oj, ops[j]? = some oj → j ≠ i → listed.getD j true = false → (∀ e ∈ oj.after, Region.binds md e = true → e.on ≠ i) → oi.apart ops oj = true) →
      i ∈ Region.ready md ops listed → YieldsIn P ops C oi v a → headQ P md ops C n L f (listed.setIfInBounds i true) (a.put oi.dst v) → headQ P md ops C n L (f + 1) listed a := by
  induction f with
  | zero =>
    intro listed a inv hfree hr hy H
    refine ⟨List.ne_nil_of_mem hr, fun j hj => ?_⟩
    have hjn : j < n := Nat.lt_of_not_le fun h => fan_waits hs hc inv _ i rfl hin (mem_ready.1 hr).1 j h hj
    refine ⟨hjn, ?_⟩
    by_cases e : j = i
    · subst e; exact hy.qOp hi H
    · exact absurd (hL _ _ H j (ready_mono hj e)) (by omega)
  | succ f ih =>
    intro listed a inv hfree hr hy H
    refine ⟨List.ne_nil_of_mem hr, fun j hj => ?_⟩
    have hjn : j < n := Nat.lt_of_not_le fun h => fan_waits hs hc inv _ i rfl hin (mem_ready.1 hr).1 j h hj
    refine ⟨hjn, ?_⟩
    by_cases e : j = i
    · subst e; exact hy.qOp hi H
    obtain ⟨hun, oj, hoj, hall⟩ := mem_ready.1 hj
    have hno : ∀ x ∈ oj.after, Region.binds md x = true → x.on ≠ i := fun x hx hb he => by
      have h1 := hall x hx hb
      rw [he, getD_both (mem_ready.1 hr).1] at h1
      cases h1
    have h2 := qOp_put hoj (hfree j oj hoj e hun hno) (fun cs b => hsel i oi cs b hi) (fun cs b => hsel j oj cs b hoj) hy (H.2 j (ready_mono hj e)).2
    refine qOp_mono (fun a' h3 => ih _ a' (inv.set hj hjn) (fun k ok hk hki hku => ?_) (ready_mono hr (Ne.symm e)) h3.1 ?_) h2
    · refine hfree k ok hk hki ?_
      by_cases hjk : j = k
      · subst hjk; exact hun
      · rw [getD_set_ne true hjk] at hku; exact hku
    · rw [Array.setIfInBounds_comm _ _ e]
      exact h3.2
/-- So many more, from k on, have come up. -/
def doneTo : Nat → Nat → Array Bool → Array Bool
  | 0, _, listed => listed
  | f + 1, k, listed => doneTo f (k + 1) (listed.setIfInBounds k true)
def lexTo (md : Region.Mode) (ops : Array Oper) : Nat → Nat → Array Bool → Bool
  | 0, _, _ => true
  | f + 1, k, listed => (Region.ready md ops listed).contains k && Region.free md ops listed k && lexTo md ops f (k + 1) (listed.setIfInBounds k true)
def seqTo (md : Region.Mode) (ops : Array Oper) : Nat → Nat → Array Bool → Bool
  | 0, _, _ => true
  | g + 1, k, listed => decide (Region.ready md ops listed = [k]) && seqTo md ops g (k + 1) (listed.setIfInBounds k true)
theorem headQ_to {P : Program} {md : Region.Mode} {ops : Array Oper} {C : World → Prop} {n : Nat} {K : Act → Prop} {D : Array Bool} (hsel : Region.noSelect ops = true) (hs : Region.sinkB md ops n = true) (hc : fanB md ops n = true)
    (hD : ∀ j ∈ Region.ready md ops D, n ≤ j) (l : List Oper) :
    ∀ (k : Nat) (listed : Array Bool) (a : Act), (∀ j, j < l.length → l[j]? = ops[k + j]?) → k + l.length = n → HeadInv md ops n listed → lexTo md ops l.length k listed = true → doneTo l.length k listed = D → wpQuiet P ops C K l a →
      headQ P md ops C n (fun listed' a' => listed' = D ∧ K a') l.length listed a := by
  induction l with
  | nil =>
    intro k listed a _ hk _ hB hd h
    exact ⟨hd, h⟩
  | cons o l ih =>
    intro k listed a hl hk inv hB hd h
    have h0 : ops[k]? = some o := by simpa using (hl 0 (by simp)).symm
    simp only [List.length_cons, lexTo, Bool.and_eq_true] at hB
    have hkn : k < n := by simp only [List.length_cons] at hk; omega
    have hr : k ∈ Region.ready md ops listed := by simpa using hB.1.1
    have hq : qOp P ops C k (wpQuiet P ops C K l) a := by unfold qOp; simp only [h0]; exact h
    obtain ⟨v, hy, hK⟩ := yieldsIn_of_qOp h0 hq
    refine headQ_fan h0 (Region.noSelect_spec hsel) hs hc hkn (fun _ _ hL => by rw [hL.1]; exact hD) l.length listed a inv (Region.free_spec h0 hB.1.2) hr hy ?_
    exact ih (k + 1) _ _ (fun j hj => by have := hl (j + 1) (by simp; omega); simpa [Nat.add_assoc, Nat.add_comm 1 j] using this) (by simp only [List.length_cons] at hk; omega) (inv.set hr hkn) hB.2 hd hK
/-- Behind the middle: the rest of the region. -/
def restQ (P : Program) (ops : Array Oper) (g : Nat) (D : Array Bool) (Q : Exit → Act → World → Prop) : Exit → Act → World → Prop
  | .normal, a, w => wpAny P .any ops Q g D a w
  | .exit i, a, w => Q (.exit i) a w
  | .goto i, a, w => Q (.goto i) a w
  | .ret, a, w => Q .ret a w
  | .panic c, a, w => Q (.panic c) a w
  | .outgrown, a, w => Q .outgrown a w
theorem restQ_normal {P : Program} {ops : Array Oper} {g : Nat} {D : Array Bool} {Q : Exit → Act → World → Prop} {a : Act} {w : World} (h : wpAny P .any ops Q g D a w) : restQ P ops g D Q .normal a w := h
theorem upon_rest {P : Program} {ops : Array Oper} {g : Nat} {D : Array Bool} {Q : Exit → Act → World → Prop} {o : Oper} {a : Act} {w : World} {K : Act → World → Prop} (h : o.wp P a w K (restQ P ops g D Q)) : o.wp P a w K Q := by
  unfold Oper.wp at *
  generalize (execOp a.eval o).run P w = r at *
  cases r with
  | ok n w' =>
    cases n <;> simp only [Oper.upon] at h ⊢ <;>
      first
        | exact h
        | exact Calls.mono h (fun e w'' he => by cases e <;> exact he)
  | halt x w' => cases x <;> simp only [Oper.upon] at h ⊢ <;> exact h
theorem wpAny_mid {P : Program} {ops : Array Oper} {g : Nat} {D : Array Bool} {Q : Exit → Act → World → Prop} : ∀ (l : List Oper) (k : Nat) (listed : Array Bool) (a : Act) (w : World), (∀ j, j < l.length → l[j]? = ops[k + j]?) →
    seqTo .any ops l.length k listed = true → doneTo l.length k listed = D → wpList P ops (restQ P ops g D Q) l a w → wpAny P .any ops Q (l.length + g) listed a w
  | [], _, _, _, _, _, _, hd, h => by
    subst hd
    rw [List.length_nil, Nat.zero_add]
    exact h
  | o :: l, k, listed, a, w, hl, hB, hd, h => by
    have h0 : ops[k]? = some o := by simpa using (hl 0 (by simp)).symm
    simp only [List.length_cons, seqTo, Bool.and_eq_true, decide_eq_true_eq] at hB
    rw [List.length_cons, show l.length + 1 + g = (l.length + g) + 1 by omega]
    refine ⟨fun h1 => (by rw [hB.1] at h1; cases h1), fun i hi => ?_⟩
    rw [hB.1] at hi
    have hik : i = k := by simpa using hi
    subst hik
    have hw : wpOp P ops Q i (wpList P ops (restQ P ops g D Q) l) a w := by
      unfold wpOp
      simp only [h0]
      unfold wpList at h
      by_cases hg : Region.wanted o (yielded ops a.tmps) = true
      · rw [if_pos hg] at h ⊢
        exact h.imp upon_rest id
      · rw [if_neg hg] at h ⊢
        exact h
    exact wpOp_mono (fun a' w' h' => wpAny_mid l (i + 1) _ a' w' (fun j hj => by have := hl (j + 1) (by simp; omega); simpa [Nat.add_assoc, Nat.add_comm 1 j] using this) hB.2 hd h') hw
/-- May the region be parted at n and at k? -/
def midB (ops : Array Oper) (n k : Nat) : Bool :=
  Region.noSelect ops && decide (n ≤ k) && decide (k ≤ ops.size) && Region.sinkB .any ops n && fanB .any ops n && lexTo .any ops n 0 (Array.replicate ops.size false) &&
    (Region.ready .any ops (doneTo n 0 (Array.replicate ops.size false))).all (fun j => decide (n ≤ j)) && seqTo .any ops (k - n) n (doneTo n 0 (Array.replicate ops.size false))
theorem wp_region_mid {P : Program} {id : Nat} {Q : Exit → Act → World → Prop} {a : Act} {w : World} {l : List Oper} (m n k : Nat) (hm : P.follows .mixedOrders = true) (hB : midB l.toArray n k = true)
    (h : wpQuiet P l.toArray (fun w' => ∃ u : Ws m w, w' = u.val) (fun a' => ∀ u : Ws m w, wpList P l.toArray (restQ P l.toArray (l.length - k) (doneTo (k - n) n (doneTo n 0 (Array.replicate l.toArray.size false))) Q) ((l.drop n).take (k - n)) a' u.val) (l.take n) a) : (Code.region id l.toArray true).wp P Q a w := by
  simp only [midB, Bool.and_eq_true, decide_eq_true_eq] at hB
  obtain ⟨⟨⟨⟨⟨⟨⟨hsel, hnk⟩, hk⟩, hs⟩, hc⟩, hlex⟩, hD⟩, hseq⟩ := hB
  have hk' : k ≤ l.length := by simpa using hk
  have htl : (l.take n).length = n := by simp; omega
  have hml : ((l.drop n).take (k - n)).length = k - n := by simp; omega
  have hD' : ∀ j ∈ Region.ready .any l.toArray (doneTo n 0 (Array.replicate l.toArray.size false)), n ≤ j := fun j hj => by simpa using List.all_eq_true.1 hD j hj
  have inv0 : HeadInv .any l.toArray n (Array.replicate l.toArray.size false) :=
    ⟨by simp, fun j oj _ hl => (by rw [getD_replicate_false] at hl; cases hl), fun t _ ht => getD_in (by simpa using ht) (getD_replicate_false _ _)⟩
  have H := headQ_to (md := .any) hsel hs hc hD' (l.take n) 0 _ a (fun j hj => by rw [htl] at hj; simp [hj]) (by simpa using htl) inv0 (by rw [htl]; exact hlex) (by rw [htl]) h
  refine wp_region_any hm ?_
  have h2 := headQ_sound (Q := Q) (g := l.toArray.size - n) (C := fun w' => ∃ u : Ws m w, w' = u.val) (fun listed a' w' hw' hL => by
    obtain ⟨u, rfl⟩ := hw'
    obtain ⟨rfl, hL2⟩ := hL
    have h3 := wpAny_mid (Q := Q) ((l.drop n).take (k - n)) n _ a' u.val (fun j hj => by rw [hml] at hj; simp [List.getElem?_drop, hj]) (by rw [hml]; exact hseq) (by rw [hml]) (hL2 u)
    rw [hml] at h3
    rwa [show k - n + (l.length - k) = l.toArray.size - n by simp; omega] at h3) _ _ _ _ ⟨⟨_, (Below.refl m w).drew⟩, rfl⟩ H
  rw [htl, show n + (l.toArray.size - n) = l.toArray.size by simp; omega] at h2
  exact h2
end Go.Proofs.YtpdoonkhnabfjaaGreat
/- What CheckBook of the reference comes to. -/
namespace Go.Proofs.YtpdoonkhnabfjaaGreat
open Go.RowKit Go.Shelf

/-- The book's box, at the mark. -/
structure CB (w W : World) (t : Int) (x : Option Addr) (n c : Nat) : Prop where
  hb : W.heap[w.heap.size]? = some (bkV t (.slice x n c))
  below : Below w.heap.size w W
theorem CB.later {w W W' : World} {t : Int} {x : Option Addr} {n c : Nat} (h : CB w W t x n c) (hb : Below W.heap.size W W') : CB w W' t x n c := ⟨heap_later hb h.hb, h.below.trans (hb.mono h.below.size)⟩
theorem ruleFine_at (mn mx us co a l : Int) (t : Bool) (h : ruleB mn mx us co l = t) (w : World) :
    Calls Tryz.prog 29 #[.agg #[.int .i64 mn, .int .i64 mx, .int .i64 us, .int .i64 co], .agg #[.int .i64 a, .int .i64 l]] w fun e w' => e = .returned (.bool t) ∧ Below w.heap.size w w' := by
  subst h
  exact ruleFine_any mn mx us co a l w
theorem checkR_at (a l : Int) (x : Option Addr) (n c : Nat) (ps : List (Int × Int)) (E : Int) (h : chkS a l n ps = E) (w : World) (hp : n ≤ 32 → PS w x n ps) :
    Calls Tryz.prog 40 #[.agg #[.int .i64 a, .int .i64 l, .slice x n c]] w fun e w' => e = .returned (.int .i64 E) ∧ Below w.heap.size w w' := by
  subst h
  exact checkR_any a l x n c ps w hp
theorem upFine_at (t : Int) (x : Option Addr) (n c : Nat) (ps : List Po) (p : Po) (T : Bool) (h : upB ps (n + 1) p = T) (w : World) (hp : PoS w x n ps) (hn : n ≤ 64) :
    Calls Tryz.prog 42 #[.agg #[.int .i64 t, .slice x n c], poV p] w fun e w' => e = .returned (.bool T) ∧ Below w.heap.size w w' := by
  subst h
  exact upFine_any t x n c ps p w hp hn
theorem leaseFine_at (t : Int) (p : Po) (x : Option Addr) (n c : Nat) (ps : List Po) (e : Le) (T : Bool) (h : leB t ps p.id e = T) (w : World) (hp : PoS w x n ps) (hn : n ≤ 64) (t0 : 0 ≤ t) (t1 : t ≤ 1073741824) :
    Calls Tryz.prog 43 #[.agg #[.int .i64 t, .slice x n c], poV p, leV e] w fun r w' => r = .returned (.bool T) ∧ Below w.heap.size w w' := by
  subst h
  exact leaseFine_any t p x n c ps e w hp hn t0 t1
theorem chkS_vals (a l : Int) (n : Nat) (ps : List (Int × Int)) : chkS a l n ps = 0 ∨ chkS a l n ps = 1 ∨ chkS a l n ps = 2 := by
  unfold chkS
  split
  · exact .inr (.inr rfl)
  · split
    · exact .inl rfl
    · exact .inr (.inl rfl)

set_option maxRecDepth 100000 in
set_option maxHeartbeats 6400000 in
theorem checkBook_any (t : Int) (x : Option Addr) (n c : Nat) (ps : List Po) (w : World) (hk : Bk w x n c ps) :
    Calls Tryz.prog 11 #[.agg #[.int .i64 t, .slice x n c]] w fun e w' => e = .returned (.int .i64 (chkB t ps)) ∧ Below w.heap.size w w' := by
  have hpl : Hid (ps.length = n) := hk.ps.len
  have hF : Hid (Full ps) := hk.full
  go_enter Tryz.func11, Tryz.ntmps11
  go_upto_region 1 with fail
  obtain ⟨w0, hw0⟩ : ∃ w0, w0 = w.alloc (bkV t (.slice x n c)) := ⟨_, rfl⟩
  rw [show w.alloc (.cells #[.int .i64 t, .slice x n c] 24) = w0 from hw0.symm]
  have hC0 : CB w w0 t x n c := by rw [hw0]; exact ⟨heap_new _ rfl, bl1 _ _⟩
  clear hw0
  have b0 : w0.cell? ⟨w.heap.size, 0, none⟩ = some (.int .i64 t) := (box_cells hC0.hb).1 0
  have b1 : w0.cell? ⟨w.heap.size, 1, none⟩ = some (.slice x n c) := (box_cells hC0.hb).1 1
  by_cases h8 : 8 < n
  · have h8' : (n : Int) > 8 := by omega
    have hE : Hid (chkB t ps = 2) := if_pos (by rw [hpl.out]; exact h8)
    go_wp2
    go_ret
    exact ⟨ret_int hE.out.symm, hC0.below⟩
  have h8' : ¬ (n : Int) > 8 := by omega
  have hn8 : n ≤ 8 := by omega
  have hrows : Hid (chkB t ps = 0 ↔ wth t 0 1073741824 = true ∧ ∀ j, j < ps.length → Row1 ps j ∧ Row2 t ps j) := chk_rows hF.out (by rw [hpl.out]; exact hn8)
  have h01 : Hid (chkB t ps = 0 ∨ chkB t ps = 1) := chk_01 (by rw [hpl.out]; exact hn8)
  clear h8
  cases hwt : wth t 0 1073741824 with
  | false =>
    have hE : Hid (chkB t ps = 1) := by
      rcases h01.out with h | h
      · have := (hrows.out.1 h).1
        rw [hwt] at this
        cases this
      · exact h
    go_wp2_with fail
    refine (within_at t 0 1073741824 false hwt _).mono ?_
    rintro e w1 ⟨rfl, rfl⟩
    go_wp2
    go_ret
    exact ⟨ret_int hE.out.symm, hC0.below⟩
  | true =>
    have hbad1 : Hid (∀ j, j < n → ¬ Row1 ps j → chkB t ps = 1) := fun j hj hr => by
      rcases h01.out with h | h
      · exact absurd ((hrows.out.1 h).2 j (by rw [hpl.out]; exact hj)).1 hr
      · exact h
    have hbad2 : Hid (∀ j, j < n → ¬ Row2 t ps j → chkB t ps = 1) := fun j hj hr => by
      rcases h01.out with h | h
      · exact absurd ((hrows.out.1 h).2 j (by rw [hpl.out]; exact hj)).2 hr
      · exact h
    have hgood : Hid ((∀ j, j < n → Row1 ps j) → (∀ j, j < n → Row2 t ps j) → chkB t ps = 0) := fun g1 g2 => hrows.out.2 ⟨hwt, fun j hj => by rw [hpl.out] at hj; exact ⟨g1 j hj, g2 j hj⟩⟩
    clear hrows h01
    have ht : 0 ≤ t ∧ t ≤ 1073741824 := by unfold wth at hwt; simpa using hwt
    go_wp2_with fail
    refine (within_at t 0 1073741824 true hwt _).mono ?_
    rintro e w1 ⟨rfl, rfl⟩
    clear b0 b1 hwt
    go_wp2
    go_loopw [3] (fun i wr => ∃ k : Nat, i = .int .i64 k ∧ k ≤ n ∧ CB w wr t x n c ∧ ∀ j, j < k → Row1 ps j) (fun i _ => n - (intOf i).toNat)
    case atStart => exact ⟨0, rfl, by omega, hC0, fun j hj => by omega⟩
    case round =>
      obtain ⟨k, rfl, hkn, hC, hr1⟩ := hrel
      have hr1' : Hid (∀ j, j < k → Row1 ps j) := hr1
      clear hr1 hC0
      have b1 : wr.cell? ⟨w.heap.size, 1, none⟩ = some (.slice x n c) := (box_cells hC.hb).1 1
      by_cases hlt : k < n
      · have hkw := hk.later hC.below
        obtain ⟨b, o, rfl, c0, c1, c2, c3, c4, c5, c6, c7, c8⟩ := hkw.ps.cells k hlt
        obtain ⟨hlc, hlm, hLS⟩ := hkw.ps.leases k hlt
        have hk0 : (0 : Int) ≤ k := by omega
        have hkn2 : (k : Int) < n := by omega
        have hlth : Hid (k < n) := hlt
        clear hlt
        go_upto_region 9 with fail
        obtain ⟨w2, hw2⟩ : ∃ w2, w2 = wr.alloc (poB (poAt ps k)) := ⟨_, rfl⟩
        rw [show wr.alloc (.cells #[.int .i64 (poAt ps k).id, .int .i64 (poAt ps k).up, .int .i64 (poAt ps k).a, .int .i64 (poAt ps k).l, .int .i64 (poAt ps k).mn, .int .i64 (poAt ps k).mx, .int .i64 (poAt ps k).us, .int .i64 (poAt ps k).co, .slice (poAt ps k).x (poAt ps k).n (poAt ps k).c] 49) = w2 from hw2.symm]
        have hB2 : Below wr.heap.size wr w2 := by rw [hw2]; exact bl1 _ _
        have hv2 : w2.heap[wr.heap.size]? = some (poB (poAt ps k)) := by rw [hw2]; exact heap_new _ rfl
        have hC2 := hC.later hB2
        have hLS2 := hLS.later hB2
        have hk2 := hkw.later hB2
        clear hw2 hB2 b1 c0 c1 c2 c3 c4 c5 c6 c7 c8 hLS hkw hC
        generalize wr.heap.size = pb at hv2 ⊢
        have g1 := Ws.here (show w2.cell? ⟨w.heap.size, 1, none⟩ = some (.slice (some ⟨b, o, none⟩) n c) from (box_cells hC2.hb).1 1)
        have q0 := Ws.here (show w2.cell? ⟨pb, 0, none⟩ = some (.int .i64 (poAt ps k).id) from (box_cells hv2).1 0)
        have q1 := Ws.here (show w2.cell? ⟨pb, 1, none⟩ = some (.int .i64 (poAt ps k).up) from (box_cells hv2).1 1)
        have q2 := Ws.here (show w2.cell? ⟨pb, 2, none⟩ = some (.int .i64 (poAt ps k).a) from (box_cells hv2).1 2)
        have q3 := Ws.here (show w2.cell? ⟨pb, 3, none⟩ = some (.int .i64 (poAt ps k).l) from (box_cells hv2).1 3)
        have q4 := Ws.here (show w2.cell? ⟨pb, 4, none⟩ = some (.int .i64 (poAt ps k).mn) from (box_cells hv2).1 4)
        have q5 := Ws.here (show w2.cell? ⟨pb, 5, none⟩ = some (.int .i64 (poAt ps k).mx) from (box_cells hv2).1 5)
        have q6 := Ws.here (show w2.cell? ⟨pb, 6, none⟩ = some (.int .i64 (poAt ps k).us) from (box_cells hv2).1 6)
        have q7 := Ws.here (show w2.cell? ⟨pb, 7, none⟩ = some (.int .i64 (poAt ps k).co) from (box_cells hv2).1 7)
        have q8 := Ws.here (show w2.cell? ⟨pb, 8, none⟩ = some (.slice (poAt ps k).x (poAt ps k).n (poAt ps k).c) from (box_cells hv2).1 8)
        cases hid : wth (poAt ps k).id 1 65536
        · have hE : Hid (chkB t ps = 1) := hbad1.out k hlth.out fun h => by
            have := h.1
            rw [hid] at this
            cases this
          refine wp_region_ws w2.heap.size (by kernel_rfl) (by kernel_rfl) ?_
          repeat (go_big_quiet_step ((go_at_call 25; exact Calls.in_ws_same (within_at _ _ _ _ hid _))))
          refine wpQuiet_nil ?_
          rintro _ ⟨u, rfl⟩
          have hu := hC2.later u.property
          generalize u.val = wu at hu ⊢
          clear u g1 q0 q1 q2 q3 q4 q5 q6 q7 q8
          go_wp2
          go_ret
          exact ⟨ret_int hE.out.symm, hu.below⟩
        · cases k with
          | zero =>
            have hrise : Hid (0 = 0 ∨ (poAt ps (0 - 1)).id < (poAt ps 0).id) := .inl rfl
            obtain ⟨E, hch⟩ : ∃ E, chkS (poAt ps 0).a (poAt ps 0).l (poAt ps 0).n (lp (poAt ps 0).ls) = E := ⟨_, rfl⟩
            have hch' : Hid (chkS (poAt ps 0).a (poAt ps 0).l (poAt ps 0).n (lp (poAt ps 0).ls) = E) := hch
            have hcr := fun (W : World) (x' : Option Addr) (c' : Nat) (hp : PS W x' (poAt ps 0).n (lp (poAt ps 0).ls)) => checkR_at (poAt ps 0).a (poAt ps 0).l x' (poAt ps 0).n c' (lp (poAt ps 0).ls) E hch W (fun _ => hp)
            clear hch
            refine wp_region_mid w2.heap.size 22 24 (by kernel_rfl) (by kernel_rfl) ?_
            simp only [List.take_succ_cons, List.take_zero, List.drop_succ_cons, List.drop_zero]
            repeat (go_big_quiet_step ((go_at_call 25; exact Calls.in_ws_same (within_at _ _ _ _ hid _))))
            refine wpQuiet_nil ?_
            intro uu
            have hB3 := uu.property
            generalize uu.val = w3 at hB3 ⊢
            clear uu g1 q0 q1 q2 q3 q4 q5 q6 q7 q8
            go_wp2_with fail
            refine (spaceOfR_any (poAt ps 0) w3 (hLS2.later hB3) hlm).mono ?_
            rintro e w4 ⟨x', c', rfl, hB4, hPS⟩
            go_wp2_with fail
            refine (hcr w4 x' c' hPS).mono ?_
            rintro e w5 ⟨rfl, hB5⟩
            have hB25 : Below w2.heap.size w2 w5 := (hB3.trans (hB4.mono hB3.size)).trans (hB5.mono (Nat.le_trans hB3.size hB4.size))
            have hC5 := hC2.later hB25
            have hv5 := heap_later hB25 hv2
            clear hB3 hB4 hB5 hPS hcr hv2 hC2 hLS2
            go_wp2_with fail
            refine restQ_normal ?_
            have q2 := Ws.here (show w5.cell? ⟨pb, 2, none⟩ = some (.int .i64 (poAt ps 0).a) from (box_cells hv5).1 2)
            have q3 := Ws.here (show w5.cell? ⟨pb, 3, none⟩ = some (.int .i64 (poAt ps 0).l) from (box_cells hv5).1 3)
            have q4 := Ws.here (show w5.cell? ⟨pb, 4, none⟩ = some (.int .i64 (poAt ps 0).mn) from (box_cells hv5).1 4)
            have q5 := Ws.here (show w5.cell? ⟨pb, 5, none⟩ = some (.int .i64 (poAt ps 0).mx) from (box_cells hv5).1 5)
            have q6 := Ws.here (show w5.cell? ⟨pb, 6, none⟩ = some (.int .i64 (poAt ps 0).us) from (box_cells hv5).1 6)
            have q7 := Ws.here (show w5.cell? ⟨pb, 7, none⟩ = some (.int .i64 (poAt ps 0).co) from (box_cells hv5).1 7)
            by_cases hE0 : E = 0
            · subst hE0
              cases hru : ruleB (poAt ps 0).mn (poAt ps 0).mx (poAt ps 0).us (poAt ps 0).co (poAt ps 0).l
              · have hE : Hid (chkB t ps = 1) := hbad1.out 0 hlth.out fun h => by
                  have := h.2.2.2
                  rw [hru] at this
                  cases this
                refine wpAny_ws w5.heap.size 24 (by kernel_rfl) rfl rfl (by kernel_rfl) ?_
                simp only [List.drop_succ_cons, List.drop_zero]
                repeat (go_big_quiet_step ((go_at_call 29; exact Calls.in_ws (Nat.le_refl _) (ruleFine_at _ _ _ _ _ _ _ hru _))))
                refine wpQuiet_nil ?_
                rintro _ ⟨u, rfl⟩
                have hu := hC5.later u.property
                generalize u.val = wu at hu ⊢
                clear u q2 q3 q4 q5 q6 q7
                go_wp2
                go_ret
                exact ⟨ret_int hE.out.symm, hu.below⟩
              · refine wpAny_ws w5.heap.size 24 (by kernel_rfl) rfl rfl (by kernel_rfl) ?_
                simp only [List.drop_succ_cons, List.drop_zero]
                repeat (go_big_quiet_step ((go_at_call 29; exact Calls.in_ws (Nat.le_refl _) (ruleFine_at _ _ _ _ _ _ _ hru _))))
                refine wpQuiet_nil ?_
                rintro _ ⟨u, rfl⟩
                have hu := hC5.later u.property
                generalize u.val = wu at hu ⊢
                clear u q2 q3 q4 q5 q6 q7
                go_wp2
                go_roundw
                case rel => exact ⟨1, by go_num, hlth.out, hu, fun j hj => by
                    obtain rfl : j = 0 := by omega
                    exact ⟨hid, .inl rfl, hch'.out, hru⟩⟩
                case measure => simp [intOf]; omega
            · have hE12 : E = 1 ∨ E = 2 := by
                rcases chkS_vals (poAt ps 0).a (poAt ps 0).l (poAt ps 0).n (lp (poAt ps 0).ls) with h | h | h
                · exact absurd (hch'.out.symm.trans h) hE0
                · exact .inl (hch'.out.symm.trans h)
                · exact .inr (hch'.out.symm.trans h)
              have hE : Hid (chkB t ps = 1) := hbad1.out 0 hlth.out fun h => hE0 (hch'.out.symm.trans h.2.2.1)
              clear hE0 hch'
              rcases hE12 with rfl | rfl
              all_goals refine wpAny_ws w5.heap.size 24 (by kernel_rfl) rfl rfl (by kernel_rfl) ?_
              all_goals simp only [List.drop_succ_cons, List.drop_zero]
              all_goals repeat (go_big_quiet_step (fail))
              all_goals refine wpQuiet_nil ?_
              all_goals rintro _ ⟨u, rfl⟩
              all_goals have hu := hC5.later u.property
              all_goals generalize u.val = wu at hu ⊢
              all_goals clear u q2 q3 q4 q5 q6 q7
              all_goals go_wp2
              all_goals go_ret
              all_goals exact ⟨ret_int hE.out.symm, hu.below⟩
          | succ k' =>
            obtain ⟨b2, o2, hbo, c2', -⟩ := hk2.ps.cells k' (by omega)
            simp only [Option.some.injEq, Addr.mk.injEq, and_true] at hbo
            obtain ⟨rfl, rfl⟩ := hbo
            have r0 := Ws.here c2'
            clear c2'
            by_cases hle : (poAt ps (k' + 1)).id ≤ (poAt ps k').id
            · have hE : Hid (chkB t ps = 1) := hbad1.out (k' + 1) hlth.out fun h => by
                rcases h.2.1 with h | h
                · omega
                · rw [Nat.add_sub_cancel] at h
                  omega
              refine wp_region_ws w2.heap.size (by kernel_rfl) (by kernel_rfl) ?_
              repeat (go_big_quiet_step ((go_at_call 25; exact Calls.in_ws_same (within_at _ _ _ _ hid _))))
              refine wpQuiet_nil ?_
              rintro _ ⟨u, rfl⟩
              have hu := hC2.later u.property
              generalize u.val = wu at hu ⊢
              clear u g1 q0 q1 q2 q3 q4 q5 q6 q7 q8 r0
              go_wp2
              go_ret
              exact ⟨ret_int hE.out.symm, hu.below⟩
            have hd : decide ((poAt ps (k' + 1)).id ≤ (poAt ps k').id) = false := by simpa using hle
            have hrise : Hid (k' + 1 = 0 ∨ (poAt ps (k' + 1 - 1)).id < (poAt ps (k' + 1)).id) := .inr (by rw [Nat.add_sub_cancel]; omega)
            obtain ⟨E, hch⟩ : ∃ E, chkS (poAt ps (k' + 1)).a (poAt ps (k' + 1)).l (poAt ps (k' + 1)).n (lp (poAt ps (k' + 1)).ls) = E := ⟨_, rfl⟩
            have hch' : Hid (chkS (poAt ps (k' + 1)).a (poAt ps (k' + 1)).l (poAt ps (k' + 1)).n (lp (poAt ps (k' + 1)).ls) = E) := hch
            have hcr := fun (W : World) (x' : Option Addr) (c' : Nat) (hp : PS W x' (poAt ps (k' + 1)).n (lp (poAt ps (k' + 1)).ls)) => checkR_at (poAt ps (k' + 1)).a (poAt ps (k' + 1)).l x' (poAt ps (k' + 1)).n c' (lp (poAt ps (k' + 1)).ls) E hch W (fun _ => hp)
            clear hch
            refine wp_region_mid w2.heap.size 22 24 (by kernel_rfl) (by kernel_rfl) ?_
            simp only [List.take_succ_cons, List.take_zero, List.drop_succ_cons, List.drop_zero]
            repeat (go_big_quiet_step ((go_at_call 25; exact Calls.in_ws_same (within_at _ _ _ _ hid _))))
            refine wpQuiet_nil ?_
            intro uu
            have hB3 := uu.property
            generalize uu.val = w3 at hB3 ⊢
            clear uu g1 q0 q1 q2 q3 q4 q5 q6 q7 q8 r0
            go_wp2_with fail
            refine (spaceOfR_any (poAt ps (k' + 1)) w3 (hLS2.later hB3) hlm).mono ?_
            rintro e w4 ⟨x', c', rfl, hB4, hPS⟩
            go_wp2_with fail
            refine (hcr w4 x' c' hPS).mono ?_
            rintro e w5 ⟨rfl, hB5⟩
            have hB25 : Below w2.heap.size w2 w5 := (hB3.trans (hB4.mono hB3.size)).trans (hB5.mono (Nat.le_trans hB3.size hB4.size))
            have hC5 := hC2.later hB25
            have hv5 := heap_later hB25 hv2
            clear hB3 hB4 hB5 hPS hcr hv2 hC2 hLS2
            go_wp2_with fail
            refine restQ_normal ?_
            have q2 := Ws.here (show w5.cell? ⟨pb, 2, none⟩ = some (.int .i64 (poAt ps (k' + 1)).a) from (box_cells hv5).1 2)
            have q3 := Ws.here (show w5.cell? ⟨pb, 3, none⟩ = some (.int .i64 (poAt ps (k' + 1)).l) from (box_cells hv5).1 3)
            have q4 := Ws.here (show w5.cell? ⟨pb, 4, none⟩ = some (.int .i64 (poAt ps (k' + 1)).mn) from (box_cells hv5).1 4)
            have q5 := Ws.here (show w5.cell? ⟨pb, 5, none⟩ = some (.int .i64 (poAt ps (k' + 1)).mx) from (box_cells hv5).1 5)
            have q6 := Ws.here (show w5.cell? ⟨pb, 6, none⟩ = some (.int .i64 (poAt ps (k' + 1)).us) from (box_cells hv5).1 6)
            have q7 := Ws.here (show w5.cell? ⟨pb, 7, none⟩ = some (.int .i64 (poAt ps (k' + 1)).co) from (box_cells hv5).1 7)
            by_cases hE0 : E = 0
            · subst hE0
              cases hru : ruleB (poAt ps (k' + 1)).mn (poAt ps (k' + 1)).mx (poAt ps (k' + 1)).us (poAt ps (k' + 1)).co (poAt ps (k' + 1)).l
              · have hE : Hid (chkB t ps = 1) := hbad1.out (k' + 1) hlth.out fun h => by
                  have := h.2.2.2
                  rw [hru] at this
                  cases this
                refine wpAny_ws w5.heap.size 24 (by kernel_rfl) rfl rfl (by kernel_rfl) ?_
                simp only [List.drop_succ_cons, List.drop_zero]
                repeat (go_big_quiet_step ((go_at_call 29; exact Calls.in_ws (Nat.le_refl _) (ruleFine_at _ _ _ _ _ _ _ hru _))))
                refine wpQuiet_nil ?_
                rintro _ ⟨u, rfl⟩
                have hu := hC5.later u.property
                generalize u.val = wu at hu ⊢
                clear u q2 q3 q4 q5 q6 q7
                go_wp2
                go_ret
                exact ⟨ret_int hE.out.symm, hu.below⟩
              · refine wpAny_ws w5.heap.size 24 (by kernel_rfl) rfl rfl (by kernel_rfl) ?_
                simp only [List.drop_succ_cons, List.drop_zero]
                repeat (go_big_quiet_step ((go_at_call 29; exact Calls.in_ws (Nat.le_refl _) (ruleFine_at _ _ _ _ _ _ _ hru _))))
                refine wpQuiet_nil ?_
                rintro _ ⟨u, rfl⟩
                have hu := hC5.later u.property
                generalize u.val = wu at hu ⊢
                clear u q2 q3 q4 q5 q6 q7
                go_wp2
                go_roundw
                case rel => exact ⟨k' + 1 + 1, by go_num, hlth.out, hu, fun j hj => by
                    by_cases hj2 : j < k' + 1
                    · exact hr1'.out j hj2
                    · obtain rfl : j = k' + 1 := by omega
                      exact ⟨hid, hrise.out, hch'.out, hru⟩⟩
                case measure => simp [intOf]; omega
            · have hE12 : E = 1 ∨ E = 2 := by
                rcases chkS_vals (poAt ps (k' + 1)).a (poAt ps (k' + 1)).l (poAt ps (k' + 1)).n (lp (poAt ps (k' + 1)).ls) with h | h | h
                · exact absurd (hch'.out.symm.trans h) hE0
                · exact .inl (hch'.out.symm.trans h)
                · exact .inr (hch'.out.symm.trans h)
              have hE : Hid (chkB t ps = 1) := hbad1.out (k' + 1) hlth.out fun h => hE0 (hch'.out.symm.trans h.2.2.1)
              clear hE0 hch'
              rcases hE12 with rfl | rfl
              all_goals refine wpAny_ws w5.heap.size 24 (by kernel_rfl) rfl rfl (by kernel_rfl) ?_
              all_goals simp only [List.drop_succ_cons, List.drop_zero]
              all_goals repeat (go_big_quiet_step (fail))
              all_goals refine wpQuiet_nil ?_
              all_goals rintro _ ⟨u, rfl⟩
              all_goals have hu := hC5.later u.property
              all_goals generalize u.val = wu at hu ⊢
              all_goals clear u q2 q3 q4 q5 q6 q7
              all_goals go_wp2
              all_goals go_ret
              all_goals exact ⟨ret_int hE.out.symm, hu.below⟩
      · have hall1 : Hid (∀ j, j < n → Row1 ps j) := fun j hj => hr1'.out j (by omega)
        have hnk : ¬ (k : Int) < n := by omega
        clear hr1' hbad1 hlt
        go_wp2
        go_loopw [5] (fun i wr => ∃ k : Nat, i = .int .i64 k ∧ k ≤ n ∧ CB w wr t x n c ∧ ∀ j, j < k → Row2 t ps j) (fun i _ => n - (intOf i).toNat)
        case atStart => exact ⟨0, rfl, by omega, hC, fun j hj => by omega⟩
        case round =>
          clear hC hnk b1 hkn
          obtain ⟨k, rfl, hkn, hC, hr2⟩ := hrel
          have hr2' : Hid (∀ j, j < k → Row2 t ps j) := hr2
          clear hr2
          have b1 : wr.cell? ⟨w.heap.size, 1, none⟩ = some (.slice x n c) := (box_cells hC.hb).1 1
          by_cases hlt : k < n
          · have hkw := hk.later hC.below
            obtain ⟨b, o, rfl, c0, c1, c2, c3, c4, c5, c6, c7, c8⟩ := hkw.ps.cells k hlt
            obtain ⟨hlc, hlm, hLS⟩ := hkw.ps.leases k hlt
            have hk0 : (0 : Int) ≤ k := by omega
            have hkn2 : (k : Int) < n := by omega
            have hlth : Hid (k < n) := hlt
            clear hlt
            go_upto_region 15 with fail
            obtain ⟨w2, hw2⟩ : ∃ w2, w2 = wr.alloc (poB (poAt ps k)) := ⟨_, rfl⟩
            rw [show wr.alloc (.cells #[.int .i64 (poAt ps k).id, .int .i64 (poAt ps k).up, .int .i64 (poAt ps k).a, .int .i64 (poAt ps k).l, .int .i64 (poAt ps k).mn, .int .i64 (poAt ps k).mx, .int .i64 (poAt ps k).us, .int .i64 (poAt ps k).co, .slice (poAt ps k).x (poAt ps k).n (poAt ps k).c] 49) = w2 from hw2.symm]
            have hB2 : Below wr.heap.size wr w2 := by rw [hw2]; exact bl1 _ _
            have hv2 : w2.heap[wr.heap.size]? = some (poB (poAt ps k)) := by rw [hw2]; exact heap_new _ rfl
            have hC2 := hC.later hB2
            have hLS2 := hLS.later hB2
            have hk2 := hkw.later hB2
            clear hw2 hB2 b1 c0 c1 c2 c3 c4 c5 c6 c7 c8 hLS hkw hC
            generalize wr.heap.size = pb at hv2 ⊢
            have b0 : w2.cell? ⟨w.heap.size, 0, none⟩ = some (.int .i64 t) := (box_cells hC2.hb).1 0
            have b1 : w2.cell? ⟨w.heap.size, 1, none⟩ = some (.slice (some ⟨b, o, none⟩) n c) := (box_cells hC2.hb).1 1
            have q0 : w2.cell? ⟨pb, 0, none⟩ = some (.int .i64 (poAt ps k).id) := (box_cells hv2).1 0
            have q1 : w2.cell? ⟨pb, 1, none⟩ = some (.int .i64 (poAt ps k).up) := (box_cells hv2).1 1
            have q2 : w2.cell? ⟨pb, 2, none⟩ = some (.int .i64 (poAt ps k).a) := (box_cells hv2).1 2
            have q3 : w2.cell? ⟨pb, 3, none⟩ = some (.int .i64 (poAt ps k).l) := (box_cells hv2).1 3
            have q4 : w2.cell? ⟨pb, 4, none⟩ = some (.int .i64 (poAt ps k).mn) := (box_cells hv2).1 4
            have q5 : w2.cell? ⟨pb, 5, none⟩ = some (.int .i64 (poAt ps k).mx) := (box_cells hv2).1 5
            have q6 : w2.cell? ⟨pb, 6, none⟩ = some (.int .i64 (poAt ps k).us) := (box_cells hv2).1 6
            have q7 : w2.cell? ⟨pb, 7, none⟩ = some (.int .i64 (poAt ps k).co) := (box_cells hv2).1 7
            have q8 : w2.cell? ⟨pb, 8, none⟩ = some (.slice (poAt ps k).x (poAt ps k).n (poAt ps k).c) := (box_cells hv2).1 8
            cases hup : upB ps (n + 1) (poAt ps k)
            · have hE : Hid (chkB t ps = 1) := hbad2.out k hlth.out fun h => by
                have := h.1
                rw [hpl.out, hup] at this
                cases this
              go_wp2_with fail
              refine (upFine_at t (some ⟨b, o, none⟩) n c ps (poAt ps k) false hup w2 hk2.ps (by omega)).mono ?_
              rintro e w3 ⟨rfl, hB3⟩
              go_wp2
              go_ret
              exact ⟨ret_int hE.out.symm, (hC2.later hB3).below⟩
            go_wp2_with fail
            refine (upFine_at t (some ⟨b, o, none⟩) n c ps (poAt ps k) true hup w2 hk2.ps (by omega)).mono ?_
            rintro e w3 ⟨rfl, hB3⟩
            have hup' : Hid (upB ps (n + 1) (poAt ps k) = true) := hup
            have hC3 := hC2.later hB3
            have hv3 := heap_later hB3 hv2
            have hLS3 := hLS2.later hB3
            have hk3 := hk2.later hB3
            clear hup hB3 b0 b1 q0 q1 q2 q3 q4 q5 q6 q7 q8 hC2 hv2 hLS2 hk2
            go_wp2
            go_loopw [7] (fun i wr => ∃ j : Nat, i = .int .i64 j ∧ j ≤ (poAt ps k).n ∧ Below w3.heap.size w3 wr ∧ ∀ q, q < j → leB t ps (poAt ps k).id (leAt (poAt ps k).ls q) = true) (fun i _ => (poAt ps k).n - (intOf i).toNat)
            case atStart => exact ⟨0, rfl, by omega, Below.refl _ _, fun j hj => by omega⟩
            case round =>
              obtain ⟨j, rfl, hjn, hB4, hle⟩ := hrel
              have hle' : Hid (∀ q, q < j → leB t ps (poAt ps k).id (leAt (poAt ps k).ls q) = true) := hle
              clear hle
              have hC4 := hC3.later hB4
              have hv4 := heap_later hB4 hv3
              have hk4 := hk3.later hB4
              have q8 : wr.cell? ⟨pb, 8, none⟩ = some (.slice (poAt ps k).x (poAt ps k).n (poAt ps k).c) := (box_cells hv4).1 8
              by_cases hltj : j < (poAt ps k).n
              · obtain ⟨b2, o2, hx2, e0, e1, e2, e3, e4⟩ := (hLS3.later hB4).cells j hltj
                have hjn2 : (j : Int) < (poAt ps k).n := by omega
                have hj0 : (0 : Int) ≤ j := by omega
                have hltjh : Hid (j < (poAt ps k).n) := hltj
                clear hltj
                go_upto_region 20 with fail
                have hlf := fun (T : Bool) (h : leB t ps (poAt ps k).id (leAt (poAt ps k).ls j) = T) (W : World) (hW : Bk W (some ⟨b, o, none⟩) n c ps) => leaseFine_at t (poAt ps k) (some ⟨b, o, none⟩) n c ps (leAt (poAt ps k).ls j) T h W hW.ps (by omega) ht.1 ht.2
                rw [show poV (poAt ps k) = .agg #[.int .i64 (poAt ps k).id, .int .i64 (poAt ps k).up, .int .i64 (poAt ps k).a, .int .i64 (poAt ps k).l, .int .i64 (poAt ps k).mn, .int .i64 (poAt ps k).mx, .int .i64 (poAt ps k).us, .int .i64 (poAt ps k).co, .slice (poAt ps k).x (poAt ps k).n (poAt ps k).c] from rfl] at hlf
                have q8' := q8
                rw [hx2] at q8' hlf
                have g0 := Ws.here (show wr.cell? ⟨w.heap.size, 0, none⟩ = some (.int .i64 t) from (box_cells hC4.hb).1 0)
                have g1 := Ws.here (show wr.cell? ⟨w.heap.size, 1, none⟩ = some (.slice (some ⟨b, o, none⟩) n c) from (box_cells hC4.hb).1 1)
                have k0 := Ws.here (show wr.cell? ⟨pb, 0, none⟩ = some (.int .i64 (poAt ps k).id) from (box_cells hv4).1 0)
                have k1 := Ws.here (show wr.cell? ⟨pb, 1, none⟩ = some (.int .i64 (poAt ps k).up) from (box_cells hv4).1 1)
                have k2 := Ws.here (show wr.cell? ⟨pb, 2, none⟩ = some (.int .i64 (poAt ps k).a) from (box_cells hv4).1 2)
                have k3 := Ws.here (show wr.cell? ⟨pb, 3, none⟩ = some (.int .i64 (poAt ps k).l) from (box_cells hv4).1 3)
                have k4 := Ws.here (show wr.cell? ⟨pb, 4, none⟩ = some (.int .i64 (poAt ps k).mn) from (box_cells hv4).1 4)
                have k5 := Ws.here (show wr.cell? ⟨pb, 5, none⟩ = some (.int .i64 (poAt ps k).mx) from (box_cells hv4).1 5)
                have k6 := Ws.here (show wr.cell? ⟨pb, 6, none⟩ = some (.int .i64 (poAt ps k).us) from (box_cells hv4).1 6)
                have k7 := Ws.here (show wr.cell? ⟨pb, 7, none⟩ = some (.int .i64 (poAt ps k).co) from (box_cells hv4).1 7)
                have k8 := Ws.here q8'
                have l0 := Ws.here e0
                have l1 := Ws.here e1
                have l2 := Ws.here e2
                have l3 := Ws.here e3
                have l4 := Ws.here e4
                clear q8 q8' e0 e1 e2 e3 e4
                cases hlb : leB t ps (poAt ps k).id (leAt (poAt ps k).ls j)
                all_goals refine wp_region_ws wr.heap.size (by kernel_rfl) (by kernel_rfl) ?_
                all_goals repeat (go_big_quiet_step ((go_at_call 43; exact Calls.in_ws (Nat.le_refl _) (hlf _ hlb _ (hk4.later (Ws.property _))))))
                all_goals refine wpQuiet_nil ?_
                all_goals rintro _ ⟨u, rfl⟩
                all_goals have hu := u.property
                all_goals generalize u.val = wu at hu ⊢
                all_goals clear u g0 g1 k0 k1 k2 k3 k4 k5 k6 k7 k8 l0 l1 l2 l3 l4 hlf
                all_goals go_wp2
                · have hE : chkB t ps = 1 := hbad2.out k hlth.out fun h => by
                    have := h.2.1 j hltjh.out
                    rw [hlb] at this
                    cases this
                  go_ret
                  exact ⟨ret_int hE.symm, (hC4.later hu).below⟩
                · go_roundw
                  case rel => exact ⟨j + 1, by go_num, hltjh.out, hB4.trans (hu.mono hB4.size), fun q hq => by
                    by_cases hq2 : q < j
                    · exact hle'.out q hq2
                    · obtain rfl : q = j := by omega
                      exact hlb⟩
                  case measure => have := hltjh.out; simp [intOf]; omega
              · have hall : Hid (∀ q, q < (poAt ps k).n → leB t ps (poAt ps k).id (leAt (poAt ps k).ls q) = true) := fun q hq => hle'.out q (by omega)
                have hnj : ¬ (j : Int) < (poAt ps k).n := by omega
                clear hle' hltj hC3 hv3 hk3 hLS3
                go_wp2
                go_loopw [8] (fun i wr2 => ∃ m : Nat, i = .int .i64 m ∧ m ≤ k ∧ Below wr.heap.size wr wr2 ∧ ∀ q, q < m → ((poAt ps k).up = 0 ∧ (poAt ps q).up = 0) → mts (poAt ps k).a (poAt ps k).l (poAt ps q).a (poAt ps q).l = false) (fun i _ => k - (intOf i).toNat)
                case atStart => exact ⟨0, rfl, by omega, Below.refl _ _, fun j hj => by omega⟩
                case round =>
                  clear q8 hnj hjn
                  obtain ⟨m, rfl, hmk, hB5, hmt⟩ := hrel
                  have hmt' : Hid (∀ q, q < m → ((poAt ps k).up = 0 ∧ (poAt ps q).up = 0) → mts (poAt ps k).a (poAt ps k).l (poAt ps q).a (poAt ps q).l = false) := hmt
                  clear hmt
                  have hC5 := hC4.later hB5
                  have hv5 := heap_later hB5 hv4
                  have hk5 := hk4.later hB5
                  by_cases hltm : m < k
                  · obtain ⟨b2, o2, hbo, d0, d1, d2, d3, -⟩ := hk5.ps.cells m (by have := hlth.out; omega)
                    simp only [Option.some.injEq, Addr.mk.injEq, and_true] at hbo
                    obtain ⟨rfl, rfl⟩ := hbo
                    have hmn2 : (m : Int) < n := by have := hlth.out; omega
                    have hmk2 : (m : Int) < k := by omega
                    have hm0 : (0 : Int) ≤ m := by omega
                    have hltmh : Hid (m < k) := hltm
                    clear hltm d0
                    go_upto_region 25 with fail
                    have g1 := Ws.here (show wr.cell? ⟨w.heap.size, 1, none⟩ = some (.slice (some ⟨b, o, none⟩) n c) from (box_cells hC5.hb).1 1)
                    have k1 := Ws.here (show wr.cell? ⟨pb, 1, none⟩ = some (.int .i64 (poAt ps k).up) from (box_cells hv5).1 1)
                    have k2 := Ws.here (show wr.cell? ⟨pb, 2, none⟩ = some (.int .i64 (poAt ps k).a) from (box_cells hv5).1 2)
                    have k3 := Ws.here (show wr.cell? ⟨pb, 3, none⟩ = some (.int .i64 (poAt ps k).l) from (box_cells hv5).1 3)
                    have l1 := Ws.here d1
                    have l2 := Ws.here d2
                    have l3 := Ws.here d3
                    clear d1 d2 d3
                    cases hu1 : decide ((poAt ps k).up = 0)
                    · have hz : ¬ (poAt ps k).up = 0 := by simpa using hu1
                      have hzb : ((poAt ps k).up == 0) = false := by simpa using hu1
                      refine wp_region_ws wr.heap.size (by kernel_rfl) (by kernel_rfl) ?_
                      repeat (go_big_quiet_step (fail))
                      refine wpQuiet_nil ?_
                      rintro _ ⟨u, rfl⟩
                      have hu := u.property
                      generalize u.val = wu at hu ⊢
                      clear u g1 k1 k2 k3 l1 l2 l3
                      go_wp2
                      go_roundw
                      case rel => exact ⟨m + 1, by go_num, hltmh.out, hB5.trans (hu.mono hB5.size), fun q hq hqu => absurd hqu.1 hz⟩
                      case measure => have := hltmh.out; simp [intOf]; omega
                    · have hz : (poAt ps k).up = 0 := by simpa using hu1
                      have hzb : ((poAt ps k).up == 0) = true := by simpa using hu1
                      have hz' : Hid ((poAt ps k).up = 0) := hz
                      clear hz
                      cases hu2 : decide ((poAt ps m).up = 0)
                      · have hy : ¬ (poAt ps m).up = 0 := by simpa using hu2
                        have hyb : ((poAt ps m).up == 0) = false := by simpa using hu2
                        refine wp_region_ws wr.heap.size (by kernel_rfl) (by kernel_rfl) ?_
                        repeat (go_big_quiet_step (fail))
                        refine wpQuiet_nil ?_
                        rintro _ ⟨u, rfl⟩
                        have hu := u.property
                        generalize u.val = wu at hu ⊢
                        clear u g1 k1 k2 k3 l1 l2 l3
                        go_wp2
                        go_roundw
                        case rel => exact ⟨m + 1, by go_num, hltmh.out, hB5.trans (hu.mono hB5.size), fun q hq hqu => by
                          by_cases hq2 : q < m
                          · exact hmt'.out q hq2 hqu
                          · obtain rfl : q = m := by omega
                            exact absurd hqu.2 hy⟩
                        case measure => have := hltmh.out; simp [intOf]; omega
                      · have hy' : Hid ((poAt ps m).up = 0) := by unfold Hid; simpa using hu2
                        have hyb : ((poAt ps m).up == 0) = true := by simpa using hu2
                        cases hM : mts (poAt ps k).a (poAt ps k).l (poAt ps m).a (poAt ps m).l
                        all_goals refine wp_region_ws wr.heap.size (by kernel_rfl) (by kernel_rfl) ?_
                        all_goals repeat (go_big_quiet_step ((go_at_call 28; exact Calls.in_ws (Nat.le_refl _) (meet_is _ _ _ _ _ hM _))))
                        all_goals refine wpQuiet_nil ?_
                        all_goals rintro _ ⟨u, rfl⟩
                        all_goals have hu := u.property
                        all_goals generalize u.val = wu at hu ⊢
                        all_goals clear u g1 k1 k2 k3 l1 l2 l3
                        all_goals go_wp2
                        · go_roundw
                          case rel => exact ⟨m + 1, by go_num, hltmh.out, hB5.trans (hu.mono hB5.size), fun q hq hqu => by
                            by_cases hq2 : q < m
                            · exact hmt'.out q hq2 hqu
                            · obtain rfl : q = m := by omega
                              exact hM⟩
                          case measure => have := hltmh.out; simp [intOf]; omega
                        · have hE : chkB t ps = 1 := hbad2.out k hlth.out fun h => by
                            have := h.2.2 m hltmh.out ⟨hz'.out, hy'.out⟩
                            rw [hM] at this
                            cases this
                          go_ret
                          exact ⟨ret_int hE.symm, (hC5.later hu).below⟩
                  · have hnm : ¬ (m : Int) < k := by omega
                    have hfin : Row2 t ps k := ⟨by rw [hpl.out]; exact hup'.out, hall.out, fun q hq => hmt'.out q (by omega)⟩
                    go_wp2
                    go_roundw
                    case rel => exact ⟨k + 1, by go_num, hlth.out, hC5, fun q hq => by
                      by_cases hq2 : q < k
                      · exact hr2'.out q hq2
                      · obtain rfl : q = k := by omega
                        exact hfin⟩
                    case measure => have := hlth.out; simp [intOf]; omega
          · have hnk : ¬ (k : Int) < n := by omega
            have hE : Hid (chkB t ps = 0) := hgood.out hall1.out (fun j hj => hr2'.out j (by omega))
            go_wp2
            go_ret
            exact ⟨ret_int hE.out.symm, hC.below⟩
end Go.Proofs.YtpdoonkhnabfjaaGreat
/- What CloseOf of the reference comes to. -/
namespace Go.Proofs.YtpdoonkhnabfjaaGreat
open Go.RowKit Go.Shelf

theorem backL_same {p q : Po} (h : sameP p q) {a l t : Int} : backL q a l t = backL p a l t := by
  obtain ⟨-, -, -, -, -, -, -, h1, -, h2⟩ := h
  unfold backL
  rw [h1, h2]
/-- The pool i of ps with the lease of that prefix come back. -/
def BackAt (ps : List Po) (i : Nat) (a l t : Int) (rs : List Po) : Prop := ∃ qs x' c', sameB ps qs ∧ rs = qs.set i (withL (poAt qs i) x' (backL (poAt ps i) a l t).length c' (backL (poAt ps i) a l t))
def Close2At (t : Int) (ps : List Po) (i : Nat) (rs : List Po) : Prop :=
  ∃ qs, (atId ps (poAt ps i).up < 0 → sameB ps qs) ∧ (∀ k : Nat, atId ps (poAt ps i).up = k → BackAt ps k (poAt ps i).a (poAt ps i).l t qs) ∧ rs = qs.take i ++ qs.drop (i + 1)
def Close2R (t : Int) (ps : List Po) (id : Int) (t' : Int) (rs : List Po) : Prop := t' = t ∧ Close2At t ps (atId ps id).toNat rs
def Close2Post (t : Int) (ps : List Po) (id : Int) (w : World) : Ending → World → Prop := BkPost (closeE t ps id) (Close2R t ps id) w
/-- append(s[:i], s[i+1:]...) of a row of pools of the call's own. -/
theorem cutP_run (base g k cap i : Nat) (es : List Po) (w : World) (hO : OwnP w base (.slice (some ⟨g, 0, none⟩) (k + 1) cap) es) (hn : es.length = k + 1) (hi : i ≤ k) (hnc : k + 1 ≤ cap) :
    ∃ wa, (∀ q c', ((cap = i + 1 ∧ q = 0 ∧ c' = 0) ∨ (¬ cap = i + 1 ∧ q = (i + 1) * 9 ∧ c' = cap - (i + 1))) → (Builtin.append_ #[22, 22] 22 #[.slice (some ⟨g, 0, none⟩) i cap, .slice (some ⟨g, q, none⟩) (k - i) c']).run Tryz.prog w = .ok (.slice (some ⟨g, 0, none⟩) k cap) wa) ∧
      OwnP wa base (.slice (some ⟨g, 0, none⟩) k cap) (es.take i ++ es.drop (i + 1)) ∧ w.grownBy wa (some g) := by
  obtain ⟨i0, hi0, hz0, hz1, hz2⟩ := info_P'
  have hlt : (es.take i).length = i := by rw [List.length_take]; omega
  have hld : (es.drop (i + 1)).length = k - i := by rw [List.length_drop]; omega
  have hle : (es.take i ++ es.drop (i + 1)).length = k := by rw [List.length_append, hlt, hld]; omega
  have hOi := hO.take i (by omega)
  unfold OwnP at hOi
  rw [hlt] at hOi
  have Run_P : RunP w (some ⟨g, 0, none⟩) (k + 1) es := ⟨hn, fun _ => by simp, fun ad hx q u hq => by cases hx; exact World.ownsRow.cells hO (g := g) rfl q u hq⟩
  have hrun := Run_P.drop (i := i + 1) (c := cap) (by omega) hnc
  have hik : i + (k - i) = k := by omega
  by_cases hcj : cap = i + 1
  · rw [if_pos hcj] at hrun
    obtain ⟨wa, h1, h2, h3⟩ := run_append_own_spare (P := Tryz.prog) w base 22 22 49 i0 9 under_P hi0 hz1 g i cap _ hOi ⟨g, 0, none⟩ (k - i) 0 (flatP (es.drop (i + 1))) (by rw [flatP_len, hld]) (hrun.2.2 _ rfl) (flatP_one _) (by omega)
    rw [hik] at h1 h2
    have hO2 : OwnP wa base (.slice (some ⟨g, 0, none⟩) k cap) (es.take i ++ es.drop (i + 1)) := by unfold OwnP; rw [flatP_app, hle]; exact h2
    refine ⟨wa, fun q c' h => ?_, hO2, h3⟩
    rcases h with ⟨-, rfl, rfl⟩ | ⟨h, -⟩
    · exact h1
    · exact absurd hcj h
  · rw [if_neg hcj, Nat.zero_add] at hrun
    obtain ⟨wa, h1, h2, h3⟩ := run_append_own_spare (P := Tryz.prog) w base 22 22 49 i0 9 under_P hi0 hz1 g i cap _ hOi ⟨g, (i + 1) * 9, none⟩ (k - i) (cap - (i + 1)) (flatP (es.drop (i + 1))) (by rw [flatP_len, hld]) (hrun.2.2 _ rfl) (flatP_one _) (by omega)
    rw [hik] at h1 h2
    have hO2 : OwnP wa base (.slice (some ⟨g, 0, none⟩) k cap) (es.take i ++ es.drop (i + 1)) := by unfold OwnP; rw [flatP_app, hle]; exact h2
    refine ⟨wa, fun q c' h => ?_, hO2, h3⟩
    rcases h with ⟨h, -⟩ | ⟨-, rfl, rfl⟩
    · exact absurd h hcj
    · exact h1

theorem wpList_append_run {w w' : World} {ops : Array Oper} {rest : List Oper} {o : Oper} {a : Act} {Q : Exit → Act → World → Prop} (hgd : o.guard = none) (s x : Operand) (t : TypeId)
    (ho : o.op = .call { callee := .builtin .append, args := #[s, x], argTypes := #[t, t] }) (u v r : Value) (hs : a.eval s = u) (hx : a.eval x = v) (hrun : (Builtin.append_ #[t, t] o.type #[u, v]).run Tryz.prog w = .ok r w')
    (h : wpList Tryz.prog ops Q rest (a.put o.dst r) w') : wpList Tryz.prog ops Q (o :: rest) a w := by
  refine wpList_plain hgd fun K hK => ?_
  unfold Oper.wp
  simp [execOp, ho, resolve, invoke, builtin, hs, hx, hrun, Result.andThen]
  exact hK _ _ h

end Go.Proofs.YtpdoonkhnabfjaaGreat
/- What PassOf of the reference comes to. -/
namespace Go.Proofs.YtpdoonkhnabfjaaGreat
open Go.RowKit Go.Shelf

theorem pass_next {T : Int} {ls : List Le} {j : Nat} (h : j < ls.length) : passL T (ls.take (j + 1)) = passL T (ls.take j) ++ (if cooled T (leAt ls j) = true then [] else [leAt ls j]) := by
  have h1 : ls.take (j + 1) = ls.take j ++ [leAt ls j] := by
    rw [List.take_add_one]
    congr 1
    unfold leAt
    rw [List.getD_eq_getElem?_getD, List.getElem?_eq_getElem h]
    rfl
  unfold passL
  rw [h1, List.filter_append]
  cases hc : cooled T (leAt ls j) <;> simp [hc]
theorem pass_len (T : Int) (ls : List Le) (j : Nat) : (passL T (ls.take j)).length ≤ j := Nat.le_trans (List.length_filter_le _ _) (by rw [List.length_take]; omega)

end Go.Proofs.YtpdoonkhnabfjaaGreat
/- What Close and CloseOf, Pass and PassOf make is the same. -/
namespace Go.Proofs.YtpdoonkhnabfjaaGreat
open Go.RowKit Go.Shelf

theorem sameP.symm {p q : Po} (h : sameP p q) : sameP q p := by
  obtain ⟨h0, h1, h2, h3, h4, h5, h6, h7, h8, h9⟩ := h
  exact ⟨h0.symm, h1.symm, h2.symm, h3.symm, h4.symm, h5.symm, h6.symm, h7.symm, h8.symm, h9.symm⟩
theorem sameP.trans {p q r : Po} (h : sameP p q) (g : sameP q r) : sameP p r := by
  obtain ⟨h0, h1, h2, h3, h4, h5, h6, h7, h8, h9⟩ := h
  obtain ⟨g0, g1, g2, g3, g4, g5, g6, g7, g8, g9⟩ := g
  exact ⟨h0.trans g0, h1.trans g1, h2.trans g2, h3.trans g3, h4.trans g4, h5.trans g5, h6.trans g6, h7.trans g7, h8.trans g8, h9.trans g9⟩
theorem sameB.symm {ps qs : List Po} (h : sameB ps qs) : sameB qs ps := ⟨h.1.symm, fun i hi => (h.2 i (by rw [h.1]; exact hi)).symm⟩
theorem sameB.trans {ps qs rs : List Po} (h : sameB ps qs) (g : sameB qs rs) : sameB ps rs := ⟨h.1.trans g.1, fun i hi => (h.2 i hi).trans (g.2 i (by rw [← h.1]; exact hi))⟩
theorem sameP.withL {p q : Po} (h : sameP p q) {x x' : Option Addr} {c c' n : Nat} {ls : List Le} : sameP (Go.Proofs.YtpdoonkhnabfjaaGreat.withL p x n c ls) (Go.Proofs.YtpdoonkhnabfjaaGreat.withL q x' n c' ls) := by
  obtain ⟨h0, h1, h2, h3, h4, h5, h6, h7, h8, h9⟩ := h
  exact ⟨h0, h1, h2, h3, h4, h5, h6, h7, rfl, rfl⟩
theorem sameB.set2 {qs rs : List Po} {i : Nat} {p q : Po} (h : sameB qs rs) (hi : i < qs.length) (hp : sameP p q) : sameB (qs.set i p) (rs.set i q) := by
  have hr : i < rs.length := by rw [← h.1]; exact hi
  refine ⟨by rw [List.length_set, List.length_set]; exact h.1, fun j hj => ?_⟩
  rw [List.length_set] at hj
  rw [poAt_set hi, poAt_set hr]
  by_cases hij : i = j
  · rw [if_pos hij, if_pos hij]; exact hp
  · rw [if_neg hij, if_neg hij]; exact h.2 j hj
theorem sameB.del {qs rs : List Po} {i : Nat} (h : sameB qs rs) (hi : i < qs.length) : sameB (qs.take i ++ qs.drop (i + 1)) (rs.take i ++ rs.drop (i + 1)) := by
  have hr : i < rs.length := by rw [← h.1]; exact hi
  have h1 := h.1
  have hl : (qs.take i ++ qs.drop (i + 1)).length = qs.length - 1 := by simp; omega
  refine ⟨by rw [hl]; simp; omega, fun j hj => ?_⟩
  rw [poAt_del hi, poAt_del hr]
  rw [hl] at hj
  by_cases hij : j < i
  · rw [if_pos hij, if_pos hij]; exact h.2 j (by omega)
  · rw [if_neg hij, if_neg hij]; exact h.2 (j + 1) (by omega)
theorem split_at {ls : List Le} {j : Nat} (hj : j < ls.length) : ls = ls.take j ++ leAt ls j :: ls.drop (j + 1) := by
  have h : leAt ls j = ls[j] := by unfold leAt; rw [List.getD_eq_getElem?_getD, List.getElem?_eq_getElem hj]; rfl
  rw [h, List.getElem_cons_drop, List.take_append_drop]
theorem others_at {ls : List Le} {a l : Int} {j : Nat} (h : Used (lp ls) a l) (hj : j < ls.length) : ∀ e ∈ ls.take j ++ ls.drop (j + 1), e.a ≠ (leAt ls j).a := by
  intro e he hea
  have hr := h.rise
  unfold lp at hr
  rw [List.pairwise_map, List.pairwise_iff_getElem] at hr
  rw [leAt_eq hj] at hea
  rcases List.mem_append.1 he with h1 | h1
  · obtain ⟨k, hk, rfl⟩ := List.mem_iff_getElem.1 h1
    rw [List.length_take] at hk
    have := hr k j (by omega) hj (by omega)
    simp only at this
    rw [List.getElem_take] at hea
    have hs := sp_pos (ls[k]'(by omega)).l
    omega
  · obtain ⟨k, hk, rfl⟩ := List.mem_iff_getElem.1 h1
    rw [List.length_drop] at hk
    have := hr j (j + 1 + k) hj (by omega) (by omega)
    simp only at this
    rw [List.getElem_drop] at hea
    have hs := sp_pos (ls[j]).l
    omega
theorem fm_self {f : Le → Option Le} : ∀ {l : List Le}, (∀ e ∈ l, f e = some e) → l.filterMap f = l
  | [], _ => rfl
  | e :: l, h => by
    rw [List.filterMap_cons, h e (by simp)]
    simp only
    rw [fm_self fun x hx => h x (by simp [hx])]
theorem back_cools {p : Po} {a l t A L : Int} {j : Nat} (hU : Used (lp p.ls) A L) (hj : j < p.ls.length) (ha : (leAt p.ls j).a = a) (hl : (leAt p.ls j).l = l) : backL p a l t = coolL p j t := by
  have ho := others_at hU hj
  have h1 : (p.ls.take j).filterMap (backE p.co a l t) = p.ls.take j := fm_self fun e he => back_no1 (by rw [← ha]; exact ho e (List.mem_append.2 (.inl he)))
  have h2 : (p.ls.drop (j + 1)).filterMap (backE p.co a l t) = p.ls.drop (j + 1) := fm_self fun e he => back_no1 (by rw [← ha]; exact ho e (List.mem_append.2 (.inr he)))
  have hb : backL p a l t = p.ls.take j ++ (leAt p.ls j :: p.ls.drop (j + 1)).filterMap (backE p.co a l t) := by
    unfold backL
    conv => lhs; rw [split_at hj]
    rw [List.filterMap_append, h1]
  rw [hb, List.filterMap_cons]
  unfold coolL
  by_cases hco : p.co = 0
  · rw [back_gone ha hl hco, if_pos hco]
    simp only
    rw [h2]
  · rw [back_cool ha hl hco, if_neg hco]
    simp only
    rw [h2, ha, hl, List.set_eq_take_append_cons_drop, if_pos hj]
theorem atId_self {ps : List Po} (h : idsB ps.length ps = true) {i : Nat} (hi : i < ps.length) : atId ps (poAt ps i).id = i := by
  refine atId_yes hi rfl fun j hj he => ?_
  have := ids_lt h j (i - j - 1) (by omega)
  rw [show j + (i - j - 1) + 1 = i by omega] at this
  omega
theorem root_of {t : Int} {ps : List Po} {i k j : Nat} (hc : chkB t ps = 0) (hF : Full ps) (hi : i < ps.length) (hk : atId ps (poAt ps i).up = k) (hj : j < (poAt ps k).n) (hf : firstAt (poAt ps k).n (forB (poAt ps k).ls (poAt ps i).id) = j) :
    (leAt (poAt ps k).ls j).a = (poAt ps i).a ∧ (leAt (poAt ps k).ls j).l = (poAt ps i).l := by
  obtain ⟨-, -, hids, -, hp⟩ := chk_ok hc
  obtain ⟨hkl, -, -⟩ := atId_first hk
  obtain ⟨-, -, -, hles⟩ := pool_ok (hp k hkl)
  have hle := (les_mem (hF k hkl)).1 hles _ (leAt_mem (by rw [hF k hkl]; exact hj))
  have hfor : forB (poAt ps k).ls (poAt ps i).id j = true := by
    rcases firstAt_any (n := (poAt ps k).n) (f := forB (poAt ps k).ls (poAt ps i).id) with ⟨-, j2, -, h2, -, h3⟩ | ⟨-, -, h3⟩
    · obtain rfl : j = j2 := by omega
      exact h2
    · omega
  unfold forB at hfor
  simp only [Bool.and_eq_true, beq_iff_eq] at hfor
  have hat : atId ps (leAt (poAt ps k).ls j).ow = i := by rw [hfor.2]; exact atId_self hids hi
  rw [le_2 hfor.1 hat] at hle
  unfold le2 at hle
  simp only [Bool.and_eq_true, decide_eq_true_eq] at hle
  exact ⟨hle.1.2.1.symm, hle.1.2.2.symm⟩
theorem close_same {t : Int} {ps rs rs' : List Po} {i : Nat} (hc : chkB t ps = 0) (hF : Full ps) (hi : i < ps.length) (h1 : CloseAt t ps i rs) (h2 : Close2At t ps i rs') : sameB rs rs' := by
  obtain ⟨qs, a1, a2, rfl⟩ := h1
  obtain ⟨qs', b1, b2, rfl⟩ := h2
  have key : sameB qs qs' ∧ qs.length = ps.length := by
    by_cases hn : atId ps (poAt ps i).up < 0
    · exact ⟨(a1 hn).symm.trans (b1 hn), (a1 hn).1.symm⟩
    · obtain ⟨k, hkl, hk, -⟩ := atId_range hn
      obtain ⟨j, hj, hf⟩ := up_has hc hi hk
      obtain ⟨q1, x1, c1, s1, rfl⟩ := a2 k hk
      obtain ⟨q2, x2, c2, s2, rfl⟩ := b2 k hk
      obtain ⟨r1, r2⟩ := root_of hc hF hi hk hj hf
      have hcb := back_cools (t := t) (used_mem hc k hkl) (by rw [hF k hkl]; exact hj) r1 r2
      rw [hf, Int.toNat_natCast, hcb]
      refine ⟨(s1.symm.trans s2).set2 (by rw [← s1.1]; exact hkl) ((s1.2 k hkl).symm.trans (s2.2 k hkl)).withL, by rw [List.length_set]; exact s1.1.symm⟩
  exact key.1.del (by rw [key.2]; exact hi)
theorem pass_same {T : Int} {ps qs qs' rs rs' : List Po} (s1 : sameB ps qs) (s2 : sameB ps qs') (h1 : PassTo T qs qs.length rs) (h2 : PassTo T qs' qs'.length rs') : sameB rs rs' := by
  have s := s1.symm.trans s2
  refine ⟨by rw [h1.1, h2.1]; exact s.1, fun j hj => ?_⟩
  rw [h1.1] at hj
  have hj' : j < qs'.length := by rw [← s.1]; exact hj
  obtain ⟨x1, c1, e1⟩ := (h1.2 j hj).1 hj
  obtain ⟨x2, c2, e2⟩ := (h2.2 j hj').1 hj'
  have hls : (poAt qs j).ls = (poAt qs' j).ls := (s.2 j hj).2.2.2.2.2.2.2.2.2
  rw [e1, e2, hls]
  exact (s.2 j hj).withL
end Go.Proofs.YtpdoonkhnabfjaaGreat
/- What SameBooks of the reference says of two books that are the same. -/
namespace Go.Proofs.YtpdoonkhnabfjaaGreat
open Go.RowKit Go.Shelf

theorem lease_struct : Tryz.prog.underlying 55 = some (.struct (Tryz.prog.fieldsOf 55)) := by kernel_rfl
theorem lease_held : Tryz.prog.stoodInHeld 55 = false := by kernel_rfl
theorem lease_guard : Tryz.prog.eqGuardType Tryz.prog.depth 55 = false := by kernel_rfl
theorem guard_lease (op : BinOp) (x y : Operand) (p q : Array Value) (w : World) : (eqGuard op 55 x y (.agg p) (.agg q)).run Tryz.prog w = .ok () w := by
  have h := lease_guard
  unfold eqGuard
  cases op <;> simp [go_sem, h]
theorem neq_lease_same (a l k o u : Int) (w : World) : (binOp .neq 55 (.agg #[.int .i64 a, .int .i64 l, .int .i64 k, .int .i64 o, .int .i64 u]) (.agg #[.int .i64 a, .int .i64 l, .int .i64 k, .int .i64 o, .int .i64 u])).run Tryz.prog w = .ok (.bool false) w := by
  rw [run_neq_struct, show (10000 : Nat) = 9999 + 1 from rfl, run_equalIn_agg w 9999 _ _ _ lease_struct lease_held]
  simp only [Program.fieldsOf, Tryz.underlying55]
  go_simp
theorem quiet_neqL {ops : Array Oper} {C : World → Prop} {Q : Act → Prop} {A : Act} {o : Oper} {rest : List Oper} (x y : Operand) (t : TypeId) (a l k ow u : Int) (hop : o.op = .binOp .neq 55 x y t) (hg : Region.wanted o (yielded ops A.tmps) = true)
    (hx : A.eval x = .agg #[.int .i64 a, .int .i64 l, .int .i64 k, .int .i64 ow, .int .i64 u]) (hy : A.eval y = .agg #[.int .i64 a, .int .i64 l, .int .i64 k, .int .i64 ow, .int .i64 u]) (h : wpQuiet Tryz.prog ops C Q rest (A.put o.dst (.bool false))) : wpQuiet Tryz.prog ops C Q (o :: rest) A := by
  unfold wpQuiet
  rw [if_pos hg]
  refine ⟨_, fun w _ => ?_, h⟩
  unfold Oper.quietAt execOp
  rw [hop]
  simp only [hx, hy, Sem.run_bind, guard_lease, neq_lease_same, Result.andThen_ok, Sem.run_pure]
  exact ⟨rfl, rfl⟩

/-- The boxes of the two books. -/
structure TB2 (w W : World) (t : Int) (v v2 : Value) : Prop where
  ha : W.heap[w.heap.size]? = some (bkV t v)
  hb : W.heap[w.heap.size + 1]? = some (bkV t v2)
  below : Below w.heap.size w W
theorem TB2.later {w W W' : World} {t : Int} {v v2 : Value} (h : TB2 w W t v v2) (hb : Below W.heap.size W W') : TB2 w W' t v v2 :=
  ⟨heap_later hb h.ha, heap_later hb h.hb, h.below.trans (hb.mono h.below.size)⟩

set_option maxRecDepth 100000 in
set_option maxHeartbeats 6400000 in
theorem sameBooks_yes (t : Int) (x y : Option Addr) (n c d : Nat) (ps qs : List Po) (w : World) (hp : PoS w x n ps) (hq : PoS w y n qs) (hs : sameB ps qs) (hn : n ≤ 64) :
    Calls Tryz.prog 12 #[.agg #[.int .i64 t, .slice x n c], .agg #[.int .i64 t, .slice y n d]] w fun e w' => e = .returned (.bool true) ∧ Below w.heap.size w w' := by
  have hs' : Hid (sameB ps qs) := hs
  have hpl : Hid (ps.length = n) := hp.len
  clear hs
  go_enter Tryz.func12, Tryz.ntmps12
  go_upto_region 1 with fail
  obtain ⟨w0, hw0⟩ : ∃ w0, w0 = (w.alloc (bkV t (.slice x n c))).alloc (bkV t (.slice y n d)) := ⟨_, rfl⟩
  rw [show (w.alloc (.cells #[.int .i64 t, .slice x n c] 24)).alloc (.cells #[.int .i64 t, .slice y n d] 24) = w0 from hw0.symm]
  have hT0 : TB2 w w0 t (.slice x n c) (.slice y n d) := by rw [hw0]; exact ⟨heap_old _ (heap_new _ rfl), heap_new _ (by simp), bl2 w _ _⟩
  clear hw0
  have a0 : w0.cell? ⟨w.heap.size, 0, none⟩ = some (.int .i64 t) := (box_cells hT0.ha).1 0
  have a1 : w0.cell? ⟨w.heap.size, 1, none⟩ = some (.slice x n c) := (box_cells hT0.ha).1 1
  have d0 : w0.cell? ⟨w.heap.size + 1, 0, none⟩ = some (.int .i64 t) := (box_cells hT0.hb).1 0
  have d1 : w0.cell? ⟨w.heap.size + 1, 1, none⟩ = some (.slice y n d) := (box_cells hT0.hb).1 1
  go_wp2
  clear a0 a1 d0 d1
  go_loopw [5] (fun i wr => ∃ k : Nat, i = .int .i64 k ∧ k ≤ n ∧ TB2 w wr t (.slice x n c) (.slice y n d)) (fun i _ => n - (intOf i).toNat)
  case atStart => exact ⟨0, rfl, by omega, hT0⟩
  case round =>
    clear hT0
    obtain ⟨k, rfl, hkn, hT⟩ := hrel
    have a1 : wr.cell? ⟨w.heap.size, 1, none⟩ = some (.slice x n c) := (box_cells hT.ha).1 1
    have d1 : wr.cell? ⟨w.heap.size + 1, 1, none⟩ = some (.slice y n d) := (box_cells hT.hb).1 1
    by_cases hlt : k < n
    · obtain ⟨b, o, rfl, c0, c1, c2, c3, c4, c5, c6, c7, c8⟩ := (hp.later hT.below).cells k hlt
      obtain ⟨b2, o2, rfl, e0, e1, e2, e3, e4, e5, e6, e7, e8⟩ := (hq.later hT.below).cells k hlt
      obtain ⟨hlc, hlm, hLS⟩ := (hp.later hT.below).leases k hlt
      obtain ⟨hmc, hmm, hMS⟩ := (hq.later hT.below).leases k hlt
      obtain ⟨s0, s1, s2, s3, s4, s5, s6, s7, s8, s9⟩ := hs'.out.2 k (by rw [hpl.out]; exact hlt)
      rw [← s0] at e0
      rw [← s1] at e1
      rw [← s2] at e2
      rw [← s3] at e3
      rw [← s4] at e4
      rw [← s5] at e5
      rw [← s6] at e6
      rw [← s7] at e7
      rw [← s8] at e8
      rw [← s8, ← s9] at hMS
      have hk0 : (0 : Int) ≤ k := by omega
      have hkn2 : (k : Int) < n := by omega
      have hlth : Hid (k < n) := hlt
      clear hlt s0 s1 s2 s3 s4 s5 s6 s7 s8 s9
      go_upto_region 6 with fail
      go_cut [6, 7] (fun p q wc => ∃ bp bq, p = .pointer (some ⟨bp, 0, none⟩) ∧ q = .pointer (some ⟨bq, 0, none⟩) ∧ wc.heap[bp]? = some (poB (poAt ps k)) ∧ wc.heap[bq]? = some (.cells #[.int .i64 (poAt ps k).id, .int .i64 (poAt ps k).up, .int .i64 (poAt ps k).a, .int .i64 (poAt ps k).l, .int .i64 (poAt ps k).mn, .int .i64 (poAt ps k).mx, .int .i64 (poAt ps k).us, .int .i64 (poAt ps k).co, .slice (poAt qs k).x (poAt ps k).n (poAt qs k).c] 49) ∧ Below wr.heap.size wr wc)
      case first =>
        go_region_held3 (fun w' => w'.cell? ⟨w.heap.size, 1, none⟩ = some (.slice (some ⟨b, o, none⟩) n c) ∧ w'.cell? ⟨w.heap.size + 1, 1, none⟩ = some (.slice (some ⟨b2, o2, none⟩) n d) ∧ w'.cell? ⟨b, o + k * 9, none⟩ = some (.int .i64 (poAt ps k).id) ∧ w'.cell? ⟨b, o + k * 9 + 1, none⟩ = some (.int .i64 (poAt ps k).up) ∧ w'.cell? ⟨b, o + k * 9 + 2, none⟩ = some (.int .i64 (poAt ps k).a) ∧ w'.cell? ⟨b, o + k * 9 + 3, none⟩ = some (.int .i64 (poAt ps k).l) ∧ w'.cell? ⟨b, o + k * 9 + 4, none⟩ = some (.int .i64 (poAt ps k).mn) ∧ w'.cell? ⟨b, o + k * 9 + 5, none⟩ = some (.int .i64 (poAt ps k).mx) ∧ w'.cell? ⟨b, o + k * 9 + 6, none⟩ = some (.int .i64 (poAt ps k).us) ∧ w'.cell? ⟨b, o + k * 9 + 7, none⟩ = some (.int .i64 (poAt ps k).co) ∧ w'.cell? ⟨b, o + k * 9 + 8, none⟩ = some (.slice (poAt ps k).x (poAt ps k).n (poAt ps k).c) ∧ w'.cell? ⟨b2, o2 + k * 9, none⟩ = some (.int .i64 (poAt ps k).id) ∧ w'.cell? ⟨b2, o2 + k * 9 + 1, none⟩ = some (.int .i64 (poAt ps k).up) ∧ w'.cell? ⟨b2, o2 + k * 9 + 2, none⟩ = some (.int .i64 (poAt ps k).a) ∧ w'.cell? ⟨b2, o2 + k * 9 + 3, none⟩ = some (.int .i64 (poAt ps k).l) ∧ w'.cell? ⟨b2, o2 + k * 9 + 4, none⟩ = some (.int .i64 (poAt ps k).mn) ∧ w'.cell? ⟨b2, o2 + k * 9 + 5, none⟩ = some (.int .i64 (poAt ps k).mx) ∧ w'.cell? ⟨b2, o2 + k * 9 + 6, none⟩ = some (.int .i64 (poAt ps k).us) ∧ w'.cell? ⟨b2, o2 + k * 9 + 7, none⟩ = some (.int .i64 (poAt ps k).co) ∧ w'.cell? ⟨b2, o2 + k * 9 + 8, none⟩ = some (.slice (poAt qs k).x (poAt ps k).n (poAt qs k).c)) (first | (go_keep; done)) (fail)
        · go_wp2
          go_meet
          case rel => exact ⟨wr.heap.size, wr.heap.size + 1, rfl, rfl, heap_old _ (heap_new _ rfl), heap_new _ (by simp), (bl2 wr _ _).drew⟩
        · go_wp2
          go_meet
          case rel => exact ⟨wr.heap.size + 1, wr.heap.size, rfl, rfl, heap_new _ (by simp), heap_old _ (heap_new _ rfl), (bl2 wr _ _).drew⟩
      case rest =>
        obtain ⟨bp, bq, rfl, rfl, hv, hu, hBc⟩ := hcut
        clear a1 d1 c0 c1 c2 c3 c4 c5 c6 c7 c8 e0 e1 e2 e3 e4 e5 e6 e7 e8
        have hTc := hT.later hBc
        have hLc := hLS.later hBc
        have hMc := hMS.later hBc
        clear hT hLS hMS hBc
        have p0 : wc.cell? ⟨bp, 0, none⟩ = some (.int .i64 (poAt ps k).id) := (box_cells hv).1 0
        have r0 : wc.cell? ⟨bq, 0, none⟩ = some (.int .i64 (poAt ps k).id) := (box_cells hu).1 0
        have p1 : wc.cell? ⟨bp, 1, none⟩ = some (.int .i64 (poAt ps k).up) := (box_cells hv).1 1
        have r1 : wc.cell? ⟨bq, 1, none⟩ = some (.int .i64 (poAt ps k).up) := (box_cells hu).1 1
        have p2 : wc.cell? ⟨bp, 2, none⟩ = some (.int .i64 (poAt ps k).a) := (box_cells hv).1 2
        have r2 : wc.cell? ⟨bq, 2, none⟩ = some (.int .i64 (poAt ps k).a) := (box_cells hu).1 2
        have p3 : wc.cell? ⟨bp, 3, none⟩ = some (.int .i64 (poAt ps k).l) := (box_cells hv).1 3
        have r3 : wc.cell? ⟨bq, 3, none⟩ = some (.int .i64 (poAt ps k).l) := (box_cells hu).1 3
        have p4 : wc.cell? ⟨bp, 4, none⟩ = some (.int .i64 (poAt ps k).mn) := (box_cells hv).1 4
        have r4 : wc.cell? ⟨bq, 4, none⟩ = some (.int .i64 (poAt ps k).mn) := (box_cells hu).1 4
        have p5 : wc.cell? ⟨bp, 5, none⟩ = some (.int .i64 (poAt ps k).mx) := (box_cells hv).1 5
        have r5 : wc.cell? ⟨bq, 5, none⟩ = some (.int .i64 (poAt ps k).mx) := (box_cells hu).1 5
        have p6 : wc.cell? ⟨bp, 6, none⟩ = some (.int .i64 (poAt ps k).us) := (box_cells hv).1 6
        have r6 : wc.cell? ⟨bq, 6, none⟩ = some (.int .i64 (poAt ps k).us) := (box_cells hu).1 6
        have p7 : wc.cell? ⟨bp, 7, none⟩ = some (.int .i64 (poAt ps k).co) := (box_cells hv).1 7
        have r7 : wc.cell? ⟨bq, 7, none⟩ = some (.int .i64 (poAt ps k).co) := (box_cells hu).1 7
        have p8 : wc.cell? ⟨bp, 8, none⟩ = some (.slice (poAt ps k).x (poAt ps k).n (poAt ps k).c) := (box_cells hv).1 8
        have r8 : wc.cell? ⟨bq, 8, none⟩ = some (.slice (poAt qs k).x (poAt ps k).n (poAt qs k).c) := (box_cells hu).1 8
        go_wp2
        clear p0 p1 p2 p3 p4 p5 p6 p7 p8 r0 r1 r2 r3 r4 r5 r6 r7 r8
        go_loopw [8] (fun i ws => ∃ j : Nat, i = .int .i64 j ∧ j ≤ (poAt ps k).n ∧ Below wc.heap.size wc ws) (fun i _ => (poAt ps k).n - (intOf i).toNat)
        case atStart => exact ⟨0, rfl, by omega, Below.refl _ _⟩
        case round =>
          obtain ⟨j, rfl, hjn, hBj⟩ := hrel
          have hv' := heap_later hBj hv
          have hu' := heap_later hBj hu
          have p8 : wr.cell? ⟨bp, 8, none⟩ = some (.slice (poAt ps k).x (poAt ps k).n (poAt ps k).c) := (box_cells hv').1 8
          have r8 : wr.cell? ⟨bq, 8, none⟩ = some (.slice (poAt qs k).x (poAt ps k).n (poAt qs k).c) := (box_cells hu').1 8
          by_cases hltj : j < (poAt ps k).n
          · obtain ⟨b3, o3, hx3, l0, l1, l2, l3, l4⟩ := (hLc.later hBj).cells j hltj
            obtain ⟨b4, o4, hx4, m0, m1, m2, m3, m4⟩ := (hMc.later hBj).cells j hltj
            rw [hx3] at p8
            rw [hx4] at r8
            have hj0 : (0 : Int) ≤ j := by omega
            have hjn2 : (j : Int) < (poAt ps k).n := by omega
            have hltjh : Hid (j < (poAt ps k).n) := hltj
            clear hltj
            go_upto_region 12 with fail
            have g0 := Ws.here p8
            have g1 := Ws.here r8
            have f0 := Ws.here l0
            have f1 := Ws.here l1
            have f2 := Ws.here l2
            have f3 := Ws.here l3
            have f4 := Ws.here l4
            have h0 := Ws.here m0
            have h1 := Ws.here m1
            have h2 := Ws.here m2
            have h3 := Ws.here m3
            have h4 := Ws.here m4
            clear p8 r8 l0 l1 l2 l3 l4 m0 m1 m2 m3 m4
            refine wp_region_ws wr.heap.size (by kernel_rfl) (by kernel_rfl) ?_
            repeat (go_big_quiet_step (fail))
            refine wpQuiet_nil ?_
            rintro _ ⟨u, rfl⟩
            have hub := hBj.trans (u.property.mono hBj.size)
            generalize u.val = wu at hub ⊢
            clear u g0 g1 f0 f1 f2 f3 f4 h0 h1 h2 h3 h4
            go_wp2
            go_roundw
            case rel => exact ⟨j + 1, by go_num, hltjh.out, hub⟩
            case measure => have := hltjh.out; simp [intOf]; omega
          · have hnj : ¬ (j : Int) < (poAt ps k).n := by omega
            have hTj := hTc.later hBj
            go_wp2
            go_roundw
            case rel => exact ⟨k + 1, by go_num, hlth.out, hTj⟩
            case measure => have := hlth.out; simp [intOf]; omega
    · have hnk : ¬ (k : Int) < n := by omega
      go_wp2
      go_ret
      exact ⟨rfl, hT.below⟩
end Go.Proofs.YtpdoonkhnabfjaaGreat
/- What PoolCloses comes to: it answers true. -/
namespace Go.Proofs.YtpdoonkhnabfjaaGreat
open Go.RowKit Go.Shelf

theorem hid_mk {p : Prop} (h : p) : Hid p := h
/-- Few pools, and few leases in each. -/
def Small (rs : List Po) : Prop := rs.length ≤ 64 ∧ ∀ j, j < rs.length → (poAt rs j).n ≤ 1048576
theorem Small.same {rs rs' : List Po} (h : Small rs) (hs : sameB rs rs') : Small rs' := ⟨by rw [← hs.1]; exact h.1, fun j hj => by
  rw [← (hs.2 j (by rw [hs.1]; exact hj)).2.2.2.2.2.2.2.2.1]
  exact h.2 j (by rw [hs.1]; exact hj)⟩
theorem Small.nil : Small [] := ⟨by simp, fun j hj => by simp at hj⟩
/-- Two books of the call's own, the same but for where they lie. -/
structure Twin (W : World) (t t' : Int) (v v' : Value) : Prop where
  tick : t = t'
  books : ∃ x y n c d ps qs, v = .slice x n c ∧ v' = .slice y n d ∧ PoS W x n ps ∧ PoS W y n qs ∧ sameB ps qs ∧ n ≤ 64
theorem Twin.later {W W' : World} {t t' : Int} {v v' : Value} (h : Twin W t t' v v') (hb : Below W.heap.size W W') : Twin W' t t' v v' := by
  obtain ⟨ht, x, y, n, c, d, ps, qs, h1, h2, h3, h4, h5, h6⟩ := h
  exact ⟨ht, x, y, n, c, d, ps, qs, h1, h2, h3.later hb, h4.later hb, h5, h6⟩
theorem Twin.of {W : World} {b b' : Nat} {t t' : Int} {v v' : Value} {rs rs' : List Po} (ht : t = t') (h : OBk W b v rs rs.length) (h' : OBk W b' v' rs' rs'.length) (hs : sameB rs rs') (hm : Small rs) : Twin W t t' v v' := by
  have hm' := hm.same hs
  obtain ⟨x, c, rfl, hB⟩ := h.bk hm.2
  obtain ⟨y, d, rfl, hB'⟩ := h'.bk hm'.2
  have hl := hs.1
  rw [← hl] at hB' ⊢
  exact ⟨ht, x, y, rs.length, c, d, rs, rs', rfl, rfl, hB.ps, hB'.ps, hs, hm.1⟩
theorem sameBooks_twin {W : World} {t t' : Int} {v v' : Value} (h : Twin W t t' v v') : Calls Tryz.prog 12 #[.agg #[.int .i64 t, v], .agg #[.int .i64 t', v']] W fun e w' => e = .returned (.bool true) ∧ Below W.heap.size W w' := by
  obtain ⟨rfl, x, y, n, c, d, ps, qs, rfl, rfl, h3, h4, h5, h6⟩ := h
  exact sameBooks_yes t x y n c d ps qs W h3 h4 h5 h6
theorem chk_small {t : Int} {ps : List Po} (hc : chkB t ps = 0) : Small ps := ⟨by have := (chk_ok hc).1; omega, fun j hj => by have := (chk_pool hc j hj).1; omega⟩
theorem Small.del {qs : List Po} {i : Nat} (h : Small qs) (hi : i < qs.length) : Small (qs.take i ++ qs.drop (i + 1)) := by
  have hl : (qs.take i ++ qs.drop (i + 1)).length = qs.length - 1 := by simp; omega
  refine ⟨by have := h.1; omega, fun j hj => ?_⟩
  rw [hl] at hj
  rw [poAt_del hi]
  split
  · exact h.2 j (by omega)
  · exact h.2 (j + 1) (by omega)
theorem Small.cool {ps rs : List Po} {t T : Int} {k j : Nat} (hc : chkB t ps = 0) (hF : Full ps) (hk : k < ps.length) (hj : j < (poAt ps k).n) (h : CoolAt ps k j T rs) : Small rs ∧ rs.length = ps.length := by
  obtain ⟨qs, x', c', hs, rfl⟩ := h
  have hm := (chk_small hc).same hs
  have hkq : k < qs.length := by rw [← hs.1]; exact hk
  refine ⟨⟨by rw [List.length_set]; exact hm.1, fun q hq => ?_⟩, by rw [List.length_set]; exact hs.1.symm⟩
  rw [List.length_set] at hq
  rw [poAt_set hkq]
  split
  · have h1 := cool_len (p := poAt ps k) (t := T) (j := j) (by rw [hF k hk]; exact hj)
    rw [hF k hk] at h1
    have h2 := (chk_pool hc k hk).1
    show (coolL (poAt ps k) j T).length ≤ 1048576
    omega
  · exact hm.2 q hq
theorem close_small {t : Int} {ps rs : List Po} {i : Nat} (hc : chkB t ps = 0) (hF : Full ps) (hi : i < ps.length) (h : CloseAt t ps i rs) : Small rs := by
  obtain ⟨qs, a1, a2, rfl⟩ := h
  have key : Small qs ∧ qs.length = ps.length := by
    by_cases hn : atId ps (poAt ps i).up < 0
    · exact ⟨(chk_small hc).same (a1 hn), (a1 hn).1.symm⟩
    · obtain ⟨k, hkl, hk, -⟩ := atId_range hn
      obtain ⟨j, hj, hf⟩ := up_has hc hi hk
      have h2 := a2 k hk
      rw [hf, Int.toNat_natCast] at h2
      exact Small.cool hc hF hkl hj h2
  exact key.1.del (by rw [key.2]; exact hi)
theorem close_ok {t : Int} {ps : List Po} {id : Int} (h : closeE t ps id = 0) : chkB t ps = 0 ∧ (atId ps id).toNat < ps.length := by
  unfold closeE at h
  by_cases h1 : chkB t ps = 0
  · rw [if_neg (by simp [h1])] at h
    by_cases h2 : atId ps id < 0
    · rw [if_pos h2] at h; cases h
    · obtain ⟨i, hi, he, -⟩ := atId_range h2
      exact ⟨h1, by rw [he, Int.toNat_natCast]; exact hi⟩
  · rw [if_pos h1] at h; exact absurd h h1
theorem twin_close {W : World} {b b' : Nat} {t t1 t2 id : Int} {v1 v2 : Value} {ps rs1 rs2 : List Po} (hF : Full ps) (o1 : OBk W b v1 rs1 rs1.length) (o2 : OBk W b' v2 rs2 rs2.length)
    (z1 : closeE t ps id ≠ 0 → t1 = 0 ∧ rs1 = [] ∧ v1 = .slice none 0 0) (z2 : closeE t ps id ≠ 0 → t2 = 0 ∧ rs2 = [] ∧ v2 = .slice none 0 0) (r1 : closeE t ps id = 0 → CloseR t ps id t1 rs1) (r2 : closeE t ps id = 0 → Close2R t ps id t2 rs2) : Twin W t1 t2 v1 v2 := by
  by_cases h : closeE t ps id = 0
  · obtain ⟨hc, hi⟩ := close_ok h
    obtain ⟨e1, f1⟩ := r1 h
    obtain ⟨e2, f2⟩ := r2 h
    exact Twin.of (e1.trans e2.symm) o1 o2 (close_same hc hF hi f1 f2) (close_small hc hF hi f1)
  · obtain ⟨e1, rfl, rfl⟩ := z1 h
    obtain ⟨e2, rfl, rfl⟩ := z2 h
    exact Twin.of (e1.trans e2.symm) o1 o2 (sameB.refl _) Small.nil
theorem twin_pass {W : World} {b b' : Nat} {t t1 t2 m : Int} {v1 v2 : Value} {ps rs1 rs2 : List Po} (hF : Full ps) (o1 : OBk W b v1 rs1 rs1.length) (o2 : OBk W b' v2 rs2 rs2.length)
    (z1 : passE t ps m ≠ 0 → t1 = 0 ∧ rs1 = [] ∧ v1 = .slice none 0 0) (z2 : passE t ps m ≠ 0 → t2 = 0 ∧ rs2 = [] ∧ v2 = .slice none 0 0) (r1 : passE t ps m = 0 → PassR t ps m t1 rs1) (r2 : passE t ps m = 0 → PassR t ps m t2 rs2) : Twin W t1 t2 v1 v2 := by
  by_cases h : passE t ps m = 0
  · obtain ⟨hc, -, -⟩ := pass_ok h
    obtain ⟨e1, q1, s1, f1⟩ := r1 h
    obtain ⟨e2, q2, s2, f2⟩ := r2 h
    refine Twin.of (e1.trans e2.symm) o1 o2 (pass_same s1 s2 f1 f2) ⟨by rw [f1.1]; exact ((chk_small hc).same s1).1, fun j hj => ?_⟩
    rw [f1.1] at hj
    obtain ⟨x, c, e⟩ := (f1.2 j hj).1 hj
    have hj2 : j < ps.length := by rw [s1.1]; exact hj
    have hls : (poAt ps j).ls = (poAt q1 j).ls := (s1.2 j hj2).2.2.2.2.2.2.2.2.2
    rw [e]
    show (passL (t + m) (poAt q1 j).ls).length ≤ 1048576
    have h1 : (passL (t + m) (poAt q1 j).ls).length ≤ (poAt q1 j).ls.length := List.length_filter_le _ _
    rw [← hls, hF j hj2] at h1
    have h2 := (chk_pool hc j hj2).1
    rw [← hls]
    omega
  · obtain ⟨e1, rfl, rfl⟩ := z1 h
    obtain ⟨e2, rfl, rfl⟩ := z2 h
    exact Twin.of (e1.trans e2.symm) o1 o2 (sameB.refl _) Small.nil

end Go.Proofs.YtpdoonkhnabfjaaGreat
/- What room of the reference comes to. -/
namespace Go.Proofs.YtpdoonkhnabfjaaGreat
open Go.RowKit Go.Shelf

theorem pfit_is {p : Po} {z : Int} (hc : chkS p.a p.l p.n (lp p.ls) = 0) (hn : p.n ≠ 32) (h1 : p.l ≤ z) (h2 : z ≤ 16) : FitIs (lp p.ls) p.a p.l z (pfitS p z) := by
  obtain ⟨-, hr, hap⟩ := chkS_ok hc
  obtain ⟨l0, l1, a0, a1, -⟩ := rt_range hr
  have hH := hol_are (lp p.ls) (16 - p.l).toNat p.a p.l hr (by omega)
  have hE : fitE p.a p.l p.n (lp p.ls) z = 0 := by unfold fitE; rw [if_pos hc, if_neg (by omega)]
  unfold pfitS
  rw [if_neg hn]
  unfold fitS
  rw [if_pos hE]
  exact fit_hol hH h2

set_option maxRecDepth 100000 in
set_option maxHeartbeats 1600000 in
theorem room_any (p : Po) (z : Int) (w : World) (hp : LS w p.x p.n p.ls) (hc : chkS p.a p.l p.n (lp p.ls) = 0) (h1 : p.l ≤ z) (h2 : z ≤ 16) :
    Calls Tryz.prog 32 #[poV p, .int .i64 z] w fun e w' => e = .returned (fitR z (pfitS p z)) ∧ Below w.heap.size w w' := by
  obtain ⟨hn32, hr, -⟩ := chkS_ok hc
  have hfit : Hid (p.n ≠ 32 → FitIs (lp p.ls) p.a p.l z (pfitS p z)) := fun h => pfit_is hc h h1 h2
  go_enter Tryz.func32, Tryz.ntmps32
  go_upto_region 1 with fail
  obtain ⟨w0, hw0⟩ : ∃ w0, w0 = (w.alloc (poB p)).alloc (.cells #[.int .i64 0, .int .i64 0] 26) := ⟨_, rfl⟩
  rw [← hw0]
  have hB0 : Below w.heap.size w w0 := by rw [hw0]; exact bl2 w _ _
  have hb0 : w0.heap[w.heap.size]? = some (poB p) := by rw [hw0]; exact heap_old _ (heap_new _ rfl)
  have hs0 : w0.heap[w.heap.size + 1]? = some (.cells #[.int .i64 0, .int .i64 0] 26) := by rw [hw0]; exact heap_new _ (by simp)
  clear hw0
  have q8 : w0.cell? ⟨w.heap.size, 8, none⟩ = some (.slice p.x p.n p.c) := (box_cells hb0).1 8
  have s0 : w0.cell? ⟨w.heap.size + 1, 0, none⟩ = some (.int .i64 0) := (box_cells hs0).1 0
  have s1 : w0.cell? ⟨w.heap.size + 1, 1, none⟩ = some (.int .i64 0) := (box_cells hs0).1 1
  have zs0 := (box_cells hs0).2 0
  have zs1 := (box_cells hs0).2 1
  by_cases hn : p.n = 32
  · have hq : Hid (fitR z (pfitS p z) = .tuple #[.agg #[.int .i64 0, .int .i64 0], .bool false]) := by unfold Hid pfitS; rw [if_pos hn]; rfl
    have hge : (p.n : Int) ≥ 32 := by omega
    go_wp2
    refine bodyPost_ret (v := .tuple #[.agg #[.int .i64 0, .int .i64 0], .bool false]) (by simp [results, Tryz.results32, go_sem, s0, s1]) rfl ?_
    exact ⟨by rw [hq.out], (hB0.setCell (p := ⟨w.heap.size + 1, 0, none⟩) (Nat.le_succ _) _).setCell (p := ⟨w.heap.size + 1, 1, none⟩) (Nat.le_succ _) _⟩
  · have hge : ¬ (p.n : Int) ≥ 32 := by omega
    have hfi : Hid (FitIs (lp p.ls) p.a p.l z (pfitS p z)) := hfit.out hn
    have q0 : w0.cell? ⟨w.heap.size, 0, none⟩ = some (.int .i64 p.id) := (box_cells hb0).1 0
    have q1 : w0.cell? ⟨w.heap.size, 1, none⟩ = some (.int .i64 p.up) := (box_cells hb0).1 1
    have q2 : w0.cell? ⟨w.heap.size, 2, none⟩ = some (.int .i64 p.a) := (box_cells hb0).1 2
    have q3 : w0.cell? ⟨w.heap.size, 3, none⟩ = some (.int .i64 p.l) := (box_cells hb0).1 3
    have q4 : w0.cell? ⟨w.heap.size, 4, none⟩ = some (.int .i64 p.mn) := (box_cells hb0).1 4
    have q5 : w0.cell? ⟨w.heap.size, 5, none⟩ = some (.int .i64 p.mx) := (box_cells hb0).1 5
    have q6 : w0.cell? ⟨w.heap.size, 6, none⟩ = some (.int .i64 p.us) := (box_cells hb0).1 6
    have q7 : w0.cell? ⟨w.heap.size, 7, none⟩ = some (.int .i64 p.co) := (box_cells hb0).1 7
    go_wp2_with fail
    refine (spaceOfR_any p w0 (hp.later hB0) (by omega)).mono ?_
    rintro e w1 ⟨x1, c1, rfl, hb1, hps⟩
    have hs1' := heap_later hb1 hs0
    clear q0 q1 q2 q3 q4 q5 q6 q7 q8 s0 s1 zs0 zs1
    go_wp2_with fail
    refine (fitOf_any p.a p.l z x1 p.n c1 (lp p.ls) w1 hps (by omega) hr h1 h2).mono ?_
    rintro e w2 ⟨hb2, r, hr2, rfl⟩
    have hrr : r = pfitS p z := FitIs.one hr2 hfi.out
    rw [hrr]
    have hB2 : Below w.heap.size w w2 := (hB0.trans (hb1.mono hB0.size)).trans (hb2.mono (Nat.le_trans hB0.size hb1.size))
    have hs2 := heap_later hb2 hs1'
    clear hrr hr2 hfi hfit
    have s0 : w2.cell? ⟨w.heap.size + 1, 0, none⟩ = some (.int .i64 0) := (box_cells hs2).1 0
    have s1 : w2.cell? ⟨w.heap.size + 1, 1, none⟩ = some (.int .i64 0) := (box_cells hs2).1 1
    have zs0 := (box_cells hs2).2 0
    have zs1 := (box_cells hs2).2 1
    cases hq : pfitS p z with
    | none =>
      unfold fitR
      go_wp2
      refine bodyPost_ret (v := .tuple #[.agg #[.int .i64 0, .int .i64 0], .bool false]) (by simp [results, Tryz.results32, go_sem, s0, s1]) rfl ?_
      exact ⟨by first | rfl | (rw [hq]; rfl), (hB2.setCell (p := ⟨w.heap.size + 1, 0, none⟩) (Nat.le_succ _) _).setCell (p := ⟨w.heap.size + 1, 1, none⟩) (Nat.le_succ _) _⟩
    | some y =>
      unfold fitR
      go_wp2
      refine bodyPost_ret (v := .tuple #[.agg #[.int .i64 y, .int .i64 z], .bool true]) (by simp [results, Tryz.results32, go_sem, s0, s1]) rfl ?_
      exact ⟨by first | rfl | (rw [hq]; rfl), (hB2.setCell (p := ⟨w.heap.size + 1, 0, none⟩) (Nat.le_succ _) _).setCell (p := ⟨w.heap.size + 1, 1, none⟩) (Nat.le_succ _) _⟩
end Go.Proofs.YtpdoonkhnabfjaaGreat
/- What addLease of the reference comes to: the lease stands ahead of the first one that begins behind it. -/
namespace Go.Proofs.YtpdoonkhnabfjaaGreat
open Go.RowKit Go.Shelf

/-- What has been made of the first q leases, and whether e is in it. -/
def insR (e : Le) (ls : List Le) : Nat → Bool × List Le
  | 0 => (false, [])
  | q + 1 => if (insR e ls q).1 = false ∧ e.a < (leAt ls q).a then (true, (insR e ls q).2 ++ [e] ++ [leAt ls q]) else ((insR e ls q).1, (insR e ls q).2 ++ [leAt ls q])
def insE (e : Le) (ls : List Le) : List Le := if (insR e ls ls.length).1 = true then (insR e ls ls.length).2 else (insR e ls ls.length).2 ++ [e]
theorem take_nxt {ls : List Le} {q : Nat} (h : q < ls.length) : ls.take (q + 1) = ls.take q ++ [leAt ls q] := by
  rw [List.take_add_one]
  congr 1
  unfold leAt
  rw [List.getD_eq_getElem?_getD, List.getElem?_eq_getElem h]
  rfl
theorem insR_spec (e : Le) (ls : List Le) : ∀ q, q ≤ ls.length → ((insR e ls q).1 = false ∧ (∀ j, j < q → ¬ e.a < (leAt ls j).a) ∧ (insR e ls q).2 = ls.take q) ∨
    ((insR e ls q).1 = true ∧ ∃ i, i < q ∧ (∀ j, j < i → ¬ e.a < (leAt ls j).a) ∧ e.a < (leAt ls i).a ∧ (insR e ls q).2 = ls.take i ++ [e] ++ (ls.take q).drop i)
  | 0, _ => .inl ⟨rfl, fun j hj => by omega, by simp [insR]⟩
  | q + 1, h => by
    rcases insR_spec e ls q (by omega) with ⟨h1, h2, h3⟩ | ⟨h1, i, hi, h2, h3, h4⟩
    · by_cases hlt : e.a < (leAt ls q).a
      · refine .inr ⟨by simp only [insR, h1, hlt, and_self, if_true], q, by omega, h2, hlt, ?_⟩
        simp only [insR, h1, hlt, and_self, if_true, h3]
        rw [take_nxt (by omega), List.drop_append_of_le_length (by simp; omega), List.drop_of_length_le (by rw [List.length_take]; omega)]
        simp
      · refine .inl ⟨by simp only [insR, h1, hlt, and_false, if_false], fun j hj => ?_, ?_⟩
        · by_cases hj2 : j < q
          · exact h2 j hj2
          · obtain rfl : j = q := by omega
            exact hlt
        · simp only [insR, h1, hlt, and_false, if_false, h3]
          rw [take_nxt (by omega)]
    · refine .inr ⟨by simp [insR, h1], i, by omega, h2, h3, ?_⟩
      have hx : (insR e ls (q + 1)).2 = (insR e ls q).2 ++ [leAt ls q] := by simp [insR, h1]
      rw [hx, take_nxt (by omega), List.drop_append_of_le_length (by simp; omega), h4]
      simp
theorem ins_len (e : Le) (ls : List Le) : ∀ q, (insR e ls q).2.length ≤ q + 1 ∧ ((insR e ls q).1 = false → (insR e ls q).2.length ≤ q)
  | 0 => by simp [insR]
  | q + 1 => by
    obtain ⟨h1, h2⟩ := ins_len e ls q
    unfold insR
    split
    · rename_i h
      have := h2 h.1
      exact ⟨by simp; omega, fun h => by cases h⟩
    · exact ⟨by simp; omega, fun h => by have := h2 h; simp; omega⟩
theorem ins_put (e : Le) (ls : List Le) : PutLe e ls (insE e ls) := by
  unfold insE
  rcases insR_spec e ls ls.length (Nat.le_refl _) with ⟨h1, h2, h3⟩ | ⟨h1, i, hi, h2, h3, h4⟩
  · rw [h1, if_neg (by decide), h3]
    exact ⟨ls.length, Nat.le_refl _, h2, fun h => by omega, by simp⟩
  · rw [h1, if_pos rfl, h4]
    exact ⟨i, by omega, h2, fun _ => h3, by simp⟩
theorem OwnL.put {w : World} {base b o : Nat} {u v : Value} {es : List Le} (h : OwnL w base v es) (hb : b < base) : OwnL (w.setCell ⟨b, o, none⟩ u) base v es :=
  h.kept (set_grown _ _ _ _) (fun k hk e => by have := (h.lt k hk).1; omega)
theorem Below.put9 {w W : World} (h : Below w.heap.size w W) (o : Nat) (u : Value) : Below w.heap.size w (W.setCell ⟨w.heap.size + 1 + 1, o, none⟩ u) :=
  h.setCell (p := ⟨w.heap.size + 1 + 1, o, none⟩) (by show w.heap.size ≤ w.heap.size + 1 + 1; omega) u
def AddRPost (p : Po) (e : Le) (w : World) (r : Ending) (w' : World) : Prop :=
  ∃ x' c', r = .returned (poV (withL p x' (insE e p.ls).length c' (insE e p.ls))) ∧ OwnL w' w.heap.size (.slice x' (insE e p.ls).length c') (insE e p.ls) ∧ Below w.heap.size w w'

set_option maxRecDepth 100000 in
set_option maxHeartbeats 3200000 in
theorem addLeaseR_any (p : Po) (e : Le) (w : World) (hp : LS w p.x p.n p.ls) (hn : p.n ≤ 32) :
    Calls Tryz.prog 33 #[poV p, leV e] w (AddRPost p e w) := by
  have hll : Hid (p.ls.length = p.n) := hp.len
  go_enter Tryz.func33, Tryz.ntmps33
  go_upto_region 1 with fail
  obtain ⟨w2, hw2⟩ : ∃ w2, w2 = ((w.alloc (poB p)).alloc (leO e)).alloc (poB poZ) := ⟨_, rfl⟩
  rw [show ((w.alloc (.cells #[.int .i64 p.id, .int .i64 p.up, .int .i64 p.a, .int .i64 p.l, .int .i64 p.mn, .int .i64 p.mx, .int .i64 p.us, .int .i64 p.co, .slice p.x p.n p.c] 49)).alloc (.cells #[.int .i64 e.a, .int .i64 e.l, .int .i64 e.kd, .int .i64 e.ow, .int .i64 e.un] 55)).alloc (.cells #[.int .i64 0, .int .i64 0, .int .i64 0, .int .i64 0, .int .i64 0, .int .i64 0, .int .i64 0, .int .i64 0, .slice none 0 0] 49) = w2 from hw2.symm]
  have hB2 : Below w.heap.size w w2 := by rw [hw2]; exact (bl2 w _ _).trans ((bl1 _ _).mono (by simp; omega))
  have hb2 : w2.heap[w.heap.size]? = some (poB p) := by rw [hw2]; exact heap_old _ (heap_old _ (heap_new _ rfl))
  have hl2 : w2.heap[w.heap.size + 1]? = some (leO e) := by rw [hw2]; exact heap_old _ (heap_new _ (by simp))
  have hs2 : w2.heap[w.heap.size + 2]? = some (poB poZ) := by rw [hw2]; exact heap_new _ (by simp)
  have hz2 : w2.heap.size = w.heap.size + 3 := by rw [hw2]; simp
  have hLS2 := hp.later hB2
  clear hw2
  go_wp2
  go_loopw [7, 6, 5] (fun kk dd vv wr => ∃ q : Nat, kk = .int .i64 q ∧ q ≤ p.n ∧ dd = .bool (insR e p.ls q).1 ∧ Below w2.heap.size w2 wr ∧ OwnL wr w2.heap.size vv (insR e p.ls q).2) (fun kk _ _ _ => p.n - (intOf kk).toNat)
  case atStart => exact ⟨0, rfl, by omega, rfl, Below.refl _ _, World.ownsRow_nil _ _ _ _⟩
  case round =>
    obtain ⟨q, rfl, hqn, rfl, hB, hOv⟩ := hrel
    have hbr := heap_later hB hb2
    have hlr := heap_later hB hl2
    have hvl : Hid ((insR e p.ls q).2.length ≤ 40) := by
      unfold Hid
      have := (ins_len e p.ls q).1
      omega
    have p8 : wr.cell? ⟨w.heap.size, 8, none⟩ = some (.slice p.x p.n p.c) := (box_cells hbr).1 8
    by_cases hlt : q < p.n
    · obtain ⟨b2, o2, hx2, e0, e1, e2, e3, e4⟩ := (hLS2.later hB).cells q hlt
      rw [hx2] at p8
      have hq0 : (0 : Int) ≤ q := by omega
      have hqn2 : (q : Int) < p.n := by omega
      have hlth : Hid (q < p.n) := hlt
      clear hlt
      obtain ⟨f, hf⟩ : ∃ f, Hid (f = leAt p.ls q) := ⟨_, rfl⟩
      rw [← hf.out] at e0 e1 e2 e3 e4
      have l0 : wr.cell? ⟨w.heap.size + 1, 0, none⟩ = some (.int .i64 e.a) := (box_cells hlr).1 0
      have hnext : Hid (insR e p.ls (q + 1) = if (insR e p.ls q).1 = false ∧ e.a < f.a then (true, (insR e p.ls q).2 ++ [e] ++ [f]) else ((insR e p.ls q).1, (insR e p.ls q).2 ++ [f])) := by unfold Hid; rw [hf.out]; rfl
      obtain ⟨D, hD⟩ : ∃ D, Hid (D = (insR e p.ls q).1) := ⟨_, rfl⟩
      rw [← hD.out] at hnext ⊢
      go_upto_region 6 with fail
      have g8 := Ws.here p8
      have g0 := Ws.here e0
      have gl := Ws.here l0
      by_cases hins : D = false ∧ e.a < f.a
      · obtain ⟨rfl, hlt2⟩ := hins
        have hgt : f.a > e.a := hlt2
        have hnx : Hid (insR e p.ls (q + 1) = (true, (insR e p.ls q).2 ++ [e] ++ [f])) := hnext.out.trans (if_pos ⟨rfl, hlt2⟩)
        refine wp_region_ws wr.heap.size (by kernel_rfl) (by kernel_rfl) ?_
        repeat (go_big_quiet_step (fail))
        refine wpQuiet_nil ?_
        rintro _ ⟨u, rfl⟩
        have hu := u.property
        generalize u.val = wu at hu ⊢
        clear u g8 g0 gl p8 l0
        have hOu := hOv.later hu
        have hBu := hB.trans (hu.mono hB.size)
        have hlu := heap_later hu hlr
        have hbu := heap_later hu hbr
        have l0 : wu.cell? ⟨w.heap.size + 1, 0, none⟩ = some (.int .i64 e.a) := (box_cells hlu).1 0
        have l1 : wu.cell? ⟨w.heap.size + 1, 1, none⟩ = some (.int .i64 e.l) := (box_cells hlu).1 1
        have l2 : wu.cell? ⟨w.heap.size + 1, 2, none⟩ = some (.int .i64 e.kd) := (box_cells hlu).1 2
        have l3 : wu.cell? ⟨w.heap.size + 1, 3, none⟩ = some (.int .i64 e.ow) := (box_cells hlu).1 3
        have l4 : wu.cell? ⟨w.heap.size + 1, 4, none⟩ = some (.int .i64 e.un) := (box_cells hlu).1 4
        go_wp2_with (at_builtin; refine Hid.out ?_)
        unfold Hid
        refine wpList_append_L rfl _ _ rfl w2.heap.size _ _ rfl (hOu.later (bl1 _ _)) ⟨wu.heap.size, 0, none⟩ 1 1 [e] rfl rfl ?_ (by have := hvl.out; simp at this ⊢; omega) (by simp; have := hBu.size; omega) ?_
        · intro j u hj
          have hn := heap_new (W := wu) (leO e) rfl
          rw [addr_add, Nat.zero_add]
          exact ((box_cells hn).1 j).trans (by rw [List.getElem?_toArray]; exact hj)

        intro v3 w3 hO3 hg3
        have hB3 : Below w2.heap.size w2 w3 := below_grownr (hBu.trans ((bl1 _ _).mono hBu.size)) hg3 (fun k e => (hOu.lt k e).1)
        have hvl3 : Hid (((insR e p.ls q).2 ++ [e]).length ≤ 40) := by
          unfold Hid
          have := (ins_len e p.ls q).1
          simp
          omega
        clear l0 l1 l2 l3 l4 hvl
        have hvl := hvl3
        have hb3 := heap_later hB3 hb2
        have p8 : w3.cell? ⟨w.heap.size, 8, none⟩ = some (.slice (some ⟨b2, o2, none⟩) p.n p.c) := by rw [← hx2]; exact (box_cells hb3).1 8
        obtain ⟨b3, o3, hx3, d0, d1, d2, d3, d4⟩ := (hLS2.later hB3).cells q hlth.out
        rw [hx2] at hx3
        simp only [Option.some.injEq, Addr.mk.injEq, and_true] at hx3
        obtain ⟨rfl, rfl⟩ := hx3
        rw [← hf.out] at d0 d1 d2 d3 d4
        clear e0 e1 e2 e3 e4
        go_wp2_with (at_builtin; refine Hid.out ?_)
        unfold Hid
        refine wpList_append_L rfl _ _ rfl w2.heap.size _ _ rfl (hO3.later (bl1 _ _)) ⟨w3.heap.size, 0, none⟩ 1 1 [f] rfl rfl ?_ (by have := hvl.out; simp at this ⊢; omega) (by simp; have := hB3.size; omega) ?_
        · intro j u hj
          have hn := heap_new (W := w3) (leO f) rfl
          rw [addr_add, Nat.zero_add]
          exact ((box_cells hn).1 j).trans (by rw [List.getElem?_toArray]; exact hj)

        intro v4 w4 hO4 hg4
        have hB4 : Below w2.heap.size w2 w4 := below_grownr (hB3.trans ((bl1 _ _).mono hB3.size)) hg4 (fun k e => (hO3.lt k e).1)
        go_wp2
        go_roundw
        case rel => exact ⟨q + 1, by go_num, hlth.out, by rw [hnx.out], hB4, by rw [hnx.out]; exact hO4⟩
        case measure => have := hlth.out; simp [intOf]; omega
      · have hnx : Hid (insR e p.ls (q + 1) = (D, (insR e p.ls q).2 ++ [f])) := hnext.out.trans (if_neg hins)
        cases D with
        | true =>
          refine wp_region_ws wr.heap.size (by kernel_rfl) (by kernel_rfl) ?_
          repeat (go_big_quiet_step (fail))
          refine wpQuiet_nil ?_
          rintro _ ⟨u, rfl⟩
          have hu := u.property
          generalize u.val = wu at hu ⊢
          clear u g8 g0 gl p8 l0
          have hOu := hOv.later hu
          have hBu := hB.trans (hu.mono hB.size)
          have hbu := heap_later hu hbr
          have p8 : wu.cell? ⟨w.heap.size, 8, none⟩ = some (.slice (some ⟨b2, o2, none⟩) p.n p.c) := by rw [← hx2]; exact (box_cells hbu).1 8
          have d0 := cell_later_add hu e0
          have d1 := cell_later_add hu e1
          have d2 := cell_later_add hu e2
          have d3 := cell_later_add hu e3
          have d4 := cell_later_add hu e4
          clear e0 e1 e2 e3 e4
          go_wp2_with (at_builtin; refine Hid.out ?_)
          unfold Hid
          refine wpList_append_L rfl _ _ rfl w2.heap.size _ _ rfl (hOu.later (bl1 _ _)) ⟨wu.heap.size, 0, none⟩ 1 1 [f] rfl rfl ?_ (by have := hvl.out; simp at this ⊢; omega) (by simp; have := hBu.size; omega) ?_
          · intro j u hj
            have hn := heap_new (W := wu) (leO f) rfl
            rw [addr_add, Nat.zero_add]
            exact ((box_cells hn).1 j).trans (by rw [List.getElem?_toArray]; exact hj)

          intro v4 w4 hO4 hg4
          have hB4 : Below w2.heap.size w2 w4 := below_grownr (hBu.trans ((bl1 _ _).mono hBu.size)) hg4 (fun k e => (hOu.lt k e).1)
          go_wp2
          go_roundw
          case rel => exact ⟨q + 1, by go_num, hlth.out, by rw [hnx.out], hB4, by rw [hnx.out]; exact hO4⟩
          case measure => have := hlth.out; simp [intOf]; omega
        | false =>
          have hle : ¬ f.a > e.a := fun h => hins ⟨rfl, h⟩
          refine wp_region_ws wr.heap.size (by kernel_rfl) (by kernel_rfl) ?_
          repeat (go_big_quiet_step (fail))
          refine wpQuiet_nil ?_
          rintro _ ⟨u, rfl⟩
          have hu := u.property
          generalize u.val = wu at hu ⊢
          clear u g8 g0 gl p8 l0
          have hOu := hOv.later hu
          have hBu := hB.trans (hu.mono hB.size)
          have hbu := heap_later hu hbr
          have p8 : wu.cell? ⟨w.heap.size, 8, none⟩ = some (.slice (some ⟨b2, o2, none⟩) p.n p.c) := by rw [← hx2]; exact (box_cells hbu).1 8
          have d0 := cell_later_add hu e0
          have d1 := cell_later_add hu e1
          have d2 := cell_later_add hu e2
          have d3 := cell_later_add hu e3
          have d4 := cell_later_add hu e4
          clear e0 e1 e2 e3 e4
          go_wp2_with (at_builtin; refine Hid.out ?_)
          unfold Hid
          refine wpList_append_L rfl _ _ rfl w2.heap.size _ _ rfl (hOu.later (bl1 _ _)) ⟨wu.heap.size, 0, none⟩ 1 1 [f] rfl rfl ?_ (by have := hvl.out; simp at this ⊢; omega) (by simp; have := hBu.size; omega) ?_
          · intro j u hj
            have hn := heap_new (W := wu) (leO f) rfl
            rw [addr_add, Nat.zero_add]
            exact ((box_cells hn).1 j).trans (by rw [List.getElem?_toArray]; exact hj)

          intro v4 w4 hO4 hg4
          have hB4 : Below w2.heap.size w2 w4 := below_grownr (hBu.trans ((bl1 _ _).mono hBu.size)) hg4 (fun k e => (hOu.lt k e).1)
          go_wp2
          go_roundw
          case rel => exact ⟨q + 1, by go_num, hlth.out, by rw [hnx.out], hB4, by rw [hnx.out]; exact hO4⟩
          case measure => have := hlth.out; simp [intOf]; omega
    · have hnq : ¬ (q : Int) < p.n := by omega
      obtain rfl : q = p.n := by omega
      have hE : Hid (insE e p.ls = if (insR e p.ls p.n).1 = true then (insR e p.ls p.n).2 else (insR e p.ls p.n).2 ++ [e]) := by unfold Hid insE; rw [hll.out]
      have hsr := heap_later hB hs2
      obtain ⟨D, hD⟩ : ∃ D, Hid (D = (insR e p.ls p.n).1) := ⟨_, rfl⟩
      rw [← hD.out] at hE ⊢
      cases D with
      | true =>
        have hE2 : Hid (insE e p.ls = (insR e p.ls p.n).2) := hE.out.trans (if_pos rfl)
        rw [← hE2.out] at hOv
        obtain ⟨xv, cv, rfl, -⟩ := hOv.mem
        have p8 : wr.cell? ⟨w.heap.size, 8, none⟩ = some (.slice p.x p.n p.c) := (box_cells hbr).1 8
        have zp8 : wr.frozen? ⟨w.heap.size, 8, none⟩ = false := (box_cells hbr).2 8
        go_upto_region 13 with fail
        obtain ⟨w5, hw5⟩ : ∃ w5, w5 = wr.setCell ⟨w.heap.size, 8, none⟩ (.slice xv (insE e p.ls).length cv) := ⟨_, rfl⟩
        rw [← hw5]
        have hv5 : w5.heap[w.heap.size]? = some (poB (withL p xv (insE e p.ls).length cv (insE e p.ls))) := by
          rw [hw5]
          have := heap_setCell_same wr w.heap.size 8 _ 49 (.slice xv (insE e p.ls).length cv) hbr
          simpa [withL] using this
        have hs5 : w5.heap[w.heap.size + 2]? = some (poB poZ) := by
          rw [hw5]
          exact (heap_setCell_other wr ⟨w.heap.size, 8, none⟩ _ _ (by show w.heap.size + 2 ≠ w.heap.size; omega)).trans hsr
        have hB5 : Below w.heap.size w w5 := by
          rw [hw5]
          exact (hB2.trans (hB.mono hB2.size)).setCell (p := ⟨w.heap.size, 8, none⟩) (Nat.le_refl _) _
        have hO5 : OwnL w5 w2.heap.size (.slice xv (insE e p.ls).length cv) (insE e p.ls) := by
          rw [hw5]
          exact hOv.kept (set_grown _ _ _ _) (fun k hk e => by have := (hOv.lt k hk).1; omega)
        clear hw5 p8 zp8
        have q0 : w5.cell? ⟨w.heap.size, 0, none⟩ = some (.int .i64 p.id) := (box_cells hv5).1 0
        have q1 : w5.cell? ⟨w.heap.size, 1, none⟩ = some (.int .i64 p.up) := (box_cells hv5).1 1
        have q2 : w5.cell? ⟨w.heap.size, 2, none⟩ = some (.int .i64 p.a) := (box_cells hv5).1 2
        have q3 : w5.cell? ⟨w.heap.size, 3, none⟩ = some (.int .i64 p.l) := (box_cells hv5).1 3
        have q4 : w5.cell? ⟨w.heap.size, 4, none⟩ = some (.int .i64 p.mn) := (box_cells hv5).1 4
        have q5 : w5.cell? ⟨w.heap.size, 5, none⟩ = some (.int .i64 p.mx) := (box_cells hv5).1 5
        have q6 : w5.cell? ⟨w.heap.size, 6, none⟩ = some (.int .i64 p.us) := (box_cells hv5).1 6
        have q7 : w5.cell? ⟨w.heap.size, 7, none⟩ = some (.int .i64 p.co) := (box_cells hv5).1 7
        have q8 : w5.cell? ⟨w.heap.size, 8, none⟩ = some (.slice xv (insE e p.ls).length cv) := (box_cells hv5).1 8
        have s0 : w5.cell? ⟨w.heap.size + 2, 0, none⟩ = some (.int .i64 0) := (box_cells hs5).1 0
        have s1 : w5.cell? ⟨w.heap.size + 2, 1, none⟩ = some (.int .i64 0) := (box_cells hs5).1 1
        have s2 : w5.cell? ⟨w.heap.size + 2, 2, none⟩ = some (.int .i64 0) := (box_cells hs5).1 2
        have s3 : w5.cell? ⟨w.heap.size + 2, 3, none⟩ = some (.int .i64 0) := (box_cells hs5).1 3
        have s4 : w5.cell? ⟨w.heap.size + 2, 4, none⟩ = some (.int .i64 0) := (box_cells hs5).1 4
        have s5 : w5.cell? ⟨w.heap.size + 2, 5, none⟩ = some (.int .i64 0) := (box_cells hs5).1 5
        have s6 : w5.cell? ⟨w.heap.size + 2, 6, none⟩ = some (.int .i64 0) := (box_cells hs5).1 6
        have s7 : w5.cell? ⟨w.heap.size + 2, 7, none⟩ = some (.int .i64 0) := (box_cells hs5).1 7
        have s8 : w5.cell? ⟨w.heap.size + 2, 8, none⟩ = some (.slice none 0 0) := (box_cells hs5).1 8
        have zz := (box_cells hs5).2
        go_wp2
        refine bodyPost_ret (v := poV (withL p xv (insE e p.ls).length cv (insE e p.ls))) (by simp [results, Tryz.results33, go_sem, s0, s1, s2, s3, s4, s5, s6, s7, s8, poV, withL]) rfl ?_
        exact ⟨xv, cv, rfl, (((((((((hO5.put (b := w.heap.size + 1 + 1) (o := 0) (by omega)).put (b := w.heap.size + 1 + 1) (o := 1) (by omega)).put (b := w.heap.size + 1 + 1) (o := 2) (by omega)).put (b := w.heap.size + 1 + 1) (o := 3) (by omega)).put (b := w.heap.size + 1 + 1) (o := 4) (by omega)).put (b := w.heap.size + 1 + 1) (o := 5) (by omega)).put (b := w.heap.size + 1 + 1) (o := 6) (by omega)).put (b := w.heap.size + 1 + 1) (o := 7) (by omega)).put (b := w.heap.size + 1 + 1) (o := 8) (by omega)).low hB2.size,
          Below.put9 (Below.put9 (Below.put9 (Below.put9 (Below.put9 (Below.put9 (Below.put9 (Below.put9 (Below.put9 hB5 0 _) 1 _) 2 _) 3 _) 4 _) 5 _) 6 _) 7 _) 8 _⟩
      | false =>
        have hE2 : Hid (insE e p.ls = (insR e p.ls p.n).2 ++ [e]) := hE.out.trans (if_neg (by decide))
        have l0 : wr.cell? ⟨w.heap.size + 1, 0, none⟩ = some (.int .i64 e.a) := (box_cells hlr).1 0
        have l1 : wr.cell? ⟨w.heap.size + 1, 1, none⟩ = some (.int .i64 e.l) := (box_cells hlr).1 1
        have l2 : wr.cell? ⟨w.heap.size + 1, 2, none⟩ = some (.int .i64 e.kd) := (box_cells hlr).1 2
        have l3 : wr.cell? ⟨w.heap.size + 1, 3, none⟩ = some (.int .i64 e.ow) := (box_cells hlr).1 3
        have l4 : wr.cell? ⟨w.heap.size + 1, 4, none⟩ = some (.int .i64 e.un) := (box_cells hlr).1 4
        go_wp2_with (at_builtin; refine Hid.out ?_)
        unfold Hid
        refine wpList_append_L rfl _ _ rfl w2.heap.size _ _ rfl (hOv.later (bl1 _ _)) ⟨wr.heap.size, 0, none⟩ 1 1 [e] rfl rfl ?_ (by have := hvl.out; simp at this ⊢; omega) (by simp; have := hB.size; omega) ?_
        · intro j u hj
          have hn := heap_new (W := wr) (leO e) rfl
          rw [addr_add, Nat.zero_add]
          exact ((box_cells hn).1 j).trans (by rw [List.getElem?_toArray]; exact hj)

        intro v3 w3 hO3 hg3
        have hB3 : Below w2.heap.size w2 w3 := below_grownr (hB.trans ((bl1 _ _).mono hB.size)) hg3 (fun k e => (hOv.lt k e).1)
        rw [← hE2.out] at hO3
        have hb3 := heap_later hB3 hb2
        have hs3 := heap_later hB3 hs2
        clear l0 l1 l2 l3 l4 p8
        obtain ⟨xv, cv, rfl, -⟩ := hO3.mem
        have p8 : w3.cell? ⟨w.heap.size, 8, none⟩ = some (.slice p.x p.n p.c) := (box_cells hb3).1 8
        have zp8 : w3.frozen? ⟨w.heap.size, 8, none⟩ = false := (box_cells hb3).2 8
        go_upto_region 13 with fail
        obtain ⟨w5, hw5⟩ : ∃ w5, w5 = w3.setCell ⟨w.heap.size, 8, none⟩ (.slice xv (insE e p.ls).length cv) := ⟨_, rfl⟩
        rw [← hw5]
        have hv5 : w5.heap[w.heap.size]? = some (poB (withL p xv (insE e p.ls).length cv (insE e p.ls))) := by
          rw [hw5]
          have := heap_setCell_same w3 w.heap.size 8 _ 49 (.slice xv (insE e p.ls).length cv) hb3
          simpa [withL] using this
        have hs5 : w5.heap[w.heap.size + 2]? = some (poB poZ) := by
          rw [hw5]
          exact (heap_setCell_other w3 ⟨w.heap.size, 8, none⟩ _ _ (by show w.heap.size + 2 ≠ w.heap.size; omega)).trans hs3
        have hB5 : Below w.heap.size w w5 := by
          rw [hw5]
          exact (hB2.trans (hB3.mono hB2.size)).setCell (p := ⟨w.heap.size, 8, none⟩) (Nat.le_refl _) _
        have hO5 : OwnL w5 w2.heap.size (.slice xv (insE e p.ls).length cv) (insE e p.ls) := by
          rw [hw5]
          exact hO3.kept (set_grown _ _ _ _) (fun k hk e => by have := (hO3.lt k hk).1; omega)
        clear hw5 p8 zp8
        have q0 : w5.cell? ⟨w.heap.size, 0, none⟩ = some (.int .i64 p.id) := (box_cells hv5).1 0
        have q1 : w5.cell? ⟨w.heap.size, 1, none⟩ = some (.int .i64 p.up) := (box_cells hv5).1 1
        have q2 : w5.cell? ⟨w.heap.size, 2, none⟩ = some (.int .i64 p.a) := (box_cells hv5).1 2
        have q3 : w5.cell? ⟨w.heap.size, 3, none⟩ = some (.int .i64 p.l) := (box_cells hv5).1 3
        have q4 : w5.cell? ⟨w.heap.size, 4, none⟩ = some (.int .i64 p.mn) := (box_cells hv5).1 4
        have q5 : w5.cell? ⟨w.heap.size, 5, none⟩ = some (.int .i64 p.mx) := (box_cells hv5).1 5
        have q6 : w5.cell? ⟨w.heap.size, 6, none⟩ = some (.int .i64 p.us) := (box_cells hv5).1 6
        have q7 : w5.cell? ⟨w.heap.size, 7, none⟩ = some (.int .i64 p.co) := (box_cells hv5).1 7
        have q8 : w5.cell? ⟨w.heap.size, 8, none⟩ = some (.slice xv (insE e p.ls).length cv) := (box_cells hv5).1 8
        have s0 : w5.cell? ⟨w.heap.size + 2, 0, none⟩ = some (.int .i64 0) := (box_cells hs5).1 0
        have s1 : w5.cell? ⟨w.heap.size + 2, 1, none⟩ = some (.int .i64 0) := (box_cells hs5).1 1
        have s2 : w5.cell? ⟨w.heap.size + 2, 2, none⟩ = some (.int .i64 0) := (box_cells hs5).1 2
        have s3 : w5.cell? ⟨w.heap.size + 2, 3, none⟩ = some (.int .i64 0) := (box_cells hs5).1 3
        have s4 : w5.cell? ⟨w.heap.size + 2, 4, none⟩ = some (.int .i64 0) := (box_cells hs5).1 4
        have s5 : w5.cell? ⟨w.heap.size + 2, 5, none⟩ = some (.int .i64 0) := (box_cells hs5).1 5
        have s6 : w5.cell? ⟨w.heap.size + 2, 6, none⟩ = some (.int .i64 0) := (box_cells hs5).1 6
        have s7 : w5.cell? ⟨w.heap.size + 2, 7, none⟩ = some (.int .i64 0) := (box_cells hs5).1 7
        have s8 : w5.cell? ⟨w.heap.size + 2, 8, none⟩ = some (.slice none 0 0) := (box_cells hs5).1 8
        have zz := (box_cells hs5).2
        go_wp2
        refine bodyPost_ret (v := poV (withL p xv (insE e p.ls).length cv (insE e p.ls))) (by simp [results, Tryz.results33, go_sem, s0, s1, s2, s3, s4, s5, s6, s7, s8, poV, withL]) rfl ?_
        exact ⟨xv, cv, rfl, (((((((((hO5.put (b := w.heap.size + 1 + 1) (o := 0) (by omega)).put (b := w.heap.size + 1 + 1) (o := 1) (by omega)).put (b := w.heap.size + 1 + 1) (o := 2) (by omega)).put (b := w.heap.size + 1 + 1) (o := 3) (by omega)).put (b := w.heap.size + 1 + 1) (o := 4) (by omega)).put (b := w.heap.size + 1 + 1) (o := 5) (by omega)).put (b := w.heap.size + 1 + 1) (o := 6) (by omega)).put (b := w.heap.size + 1 + 1) (o := 7) (by omega)).put (b := w.heap.size + 1 + 1) (o := 8) (by omega)).low hB2.size,
          Below.put9 (Below.put9 (Below.put9 (Below.put9 (Below.put9 (Below.put9 (Below.put9 (Below.put9 (Below.put9 hB5 0 _) 1 _) 2 _) 3 _) 4 _) 5 _) 6 _) 7 _) 8 _⟩
end Go.Proofs.YtpdoonkhnabfjaaGreat
