/- What slices.Clone at leases and pools comes to. -/
import Derived.Test.YtpdoonkhnabfjaaGreatMO11
import Derived.Lib.SliceRun
import Derived.Lib.AppendZerosOnto
import Derived.Lib.AppendZeros
import Derived.Deep.RegionHeld3
namespace Go.Proofs.YtpdoonkhnabfjaaGreat
open Go.RowKit Go.Shelf

theorem below_grownr {w V V' : World} {r : Option Nat} (h : Below w.heap.size w V) (g : V.grownBy V' r) (hr : ∀ k, r = some k → w.heap.size ≤ k) : Below w.heap.size w V' :=
  ⟨g.os.trans h.os, g.tape.trans h.tape, g.output.trans h.output, Nat.le_trans h.size g.size, fun j hj => (g.block j (Nat.lt_of_lt_of_le hj h.size) (fun e => by have := hr j e.symm; omega)).trans (h.block j hj)⟩
theorem cell_later_add {w w' : World} {a : Addr} {v : Value} (hb : Below w.heap.size w w') (h : w.cell? a = some v) : w'.cell? a = some v :=
  (hb.cell (World.block_lt_of_cell? w a h)).trans h

set_option maxRecDepth 20000 in
set_option maxHeartbeats 800000 in
theorem cloneL_any (x : Option Addr) (n c : Nat) (es : List Le) (w : World) (hl : LS w x n es) (hn : n ≤ 1048576) :
    Calls Tryz.prog 80 #[.slice x n c] w fun e w' => ∃ v, e = .returned v ∧ OwnL w' w.heap.size v es ∧ Below w.heap.size w w' := by
  have hq := fun W => Lib.run_eql_slice_nil (P := Tryz.prog) W 47 55 x n c 0 0 under_L
  cases x with
  | none =>
    have h0 : n = 0 := by
      rcases Nat.eq_zero_or_pos n with h | h
      · exact h
      · obtain ⟨b, o, h, -⟩ := hl.cells 0 h
        cases h
    obtain rfl : es = [] := List.eq_nil_of_length_eq_zero (by rw [hl.len, h0])
    subst h0
    simp only [Option.isNone_none] at hq
    go_enter Tryz.func80, Tryz.ntmps80
    go_wp2
    go_ret
    exact ⟨_, rfl, World.ownsRow_nil _ _ _ _, Below.refl _ _⟩
  | some ad =>
    simp only [Option.isNone_some] at hq
    have hlen := hl.len
    go_enter Tryz.func80, Tryz.ntmps80
    go_wp2_with (at_builtin; refine Hid.out ?_)
    unfold Hid
    have hO : OwnL (w.alloc (.cells #[] 55)) w.heap.size (.slice (some ⟨w.heap.size, 0, none⟩) 0 0) [] := ⟨rfl, .inr ⟨w.heap.size, 0, #[], rfl, Nat.le_refl _, heap_new _ rfl, by simp, by unfold maxLen; omega, by simp, rfl⟩⟩
    refine wpList_append_L rfl _ _ rfl w.heap.size _ [] rfl hO ad n c es rfl hlen (fun j u hj => cell_later_add (bl1 w _) (hl.flat_cells j u hj)) (by simp; omega) (by simp) ?_
    intro v' w' hO' hg
    have hB := below_grownr (bl1 w _) hg (fun k e => (hO.lt k e).1)
    go_wp2
    go_ret
    exact ⟨_, rfl, hO', hB⟩

set_option maxRecDepth 20000 in
set_option maxHeartbeats 800000 in
theorem cloneP_any (x : Option Addr) (n c : Nat) (es : List Po) (w : World) (hl : PoS w x n es) (hn : n ≤ 1048576) :
    Calls Tryz.prog 79 #[.slice x n c] w fun e w' => ∃ v, e = .returned v ∧ OwnP w' w.heap.size v es ∧ Below w.heap.size w w' := by
  have hq := fun W => Lib.run_eql_slice_nil (P := Tryz.prog) W 22 49 x n c 0 0 under_P
  cases x with
  | none =>
    have h0 : n = 0 := by
      rcases Nat.eq_zero_or_pos n with h | h
      · exact h
      · obtain ⟨b, o, h, -⟩ := hl.cells 0 h
        cases h
    obtain rfl : es = [] := List.eq_nil_of_length_eq_zero (by rw [hl.len, h0])
    subst h0
    simp only [Option.isNone_none] at hq
    go_enter Tryz.func79, Tryz.ntmps79
    go_wp2
    go_ret
    exact ⟨_, rfl, World.ownsRow_nil _ _ _ _, Below.refl _ _⟩
  | some ad =>
    simp only [Option.isNone_some] at hq
    have hlen := hl.len
    go_enter Tryz.func79, Tryz.ntmps79
    go_wp2_with (at_builtin; refine Hid.out ?_)
    unfold Hid
    have hO : OwnP (w.alloc (.cells #[] 49)) w.heap.size (.slice (some ⟨w.heap.size, 0, none⟩) 0 0) [] := ⟨rfl, .inr ⟨w.heap.size, 0, #[], rfl, Nat.le_refl _, heap_new _ rfl, by simp, by unfold maxLen; omega, by simp, rfl⟩⟩
    refine wpList_append_P rfl _ _ rfl w.heap.size _ [] rfl hO ad n c es rfl hlen (fun j u hj => cell_later_add (bl1 w _) (hl.flat_cells j u hj)) (by simp; omega) (by simp) ?_
    intro v' w' hO' hg
    have hB := below_grownr (bl1 w _) hg (fun k e => (hO.lt k e).1)
    go_wp2
    go_ret
    exact ⟨_, rfl, hO', hB⟩
end Go.Proofs.YtpdoonkhnabfjaaGreat
/- A book in memory of the call's own. -/
namespace Go.Proofs.YtpdoonkhnabfjaaGreat
open Go.RowKit Go.Shelf

/-- The pool with another slice of leases. -/
def withL (p : Po) (x : Option Addr) (n c : Nat) (ls : List Le) : Po := ⟨p.id, p.up, p.a, p.l, p.mn, p.mx, p.us, p.co, x, n, c, ls⟩
theorem poAt_set {ps : List Po} {i j : Nat} {p : Po} (hi : i < ps.length) : poAt (ps.set i p) j = if i = j then p else poAt ps j := by
  unfold poAt
  rw [List.getD_eq_getElem?_getD, List.getD_eq_getElem?_getD, List.getElem?_set]
  by_cases h : i = j
  · subst h; rw [if_pos rfl, if_pos rfl, if_pos hi]; rfl
  · rw [if_neg h, if_neg h]
theorem flatP_set (ps : List Po) (i : Nat) (x : Option Addr) (n c : Nat) (ls : List Le) (hi : i < ps.length) : (flatP ps).set (i * 9 + 8) (.slice x n c) = flatP (ps.set i (withL (poAt ps i) x n c ls)) := by
  refine List.ext_getElem? fun j => ?_
  by_cases hj : j < ps.length * 9
  · have e : j = (j / 9) * 9 + j % 9 := by omega
    have hq : j / 9 < ps.length := by omega
    rw [e, flatP_at _ _ _ (by rw [List.length_set]; exact hq) (by omega), poAt_set hi, List.getElem?_set]
    by_cases h1 : i = j / 9
    · rw [if_pos h1]
      by_cases h2 : j % 9 = 8
      · rw [if_pos (by omega), if_pos (by rw [flatP_len]; omega), h2]
        rfl
      · rw [if_neg (by omega), flatP_at _ _ _ hq (by omega), h1]
        have h3 : j % 9 < 8 := by omega
        generalize j % 9 = r at h3
        rcases r with _ | _ | _ | _ | _ | _ | _ | _ | r
        all_goals first | rfl | omega
    · rw [if_neg h1, if_neg (by omega), flatP_at _ _ _ hq (by omega)]
  · rw [List.getElem?_eq_none (by rw [List.length_set, flatP_len]; omega), List.getElem?_eq_none (by rw [flatP_len, List.length_set]; omega)]
theorem OwnP.set {w : World} {base g n cap : Nat} {ps : List Po} (h : OwnP w base (.slice (some ⟨g, 0, none⟩) n cap) ps) (i : Nat) (hi : i < ps.length) (x : Option Addr) (m c : Nat) (ls : List Le) :
    OwnP (w.setCell ⟨g, i * 9 + 8, none⟩ (.slice x m c)) base (.slice (some ⟨g, 0, none⟩) n cap) (ps.set i (withL (poAt ps i) x m c ls)) := by
  rcases h.2 with ⟨hv, -⟩ | ⟨g', cap', cur, hv, h1, h2, h3, h4, h5, h6⟩
  · simp at hv
  · simp only [Value.slice.injEq, Option.some.injEq, Addr.mk.injEq] at hv
    obtain ⟨⟨rfl, -⟩, rfl, rfl⟩ := hv
    refine ⟨flatP_len _, .inr ⟨g, cap, cur.setIfInBounds (i * 9 + 8) (.slice x m c), by rw [List.length_set], h1, heap_setCell_same w g _ _ _ _ h2, by rw [List.length_set]; exact h3, h4, by simpa using h5, ?_⟩⟩
    rw [List.length_set, Array.toList_setIfInBounds, List.take_set, h6, flatP_set ps i x m c ls hi]
theorem set_grown (w : World) (g o : Nat) (v : Value) : w.grownBy (w.setCell ⟨g, o, none⟩ v) (some g) := by
  refine ⟨rfl, rfl, rfl, by simp, fun k _ hne => heap_setCell_other _ _ _ _ (fun e => hne (by rw [e]))⟩
theorem OwnP.frozen {w : World} {base g n cap : Nat} {ps : List Po} (h : OwnP w base (.slice (some ⟨g, 0, none⟩) n cap) ps) (i : Nat) : w.frozen? ⟨g, i, none⟩ = false := by
  rcases h.2 with ⟨hv, -⟩ | ⟨g', cap', cur, hv, h1, h2, -⟩
  · simp at hv
  · simp only [Value.slice.injEq, Option.some.injEq, Addr.mk.injEq] at hv
    obtain ⟨⟨rfl, -⟩, -, rfl⟩ := hv
    simp [World.frozen?, h2]
theorem OwnL.frozen {w : World} {base g n cap : Nat} {es : List Le} (h : OwnL w base (.slice (some ⟨g, 0, none⟩) n cap) es) (i : Nat) : w.frozen? ⟨g, i, none⟩ = false := by
  rcases h.2 with ⟨hv, -⟩ | ⟨g', cap', cur, hv, h1, h2, -⟩
  · simp at hv
  · simp only [Value.slice.injEq, Option.some.injEq, Addr.mk.injEq] at hv
    obtain ⟨⟨rfl, -⟩, -, rfl⟩ := hv
    simp [World.frozen?, h2]
theorem OwnL.ls {w : World} {base n c : Nat} {x : Option Addr} {es : List Le} (h : OwnL w base (.slice x n c) es) : LS w x n es ∧ es.length = n ∧ n ≤ c ∧ c ≤ 9223372036854775807 := by
  obtain ⟨x', c', hv, h1, h2, -, h4⟩ := h.mem
  simp only [Value.slice.injEq] at hv
  obtain ⟨rfl, rfl, rfl⟩ := hv
  exact ⟨⟨rfl, h4⟩, rfl, h1, h2⟩

/-- The first k pools have leases in memory of the call's own, each its own; the others have them somewhere. -/
structure OBk (w : World) (base : Nat) (v : Value) (ps : List Po) (k : Nat) : Prop where
  row : OwnP w base v ps
  own : ∀ i, i < k → OwnL w base (.slice (poAt ps i).x (poAt ps i).n (poAt ps i).c) (poAt ps i).ls
  rest : ∀ i, k ≤ i → i < ps.length → LS w (poAt ps i).x (poAt ps i).n (poAt ps i).ls ∧ (poAt ps i).n ≤ (poAt ps i).c ∧ (poAt ps i).n ≤ 1048576 ∧ (∀ q, (poAt ps i).x = some q → 0 < (poAt ps i).n → q.block < base)
  apart : ∀ i j, i < k → j < k → i ≠ j → ∀ b, (Value.slice (poAt ps i).x (poAt ps i).n (poAt ps i).c).ownBlock = some b → (Value.slice (poAt ps j).x (poAt ps j).n (poAt ps j).c).ownBlock ≠ some b
/-- The same but for where it lies. -/
def sameP (p q : Po) : Prop := p.id = q.id ∧ p.up = q.up ∧ p.a = q.a ∧ p.l = q.l ∧ p.mn = q.mn ∧ p.mx = q.mx ∧ p.us = q.us ∧ p.co = q.co ∧ p.n = q.n ∧ p.ls = q.ls
def sameB (ps qs : List Po) : Prop := ps.length = qs.length ∧ ∀ i, i < ps.length → sameP (poAt ps i) (poAt qs i)
theorem sameP.refl (p : Po) : sameP p p := ⟨rfl, rfl, rfl, rfl, rfl, rfl, rfl, rfl, rfl, rfl⟩
theorem sameB.refl (ps : List Po) : sameB ps ps := ⟨rfl, fun _ _ => sameP.refl _⟩
theorem OBk.bk {w : World} {base : Nat} {v : Value} {ps : List Po} (h : OBk w base v ps ps.length) (hs : ∀ i, i < ps.length → (poAt ps i).n ≤ 1048576) : ∃ x c, v = .slice x ps.length c ∧ Bk w x ps.length c ps := by
  obtain ⟨x, c, hv, h1, h2, h3, h4⟩ := h.row.mem
  exact ⟨x, c, hv, ⟨rfl, h4, fun i hi => by
    obtain ⟨g1, g2, g3, -⟩ := (h.own i hi).ls
    exact ⟨g3, hs i hi, g1⟩⟩, h1, h2⟩
theorem OBk.later {w w' : World} {base : Nat} {v : Value} {ps : List Po} {k : Nat} (h : OBk w base v ps k) (hb : Below w.heap.size w w') : OBk w' base v ps k :=
  ⟨h.row.later hb, fun i hi => (h.own i hi).later hb, fun i hi hi2 => by
    obtain ⟨g1, g2⟩ := h.rest i hi hi2
    exact ⟨g1.later hb, g2⟩, h.apart⟩
end Go.Proofs.YtpdoonkhnabfjaaGreat
/- What Book of package fresh comes to. -/
namespace Go.Proofs.YtpdoonkhnabfjaaGreat
open Go.RowKit Go.Shelf

abbrev bkV (t : Int) (v : Value) : Obj := .cells #[.int .i64 t, v] 24
theorem bkV_set {V : World} {b : Nat} {t t' : Int} {v v' : Value} (h : V.heap[b]? = some (bkV t v)) : ((V.setCell ⟨b, 0, none⟩ (.int .i64 t')).setCell ⟨b, 1, none⟩ v').heap[b]? = some (bkV t' v') := by
  have h1 := heap_setCell_same V b 0 _ 24 (.int .i64 t') h
  have h2 := heap_setCell_same _ b 1 _ 24 v' h1
  simpa using h2
/-- What comes is the same, in memory of the call's own. -/
def FreshPost (t : Int) (ps : List Po) (w : World) (e : Ending) (w' : World) : Prop :=
  ∃ v qs, e = .returned (.agg #[.int .i64 t, v]) ∧ sameB ps qs ∧ OBk w' w.heap.size v qs qs.length ∧ Below w.heap.size w w'
theorem OBk.start {w w' : World} {base x n c v ps} (hk : Bk w x n c ps) (hb : Below w.heap.size w w') (h : OwnP w' base v ps) (hw2 : w.heap.size ≤ base) : OBk w' base v ps 0 where
  row := h
  own := fun i hi => by omega
  rest := fun i _ hi => by
    obtain ⟨g1, g2, g3⟩ := hk.ps.leases i (by rw [← hk.ps.len]; exact hi)
    refine ⟨g3.later hb, g1, g2, fun q hq h0 => ?_⟩
    obtain ⟨b, o, hx, c0, -⟩ := g3.cells 0 h0
    rw [hq] at hx
    cases hx
    exact Nat.lt_of_lt_of_le (block_lt_of_cell c0) hw2
  apart := fun i j hi => by omega

theorem LS.set {w : World} {x : Option Addr} {n g o : Nat} {v : Value} {ls : List Le} (h : LS w x n ls) (hx : ∀ q, x = some q → 0 < n → q.block ≠ g) : LS (w.setCell ⟨g, o, none⟩ v) x n ls where
  len := h.len
  cells := fun i hi => by
    obtain ⟨b, of, he, c0, c1, c2, c3, c4⟩ := h.cells i hi
    have hne : b ≠ g := hx _ he (by omega)
    exact ⟨b, of, he, (cell_set_ne hne).trans c0, (cell_set_ne hne).trans c1, (cell_set_ne hne).trans c2, (cell_set_ne hne).trans c3, (cell_set_ne hne).trans c4⟩
theorem OwnP.block {w : World} {base g n cap : Nat} {ps : List Po} (h : OwnP w base (.slice (some ⟨g, 0, none⟩) n cap) ps) : base ≤ g ∧ ∃ cur, w.heap[g]? = some (.cells cur 49) := by
  rcases h.2 with ⟨hv, -⟩ | ⟨g', cap', cur, hv, h1, h2, -⟩
  · simp at hv
  · simp only [Value.slice.injEq, Option.some.injEq, Addr.mk.injEq] at hv
    obtain ⟨⟨rfl, -⟩, -, rfl⟩ := hv
    exact ⟨h1, cur, h2⟩
theorem OBk.step {W W1 : World} {base g n cap : Nat} {qs : List Po} {k : Nat} {x' : Option Addr} {c' : Nat} (h : OBk W base (.slice (some ⟨g, 0, none⟩) n cap) qs k) (hk : k < qs.length) (hb : Below W.heap.size W W1) (ho : OwnL W1 W.heap.size (.slice x' (poAt qs k).ls.length c') (poAt qs k).ls) (hwb : base ≤ W.heap.size) :
    OBk (W1.setCell ⟨g, k * 9 + 8, none⟩ (.slice x' (poAt qs k).ls.length c')) base (.slice (some ⟨g, 0, none⟩) n cap) (qs.set k (withL (poAt qs k) x' (poAt qs k).ls.length c' (poAt qs k).ls)) (k + 1) := by
  have hr := h.row.later hb
  obtain ⟨hbg, cur, hg⟩ := hr.block
  have hall : ∀ i, i < k + 1 → OwnL W1 base (.slice (poAt (qs.set k (withL (poAt qs k) x' (poAt qs k).ls.length c' (poAt qs k).ls)) i).x (poAt (qs.set k (withL (poAt qs k) x' (poAt qs k).ls.length c' (poAt qs k).ls)) i).n (poAt (qs.set k (withL (poAt qs k) x' (poAt qs k).ls.length c' (poAt qs k).ls)) i).c) (poAt (qs.set k (withL (poAt qs k) x' (poAt qs k).ls.length c' (poAt qs k).ls)) i).ls := fun i hi => by
    rw [poAt_set hk]
    by_cases e : k = i
    · rw [if_pos e]; exact ho.low hwb
    · rw [if_neg e]; exact (h.own i (by omega)).later hb
  refine ⟨hr.set k hk x' _ c' _, fun i hi => (hall i hi).kept (set_grown _ _ _ _) (fun q hq e => by subst e; exact (hall i hi).ne hg (by decide) hq), fun i hi hi2 => ?_, fun i j hi hj hij b hbi hbj => ?_⟩
  · rw [List.length_set] at hi2
    rw [poAt_set hk, if_neg (by omega)]
    obtain ⟨g1, g2, g3, g4⟩ := h.rest i (by omega) hi2
    exact ⟨(g1.later hb).set (fun q hq h0 => by have := g4 q hq h0; omega), g2, g3, g4⟩
  · rw [poAt_set hk] at hbi hbj
    by_cases e : k = i
    · rw [if_pos e] at hbi
      rw [if_neg (by omega)] at hbj
      have h1 := ho.lt b hbi
      have h2 := (h.own j (by omega)).lt b hbj
      omega
    · rw [if_neg e] at hbi
      by_cases e2 : k = j
      · rw [if_pos e2] at hbj
        have h1 := ho.lt b hbj
        have h2 := (h.own i (by omega)).lt b hbi
        omega
      · rw [if_neg e2] at hbj
        exact h.apart i j (by omega) (by omega) hij b hbi hbj
theorem OBk.low {w : World} {base base' : Nat} {v : Value} {ps : List Po} (h : OBk w base v ps ps.length) (hb : base' ≤ base) : OBk w base' v ps ps.length :=
  ⟨h.row.low hb, fun i hi => (h.own i hi).low hb, fun i hi hi2 => by omega, h.apart⟩
theorem OBk.put {w : World} {base b o : Nat} {u v : Value} {ps : List Po} (h : OBk w base v ps ps.length) (hb : b < base) : OBk (w.setCell ⟨b, o, none⟩ u) base v ps ps.length :=
  ⟨h.row.kept (set_grown _ _ _ _) (fun k hk => by have := h.row.lt k hk; omega), fun i hi => (h.own i hi).kept (set_grown _ _ _ _) (fun k hk => by have := (h.own i hi).lt k hk; omega), fun i hi hi2 => by omega, h.apart⟩
theorem sameB.set {ps qs : List Po} {k : Nat} {x : Option Addr} {c : Nat} (h : sameB ps qs) (hk : k < qs.length) (hn : (poAt qs k).ls.length = (poAt qs k).n) : sameB ps (qs.set k (withL (poAt qs k) x (poAt qs k).ls.length c (poAt qs k).ls)) := by
  refine ⟨by rw [List.length_set]; exact h.1, fun i hi => ?_⟩
  have hs := h.2 i hi
  rw [poAt_set hk]
  by_cases e : k = i
  · subst e
    rw [if_pos rfl]
    obtain ⟨a1, a2, a3, a4, a5, a6, a7, a8, a9, a10⟩ := hs
    exact ⟨a1, a2, a3, a4, a5, a6, a7, a8, a9.trans hn.symm, a10⟩
  · rw [if_neg e]; exact hs

set_option maxRecDepth 100000 in
set_option maxHeartbeats 3200000 in
theorem freshBook_any (t : Int) (x : Option Addr) (n c : Nat) (ps : List Po) (w : World) (hk : Bk w x n c ps) (hn : n ≤ 64) :
    Calls Tryz.prog 45 #[.agg #[.int .i64 t, .slice x n c]] w (FreshPost t ps w) := by
  have hpl : Hid (ps.length = n) := hk.ps.len
  go_enter Tryz.func45, Tryz.ntmps45
  go_upto_region 1 with fail
  obtain ⟨w0, hw0⟩ : ∃ w0, w0 = (w.alloc (bkV t (.slice x n c))).alloc (bkV 0 (.slice none 0 0)) := ⟨_, rfl⟩
  rw [← hw0]
  have hB0 : Below w.heap.size w w0 := by rw [hw0]; exact bl2 w _ _
  have hb0 : w0.heap[w.heap.size]? = some (bkV t (.slice x n c)) := by rw [hw0]; exact heap_old _ (heap_new _ rfl)
  have hr0 : w0.heap[w.heap.size + 1]? = some (bkV 0 (.slice none 0 0)) := by rw [hw0]; exact heap_new _ (by simp)
  clear hw0
  have hsz : w.heap.size + 1 < w0.heap.size := (Array.getElem?_eq_some_iff.1 hr0).1
  obtain ⟨kb, -⟩ := box_cells hb0
  have k0 : w0.cell? ⟨w.heap.size, 0, none⟩ = some (.int .i64 t) := kb 0
  have k1 : w0.cell? ⟨w.heap.size, 1, none⟩ = some (.slice x n c) := kb 1
  clear kb
  have hcl := fun W h => cloneP_any x n c ps W h (by omega)
  go_cut [3] (fun p wc => ∃ nb v, p = .pointer (some ⟨nb, 0, none⟩) ∧ w0.heap.size ≤ nb ∧ OwnP wc w0.heap.size v ps ∧ wc.heap[nb]? = some (bkV t v) ∧ Below w0.heap.size w0 wc)
  case first =>
    go_region_held3 (fun w' => w'.cell? ⟨w.heap.size, 0, none⟩ = some (.int .i64 t) ∧ w'.cell? ⟨w.heap.size, 1, none⟩ = some (.slice x n c)) (first | (exact ⟨(cell_later_add hb1 (by first | exact k0 | exact cell_later_add (bl1 _ _).drew k0)), (cell_later_add hb1 (by first | exact k1 | exact cell_later_add (bl1 _ _).drew k1))⟩) | (exact ⟨cell_later_add (bl1 _ _) (cell_later_add hb1 (by first | exact k0 | exact cell_later_add (bl1 _ _).drew k0)), cell_later_add (bl1 _ _) (cell_later_add hb1 (by first | exact k1 | exact cell_later_add (bl1 _ _).drew k1))⟩) | (exact ⟨cell_later_add (bl1 _ _) k0, cell_later_add (bl1 _ _) k1⟩) | (exact ⟨((cell_set_ne (by omega)).trans ((cell_set_ne (by omega)).trans (cell_later_add hb1 (by first | exact k0 | exact cell_later_add (bl1 _ _).drew k0)))), ((cell_set_ne (by omega)).trans ((cell_set_ne (by omega)).trans (cell_later_add hb1 (by first | exact k1 | exact cell_later_add (bl1 _ _).drew k1))))⟩) | (go_keep; done)) (first | (go_at_call 79; refine (hcl _ (by first | exact hk.ps.later hB0.drew | exact hk.ps.later ((hB0.drew.alloc hB0.size _)) | exact hk.ps.later ((hB0.alloc hB0.size _).drew))).mono ?_; rintro e w1 ⟨v1, rfl, hO1, hb1⟩; obtain ⟨x1, c1, rfl, h11, h12, h13, h14⟩ := hO1.mem; try (have hx : w1.heap[w0.heap.size]? = some (bkV 0 (.slice none 0 0)) := heap_later hb1 (heap_new (W := w0) _ rfl); have q0 : w1.cell? ⟨w0.heap.size, 0, none⟩ = some (.int .i64 0) := (box_cells hx).1 0; have q1 : w1.cell? ⟨w0.heap.size, 1, none⟩ = some (.slice none 0 0) := (box_cells hx).1 1; have f0 := (box_cells hx).2 0; have f1 := (box_cells hx).2 1)) | fail)
    all_goals go_wp2
    all_goals go_meet
    case rel => exact ⟨_, _, rfl, hb1.size, hO1.later (bl1 _ _), heap_new _ rfl, Below.alloc (B := w0.heap.size) (a := w0) ⟨hb1.os, hb1.tape, hb1.output, hb1.size, hb1.block⟩ hb1.size _⟩
    have hs1 : w0.heap.size + 1 ≤ w1.heap.size := by have := hb1.size; simpa using this
    case rel => exact ⟨_, _, rfl, Nat.le_refl _, OwnP.low (base := w0.heap.size + 1) ((OwnP.kept (base := w0.heap.size + 1) (by simpa using hO1) (set_grown _ _ _ _) (fun q hq e => by subst e; exact hO1.ne hx (by decide) hq)).kept (set_grown _ _ _ _) (fun q hq e => by subst e; exact hO1.ne hx (by decide) hq)) (by omega), bkV_set hx, ((Below.trans (bl1 w0 (bkV 0 (.slice none 0 0))) (Below.mono (B := w0.heap.size + 1) ⟨hb1.os, hb1.tape, hb1.output, hb1.size, fun k hk => hb1.block k (by simpa using hk)⟩ (by omega))).setCell (Nat.le_refl _) _).setCell (Nat.le_refl _) _⟩
  case rest =>
    obtain ⟨nb, v, rfl, hnb, hO, hbx, hBc⟩ := hcut
    have hk0 : OBk wc w0.heap.size v ps 0 := OBk.start hk (hB0.trans (hBc.mono hB0.size)) hO hB0.size
    obtain ⟨xv, cv, rfl, hv1, hv2, hv3, hv4⟩ := hO.mem
    have e1 : wc.cell? ⟨nb, 1, none⟩ = some (.slice xv ps.length cv) := (box_cells hbx).1 1
    go_wp2
    clear e1
    go_loopw [14] (fun i wr => ∃ (q : Nat) (qs : List Po), q ≤ ps.length ∧ i = .int .i64 q ∧ sameB ps qs ∧ OBk wr w0.heap.size (.slice xv ps.length cv) qs q ∧ wr.heap[nb]? = some (bkV t (.slice xv ps.length cv)) ∧ Below w0.heap.size w0 wr) (fun i _ => ps.length - (intOf i).toNat)
    case atStart => exact ⟨0, ps, by omega, rfl, sameB.refl _, hk0, hbx, hBc⟩
    case round =>
      obtain ⟨q, qs, hq, rfl, hs, hQ, hbr, hBr⟩ := hrel
      have e0 : wr.cell? ⟨nb, 0, none⟩ = some (.int .i64 t) := (box_cells hbr).1 0
      have e1 : wr.cell? ⟨nb, 1, none⟩ = some (.slice xv ps.length cv) := (box_cells hbr).1 1
      by_cases hlt : q < ps.length
      · have hlq : q < qs.length := by rw [← hs.1]; exact hlt
        have hlt' := hlt
        obtain ⟨x2, c2, he2, -, -, -, hm⟩ := hQ.row.mem
        simp only [Value.slice.injEq] at he2
        obtain ⟨rfl, -, rfl⟩ := he2
        obtain ⟨b2, o2, he3, -, -, -, -, -, -, -, -, c8⟩ := hm q hlq
        rcases hQ.row.2 with ⟨hv, -⟩ | ⟨g, cap, cur, hv, hg1, hg2, -⟩
        · rw [he3] at hv; simp at hv
        simp only [Value.slice.injEq] at hv
        obtain ⟨hx3, -, rfl⟩ := hv
        rw [hx3] at he3
        simp only [Option.some.injEq, Addr.mk.injEq] at he3
        obtain ⟨rfl, rfl, -⟩ := he3
        subst hx3
        obtain ⟨hLS, hnc, hnb2, -⟩ := hQ.rest q (Nat.le_refl _) hlq
        have hcl := fun W h => cloneL_any (poAt qs q).x (poAt qs q).n (poAt qs q).c (poAt qs q).ls W h hnb2
        have hfz := fun j => hQ.row.frozen j
        go_wp2_with fail
        have c8' : wr.cell? ⟨g, q * 9 + 8, none⟩ = some (.slice (poAt qs q).x (poAt qs q).n (poAt qs q).c) := by simpa using c8
        go_region_with (go_at_call 80; refine (hcl _ (by first | exact hLS | exact hLS.later (Below.refl _ _).drew)).mono ?_; rintro e w1 ⟨v1, rfl, hO1, hb1⟩; obtain ⟨x1, c1, rfl, h11, h12, h13, h14⟩ := hO1.mem; have hb2 : Below wr.heap.size wr w1 := ⟨hb1.os, hb1.tape, hb1.output, hb1.size, hb1.block⟩; have d1 := cell_later_add hb2 e1; have d8 := cell_later_add hb2 c8'; have df : w1.frozen? ⟨g, q * 9 + 8, none⟩ = false := (hQ.row.later hb2).frozen _)
        all_goals have hne : nb ≠ g := fun e => by rw [e] at hbr; rw [hbr] at hg2; simp at hg2
        all_goals have hst := hQ.step (x' := x1) (c' := c1) hlq hb2 hO1 hBr.size
        all_goals have hh : (w1.setCell ⟨g, q * 9 + 8, none⟩ (.slice x1 (poAt qs q).ls.length c1)).heap[nb]? = some (bkV t (.slice (some ⟨g, 0, none⟩) ps.length cv)) := (heap_setCell_other _ _ _ _ hne).trans (heap_later hb2 hbr)
        all_goals have hB3 := (hBr.trans (hb2.mono hBr.size)).setCell (p := ⟨g, q * 9 + 8, none⟩) hg1 (.slice x1 (poAt qs q).ls.length c1)
        all_goals clear d1 d8 df
        all_goals go_wp2
        all_goals go_roundw
        all_goals first | exact ⟨q + 1, _, hlt', by go_num, hs.set hlq hLS.len, hst, hh, hB3⟩ | (simp [intOf]; omega)
      · obtain rfl : q = ps.length := by omega
        have hrr : wr.heap[w.heap.size + 1]? = some (bkV 0 (.slice none 0 0)) := (hBr.block _ hsz).trans hr0
        have r0 : wr.cell? ⟨w.heap.size + 1, 0, none⟩ = some (.int .i64 0) := (box_cells hrr).1 0
        have r1 : wr.cell? ⟨w.heap.size + 1, 1, none⟩ = some (.slice none 0 0) := (box_cells hrr).1 1
        have z0 := (box_cells hrr).2 0
        have z1 := (box_cells hrr).2 1
        go_wp2
        refine bodyPost_ret (v := .agg #[.int .i64 t, .slice xv ps.length cv]) (by simp [results, Tryz.results45, go_sem, r0, r1]) rfl ?_
        have hQ2 : OBk wr w0.heap.size (.slice xv ps.length cv) qs qs.length := by rw [← hs.1]; exact hQ
        exact ⟨_, qs, rfl, hs, ((hQ2.put hsz).put hsz).low hB0.size, ((hB0.trans (hBr.mono hB0.size)).setCell (by simp) _).setCell (by simp) _⟩
end Go.Proofs.YtpdoonkhnabfjaaGreat
/- compare, Grow and Concat at leases. -/
namespace Go.Proofs.YtpdoonkhnabfjaaGreat
open Go.RowKit Go.Shelf

theorem leaseAt_any (p : Le) (w : World) :
    Calls Tryz.prog 61 #[.agg #[.int .i64 p.a, .int .i64 p.l, .int .i64 p.kd, .int .i64 p.ow, .int .i64 p.un]] w fun e w' => e = .returned (.int .i64 p.a) ∧ Below w.heap.size w w' := by
  go_enter Tryz.func61, Tryz.ntmps61
  go_wp2
  go_ret
  exact ⟨rfl, bl1 _ _⟩
theorem call_leaseAt (args : Array Value) (W : World) : (callFunc 61 args).run Tryz.prog W = .ok (.enter 61 args) W := by simp [go_sem]

set_option maxRecDepth 100000 in
set_option maxHeartbeats 1600000 in
theorem compareL_is (p r : Le) (v : Int) (hv : Cmp p.a r.a v) (bb kk : Nat) (w : World) (hby : w.cell? ⟨bb, 0, none⟩ = some (.func (.func 61) #[] #[])) :
    Calls Tryz.prog 87 #[.agg #[.int .i64 p.a, .int .i64 p.l, .int .i64 p.kd, .int .i64 p.ow, .int .i64 p.un], .agg #[.int .i64 r.a, .int .i64 r.l, .int .i64 r.kd, .int .i64 r.ow, .int .i64 r.un], .slice (some ⟨bb, 0, none⟩) 1 kk] w fun e w' => e = .returned (.int .i64 v) ∧ Below w.heap.size w w' := by
  have hcall := call_leaseAt
  go_enter Tryz.func87, Tryz.ntmps87
  go_wp2
  go_loopw [12] (fun i wr => ∃ j : Nat, (j = 0 ∨ (j = 1 ∧ v = 0)) ∧ i = .int .i64 j ∧ Below (w.heap.size + 1 + 1) ((w.alloc (.cells #[.int .i64 p.a, .int .i64 p.l, .int .i64 p.kd, .int .i64 p.ow, .int .i64 p.un] 55)).alloc (.cells #[.int .i64 r.a, .int .i64 r.l, .int .i64 r.kd, .int .i64 r.ow, .int .i64 r.un] 55)) wr) (fun i _ => 1 - (intOf i).toNat)
  case atStart => exact ⟨0, .inl rfl, rfl, Below.refl _ _⟩
  case round =>
    obtain ⟨j, hj, rfl, hB⟩ := hrel
    rcases hj with rfl | ⟨rfl, hv0⟩
    · have hz := hB.size
      simp only [World.size_alloc] at hz
      have hbl : bb < w.heap.size := block_lt_of_cell hby
      have e0 : wr.cell? ⟨w.heap.size, 0, none⟩ = some (.int .i64 p.a) := (hB.cell (p := ⟨w.heap.size, 0, none⟩) (by show w.heap.size < _; omega)).trans (by simp)
      have f0 : wr.cell? ⟨w.heap.size + 1, 0, none⟩ = some (.int .i64 r.a) := (hB.cell (p := ⟨w.heap.size + 1, 0, none⟩) (by show w.heap.size + 1 < _; omega)).trans (by simp)
      have e1 : wr.cell? ⟨w.heap.size, 1, none⟩ = some (.int .i64 p.l) := (hB.cell (p := ⟨w.heap.size, 1, none⟩) (by show w.heap.size < _; omega)).trans (by simp)
      have f1 : wr.cell? ⟨w.heap.size + 1, 1, none⟩ = some (.int .i64 r.l) := (hB.cell (p := ⟨w.heap.size + 1, 1, none⟩) (by show w.heap.size + 1 < _; omega)).trans (by simp)
      have e2 : wr.cell? ⟨w.heap.size, 2, none⟩ = some (.int .i64 p.kd) := (hB.cell (p := ⟨w.heap.size, 2, none⟩) (by show w.heap.size < _; omega)).trans (by simp)
      have f2 : wr.cell? ⟨w.heap.size + 1, 2, none⟩ = some (.int .i64 r.kd) := (hB.cell (p := ⟨w.heap.size + 1, 2, none⟩) (by show w.heap.size + 1 < _; omega)).trans (by simp)
      have e3 : wr.cell? ⟨w.heap.size, 3, none⟩ = some (.int .i64 p.ow) := (hB.cell (p := ⟨w.heap.size, 3, none⟩) (by show w.heap.size < _; omega)).trans (by simp)
      have f3 : wr.cell? ⟨w.heap.size + 1, 3, none⟩ = some (.int .i64 r.ow) := (hB.cell (p := ⟨w.heap.size + 1, 3, none⟩) (by show w.heap.size + 1 < _; omega)).trans (by simp)
      have e4 : wr.cell? ⟨w.heap.size, 4, none⟩ = some (.int .i64 p.un) := (hB.cell (p := ⟨w.heap.size, 4, none⟩) (by show w.heap.size < _; omega)).trans (by simp)
      have f4 : wr.cell? ⟨w.heap.size + 1, 4, none⟩ = some (.int .i64 r.un) := (hB.cell (p := ⟨w.heap.size + 1, 4, none⟩) (by show w.heap.size + 1 < _; omega)).trans (by simp)
      have e9 : wr.cell? ⟨bb, 0, none⟩ = some (.func (.func 61) #[] #[]) := (hB.cell (p := ⟨bb, 0, none⟩) (by show bb < _; omega)).trans (cell_later (bl2 w _ _) hby)
      have g0 := Ws.here e0
      have k0 := Ws.here f0
      have g1 := Ws.here e1
      have k1 := Ws.here f1
      have g2 := Ws.here e2
      have k2 := Ws.here f2
      have g3 := Ws.here e3
      have k3 := Ws.here f3
      have g4 := Ws.here e4
      have k4 := Ws.here f4
      go_upto_region 4 with fail
      clear e0 f0 e1 f1 e2 f2 e3 f3 e4 f4 e9
      refine wp_region_ws wr.heap.size (by kernel_rfl) (by kernel_rfl) ?_
      repeat (go_big_quiet_step (first | (go_at_call 61; exact Calls.in_ws (Nat.le_refl _) (leaseAt_any _ _)) | (go_at_call 98; exact Calls.in_ws_same (cmp_is _ _ _ hv _))))
      refine wpQuiet_nil ?_
      rintro _ ⟨u, rfl⟩
      have hu := hB.trans (u.property.mono hz)
      generalize u.val = wu at hu ⊢
      clear u g0 k0 g1 k1 g2 k2 g3 k3 g4 k4
      rcases hv with ⟨h, rfl⟩ | ⟨h, rfl⟩ | ⟨h, rfl⟩
      · go_wp2
        go_ret
        exact ⟨rfl, (bl2 w _ _).trans (hu.mono (by omega))⟩
      · go_wp2
        go_roundw
        case rel => exact ⟨1, .inr ⟨rfl, trivial⟩, by go_num, hu⟩
        case measure => simp [intOf]
      · go_wp2
        go_ret
        exact ⟨rfl, (bl2 w _ _).trans (hu.mono (by omega))⟩
    · subst hv0
      go_wp2
      go_ret
      exact ⟨rfl, (bl2 w _ _).trans (hB.mono (by omega))⟩
/-- These lie one behind the other from there on. -/
def RunL (w : World) (x : Option Addr) (n : Nat) (es : List Le) : Prop := es.length = n ∧ (0 < n → x ≠ none) ∧ ∀ ad, x = some ad → ∀ j u, (flatL es)[j]? = some u → w.cell? (ad.add j) = some u
theorem RunL.later {w w' : World} {x : Option Addr} {n : Nat} {es : List Le} (h : RunL w x n es) (hb : Below w.heap.size w w') : RunL w' x n es :=
  ⟨h.1, h.2.1, fun ad hx j u hj => cell_later_add hb (h.2.2 ad hx j u hj)⟩
theorem RunL.empty (w : World) (x : Option Addr) : RunL w x 0 [] := ⟨rfl, fun h => by omega, fun _ _ j u hj => by simp [flatL] at hj⟩
theorem LS.run {w : World} {x : Option Addr} {n : Nat} {es : List Le} (h : LS w x n es) : RunL w x n es :=
  ⟨h.len, (fun h0 e => by obtain ⟨b, o, hx, -⟩ := h.cells 0 h0; rw [e] at hx; cases hx), fun ad hx => by subst hx; exact h.flat_cells⟩
theorem RunL.take {w : World} {x : Option Addr} {n i : Nat} {es : List Le} (h : RunL w x n es) (hi : i ≤ n) : RunL w x i (es.take i) := by
  refine ⟨by rw [List.length_take, h.1]; omega, fun h0 => h.2.1 (by omega), fun ad hx j u hj => h.2.2 ad hx j u ?_⟩
  conv => lhs; rw [← List.take_append_drop i es]
  rw [flatL_app, List.getElem?_append_left (List.getElem?_eq_some_iff.1 hj).1]
  exact hj
theorem RunL.drop {w : World} {b o n i c : Nat} {es : List Le} (h : RunL w (some ⟨b, o, none⟩) n es) (hi : i ≤ n) (hnc : n ≤ c) : RunL w (if c = i then some ⟨b, o, none⟩ else some ⟨b, o + i * 5, none⟩) (n - i) (es.drop i) := by
  refine ⟨by rw [List.length_drop, h.1], fun _ => by split <;> simp, fun ad hx j u hj => ?_⟩
  have hlt : i < n := by
    by_cases e : i < n
    · exact e
    · rw [List.drop_eq_nil_of_le (by rw [h.1]; omega)] at hj
      simp [flatL] at hj
  rw [if_neg (by omega)] at hx
  cases hx
  have h2 := h.2.2 _ rfl (i * 5 + j) u (by
    conv => lhs; rw [← List.take_append_drop i es]
    have hm : (flatL (es.take i)).length = i * 5 := by rw [flatL_len, List.length_take, h.1, show min i n = i by omega]
    rw [flatL_app, List.getElem?_append_right (by rw [hm]; omega), hm, show i * 5 + j - i * 5 = j by omega]
    exact hj)
  rw [addr_add] at h2 ⊢
  rw [show o + i * 5 + j = o + (i * 5 + j) by omega]
  exact h2

set_option maxRecDepth 20000 in
set_option maxHeartbeats 800000 in
theorem growL_nil (n : Nat) (w : World) (h0 : 0 < n) (hn : n ≤ 1000) :
    Calls Tryz.prog 100 #[.slice none 0 0, .int .i64 n] w fun e w' => ∃ v, e = .returned v ∧ Below w.heap.size w w' ∧ OwnL w' w.heap.size v [] := by
  obtain ⟨i0, hi, hz0, hz1, hz2⟩ := info_L'
  have hold : (Builtin.firstCells i0.size 0 (.slice none 0 0)).run Tryz.prog w.drew = .ok ([] : List Value).toArray w.drew := run_firstCells_none w.drew i0.size 0 0 0
  have hrz : ∀ ty, (Builtin.append_ #[47, 3] ty #[.slice none 0 0, .int .i64 (n : Int)]).run Tryz.prog w = _ := fun ty =>
    Lib.run_append_grow_zeros w 47 3 ty 55 i0 _ .i64 .i64 under_L under_int hi hz0 none 0 0 [] hold n (by omega) (by omega) (by omega) (by omega) (by rw [hz2]; omega) (by rw [hz2]; exact growslice_fits (by omega) (by omega))
  have hG := grownCap_le_maxLen w (0 + n) 0 55 (by unfold maxLen; omega)
  have hGn := grownCap_ge w (0 + n) 0 55
  generalize grownCap w (0 + n) 0 55 = G at hrz hG hGn
  have h1 : ¬ ((n : Int) < 0) := by omega
  have h4 : (n : Int) > 0 := by omega
  have hG63 : G ≤ 9223372036854775807 := by unfold maxLen at hG; omega
  go_enter Tryz.func100, Tryz.ntmps100
  go_wp2_with (at_builtin; refine Lib.wpList_append_run _ rfl _ _ _ _ rfl _ _ rfl rfl _ _ (hrz _) ?_)
  go_ret
  refine ⟨_, rfl, (bl1 w _).drew, (World.ownsRow_made w _ G (Nat.le_refl _) hG ?_).drew⟩
  simp only [Array.size_append, size_zeroCells, List.size_toArray, List.length_cons, List.length_nil]
  omega
theorem growL_zero (w : World) :
    Calls Tryz.prog 100 #[.slice none 0 0, .int .i64 0] w fun e w' => e = .returned (.slice none 0 0) ∧ w' = w := by
  go_enter Tryz.func100, Tryz.ntmps100
  go_wp2
  go_ret
  exact ⟨rfl, rfl⟩
theorem growL_any (n : Nat) (w : World) (hn : n ≤ 1000) :
    Calls Tryz.prog 100 #[.slice none 0 0, .int .i64 n] w fun e w' => ∃ v, e = .returned v ∧ Below w.heap.size w w' ∧ OwnL w' w.heap.size v [] := by
  by_cases h : n = 0
  · subst h
    exact (growL_zero w).mono fun _ _ ⟨he, hw⟩ => ⟨_, he, by rw [hw]; exact Below.refl _ _, World.ownsRow_nil _ _ _ _⟩
  · exact growL_nil n w (by omega) hn
def catLTo (ql : Nat → List Le) : Nat → List Le
  | 0 => []
  | j + 1 => catLTo ql j ++ ql j

set_option maxRecDepth 20000 in
set_option maxHeartbeats 1600000 in
theorem concatL_any (B k k' : Nat) (xl : Nat → Option Addr) (nl cl : Nat → Nat) (ql : Nat → List Le) (w : World) (hk : k ≤ 3)
    (hc : ∀ j, j < k → w.cell? ⟨B, j, none⟩ = some (.slice (xl j) (nl j) (cl j))) (hp : ∀ j, j < k → RunL w (xl j) (nl j) (ql j)) (hn : ∀ j, j < k → nl j ≤ 64) (h0 : ∀ j, j < k → xl j = none → nl j = 0 ∧ cl j = 0) :
    Calls Tryz.prog 88 #[.slice (some ⟨B, 0, none⟩) k k'] w fun e w' => ∃ v, e = .returned v ∧ Below w.heap.size w w' ∧ OwnL w' w.heap.size v (catLTo ql k) := by
  obtain ⟨i0, hi, hz0, hz1, hz2⟩ := info_L'
  have hlen : ∀ j, j ≤ k → (catLTo ql j).length ≤ 64 * j := by
    intro j
    induction j with
    | zero => intro _; simp [catLTo]
    | succ j ih =>
      intro hj
      have h1 := ih (by omega)
      have h2 := (hp j (by omega)).1
      have h3 := hn j (by omega)
      simp only [catLTo, List.length_append]
      omega
  go_enter Tryz.func88, Tryz.ntmps88
  go_wp2
  go_loopw [11, 3] (fun i t wr => ∃ j : Nat, j ≤ k ∧ i = .int .i64 j ∧ t = .int .i64 ((catLTo ql j).length : Nat) ∧ wr = w) (fun i _ _ => k - (intOf i).toNat)
  case atStart => exact ⟨0, by omega, rfl, rfl, rfl⟩
  case round =>
    obtain ⟨j, hj, rfl, rfl, hw⟩ := hrel
    have hw' := hw.symm
    subst hw'
    clear hw
    have hl := hlen j hj
    by_cases hlt : j < k
    · have hcj := hc j hlt
      have hl2 := hlen (j + 1) hlt
      have hpl := (hp j hlt).1
      have hnj := hn j hlt
      have hlt' := hlt
      have hcat : (catLTo ql (j + 1)).length = (catLTo ql j).length + nl j := by simp only [catLTo, List.length_append, hpl]
      have hneg : ¬ (((catLTo ql j).length : Int) + (nl j : Int) < 0) := by omega
      go_wp2
      go_roundw
      case rel => exact ⟨j + 1, hlt', by go_num, by rw [hcat]; go_num, trivial⟩
      case measure => simp [intOf]; omega
    · obtain rfl : j = k := by omega
      go_wp2_with fail
      refine (growL_any _ w (by omega)).mono ?_
      rintro e w1 ⟨v0, rfl, hb1, hown1⟩
      go_wp2
      go_loopw [27, 6] (fun i v wq => ∃ q : Nat, q ≤ j ∧ i = .int .i64 q ∧ Below w.heap.size w wq ∧ OwnL wq w.heap.size v (catLTo ql q)) (fun i _ _ => j - (intOf i).toNat)
      case atStart => exact ⟨0, by omega, rfl, hb1, hown1⟩
      case round =>
        obtain ⟨q, hq, rfl, hB, hown⟩ := hrel
        by_cases hlt2 : q < j
        · have hcq := cell_later hB (hc q hlt2)
          have hpq := (hp q hlt2).later hB
          have hlq := hlen q hq
          have hnq := hn q hlt2
          have hlt3 := hlt2
          have hsz := hB.size
          cases hxq : xl q with
          | none =>
            obtain ⟨hn0, hc0⟩ := h0 q hlt2 hxq
            rw [hxq, hn0, hc0] at hcq
            have hq0 : ql q = [] := List.eq_nil_of_length_eq_zero (by rw [hpq.1]; exact hn0)
            go_wp2_with (at_builtin; refine wpList_append_own_none rfl _ _ 47 rfl w.heap.size 55 i0 5 under_L hi _ _ _ rfl hown rfl ?_)
            go_roundw
            case rel => exact ⟨q + 1, hlt3, by go_num, hB, by simp only [catLTo, hq0, List.append_nil]; exact hown⟩
            case measure => simp [intOf]; omega
          | some ad =>
            rw [hxq] at hcq hpq
            go_wp2_with (at_builtin; refine Hid.out ?_)
            unfold Hid
            refine wpList_append_L rfl _ _ rfl w.heap.size _ _ rfl hown ad (nl q) (cl q) (ql q) rfl hpq.1 (hpq.2.2 ad rfl) (by omega) (by omega) ?_
            intro v' w2 hown2 hgrow'
            have hgrow : wr.grownBy w2 u6.ownBlock := hgrow'
            clear hgrow'
            have hB2 : Below w.heap.size w w2 := ⟨hgrow.os.trans hB.os, hgrow.tape.trans hB.tape, hgrow.output.trans hB.output, Nat.le_trans hsz hgrow.size, fun k hk => (hgrow.block k (by omega) (fun e => by have := (hown.lt _ e.symm).1; omega)).trans (hB.block k hk)⟩
            have hown3 : OwnL w2 w.heap.size v' (catLTo ql (q + 1)) := hown2
            clear hown2
            go_wp2
            go_roundw
            case rel => exact ⟨q + 1, hlt3, by go_num, hB2, hown3⟩
            case measure => simp [intOf]; omega
        · obtain rfl : q = j := by omega
          go_wp2
          go_ret
          exact ⟨_, rfl, hB, hown⟩
end Go.Proofs.YtpdoonkhnabfjaaGreat
/- order.Put at leases. -/
namespace Go.Proofs.YtpdoonkhnabfjaaGreat
open Go.RowKit Go.Shelf

set_option maxRecDepth 20000 in
set_option maxHeartbeats 800000 in
theorem put1L_any (p r : Le) (bp bb bf k : Nat) (w : World) (h10 : w.cell? ⟨bp, 0, none⟩ = some (.int .i64 p.a)) (h11 : w.cell? ⟨bp, 1, none⟩ = some (.int .i64 p.l)) (h12 : w.cell? ⟨bp, 2, none⟩ = some (.int .i64 p.kd)) (h13 : w.cell? ⟨bp, 3, none⟩ = some (.int .i64 p.ow)) (h14 : w.cell? ⟨bp, 4, none⟩ = some (.int .i64 p.un))
    (h2 : w.cell? ⟨bb, 0, none⟩ = some (.slice (some ⟨bf, 0, none⟩) 1 k)) (h3 : w.cell? ⟨bf, 0, none⟩ = some (.func (.func 61) #[] #[])) :
    Calls Tryz.prog 86 #[.agg #[.int .i64 r.a, .int .i64 r.l, .int .i64 r.kd, .int .i64 r.ow, .int .i64 r.un], .pointer (some ⟨bp, 0, none⟩), .pointer (some ⟨bb, 0, none⟩)] w fun e w' => e = .returned (.bool (decide (p.a < r.a))) ∧ Below w.heap.size w w' := by
  have k10 : ∀ q, (w.alloc q).cell? ⟨bp, 0, none⟩ = some (.int .i64 p.a) := fun q => cell_later (bl1 w q) h10
  have k11 : ∀ q, (w.alloc q).cell? ⟨bp, 1, none⟩ = some (.int .i64 p.l) := fun q => cell_later (bl1 w q) h11
  have k12 : ∀ q, (w.alloc q).cell? ⟨bp, 2, none⟩ = some (.int .i64 p.kd) := fun q => cell_later (bl1 w q) h12
  have k13 : ∀ q, (w.alloc q).cell? ⟨bp, 3, none⟩ = some (.int .i64 p.ow) := fun q => cell_later (bl1 w q) h13
  have k14 : ∀ q, (w.alloc q).cell? ⟨bp, 4, none⟩ = some (.int .i64 p.un) := fun q => cell_later (bl1 w q) h14
  have k2 : ∀ q, (w.alloc q).cell? ⟨bb, 0, none⟩ = some (.slice (some ⟨bf, 0, none⟩) 1 k) := fun q => cell_later (bl1 w q) h2
  have hv : ∃ v, Cmp p.a r.a v ∧ (decide (p.a < r.a) = decide (v < 0)) := by
    rcases Int.lt_trichotomy p.a r.a with h | h | h
    · exact ⟨-1, .inl ⟨h, rfl⟩, by simp [h]⟩
    · exact ⟨0, .inr (.inl ⟨h, rfl⟩), by simp [h]⟩
    · exact ⟨1, .inr (.inr ⟨h, rfl⟩), by simp; omega⟩
  obtain ⟨v, hv, hd⟩ := hv
  rw [hd]
  go_enter Tryz.func86, Tryz.ntmps86
  go_wp2_with (go_at_call 87; refine (compareL_is p r v hv bf k _ (cell_later (bl1 w _) h3)).mono ?_; rintro e w1 ⟨rfl, hb1⟩)
  go_ret
  exact ⟨rfl, (bl1 w _).trans (hb1.mono (by simp))⟩
theorem call_put1L (args : Array Value) (W : World) : (callFunc 86 args).run Tryz.prog W = .ok (.enter 86 args) W := by simp [go_sem]

set_option maxHeartbeats 800000 in
theorem concatL3 (x1 x3 : Option Addr) (n1 c1 n3 c3 : Nat) (q1 q3 : List Le) (e : Le) (w : World) (h1 : RunL w x1 n1 q1) (h3 : RunL w x3 n3 q3) (b1 : n1 ≤ 64) (b3 : n3 ≤ 64) (z1 : x1 = none → n1 = 0 ∧ c1 = 0) (z3 : x3 = none → n3 = 0 ∧ c3 = 0) :
    Calls Tryz.prog 88 #[.slice (some ⟨w.heap.size + 1, 0, none⟩) 3 3] ((w.alloc (.cells #[.int .i64 e.a, .int .i64 e.l, .int .i64 e.kd, .int .i64 e.ow, .int .i64 e.un] 55)).alloc (.cells #[.slice x1 n1 c1, .slice (some ⟨w.heap.size, 0, none⟩) 1 1, .slice x3 n3 c3] 47)).drew fun r w' =>
      ∃ v, r = .returned v ∧ Below w.heap.size w w' ∧ OwnL w' (w.heap.size + 2) v (q1 ++ [e] ++ q3) := by
  obtain ⟨W, hW⟩ : ∃ W, W = ((w.alloc (.cells #[.int .i64 e.a, .int .i64 e.l, .int .i64 e.kd, .int .i64 e.ow, .int .i64 e.un] 55)).alloc (.cells #[.slice x1 n1 c1, .slice (some ⟨w.heap.size, 0, none⟩) 1 1, .slice x3 n3 c3] 47)).drew := ⟨_, rfl⟩
  have hB : Below w.heap.size w W := by rw [hW]; exact (bl2 w _ _).drew
  have g0 : W.heap[w.heap.size]? = some (.cells #[.int .i64 e.a, .int .i64 e.l, .int .i64 e.kd, .int .i64 e.ow, .int .i64 e.un] 55) := by rw [hW]; exact heap_old _ (heap_new _ rfl)
  have g1 : W.heap[w.heap.size + 1]? = some (.cells #[.slice x1 n1 c1, .slice (some ⟨w.heap.size, 0, none⟩) 1 1, .slice x3 n3 c3] 47) := by rw [hW]; exact heap_new _ (by simp)
  have hs : W.heap.size = w.heap.size + 2 := by rw [hW]; simp
  rw [← hW]
  clear hW
  have hp2 : RunL W (some ⟨w.heap.size, 0, none⟩) 1 [e] := ⟨rfl, fun _ => by simp, fun ad hx j u hj => by
    cases hx
    rw [addr_add, Nat.zero_add]
    simp only [flatL, List.flatMap_cons, List.flatMap_nil, List.append_nil] at hj
    simpa [World.cell?, g0, cL] using hj⟩
  have hcat : catLTo (fun j => if j = 0 then q1 else if j = 1 then [e] else q3) 3 = q1 ++ [e] ++ q3 := by simp [catLTo]
  refine (concatL_any (w.heap.size + 1) 3 3 (fun j => if j = 0 then x1 else if j = 1 then some ⟨w.heap.size, 0, none⟩ else x3) (fun j => if j = 0 then n1 else if j = 1 then 1 else n3) (fun j => if j = 0 then c1 else if j = 1 then 1 else c3) (fun j => if j = 0 then q1 else if j = 1 then [e] else q3) W (by omega) ?_ ?_ ?_ ?_).mono ?_
  · intro j hj
    rcases j with _ | _ | _ | j
    · simp [World.cell?, g1]
    · simp [World.cell?, g1]
    · simp [World.cell?, g1]
    · omega
  · intro j hj
    rcases j with _ | _ | _ | j
    · simpa using h1.later hB
    · simpa using hp2
    · simpa using h3.later hB
    · omega
  · intro j hj
    rcases j with _ | _ | _ | j
    · simpa using b1
    · simp
    · simpa using b3
    · omega
  · intro j hj
    rcases j with _ | _ | _ | j
    · simpa using z1
    · simp
    · simpa using z3
    · omega
  · rintro r w' ⟨v, rfl, hb, hown⟩
    rw [hcat, hs] at hown
    exact ⟨v, rfl, hB.trans (hb.mono (by omega)), hown⟩
/-- What Put answers: it stands ahead of the first one whose number is greater. -/
def PutLPost (e : Le) (n : Nat) (ps : List Le) (w : World) (r : Ending) (w' : World) : Prop :=
  ∃ v, r = .returned v ∧ Below w.heap.size w w' ∧ ∃ i, i ≤ n ∧ (∀ j, j < i → ¬ e.a < (leAt ps j).a) ∧ (i < n → e.a < (leAt ps i).a) ∧ OwnL w' w.heap.size v (ps.take i ++ [e] ++ ps.drop i)

set_option maxRecDepth 20000 in
set_option maxHeartbeats 1600000 in
theorem putL_any (e : Le) (x : Option Addr) (n c : Nat) (ps : List Le) (bf k : Nat) (w : World) (hp : LS w x n ps) (hn : n ≤ 32) (hnc : n ≤ c) (hc63 : c ≤ 9223372036854775807) (hx : (x = none ∧ c = 0) ∨ ∃ b o, x = some ⟨b, o, none⟩)
    (hby : w.cell? ⟨bf, 0, none⟩ = some (.func (.func 61) #[] #[])) :
    Calls Tryz.prog 60 #[.slice x n c, .agg #[.int .i64 e.a, .int .i64 e.l, .int .i64 e.kd, .int .i64 e.ow, .int .i64 e.un], .slice (some ⟨bf, 0, none⟩) 1 k] w (PutLPost e n ps w) := by
  have hB2 := bl2 w (.cells #[.int .i64 e.a, .int .i64 e.l, .int .i64 e.kd, .int .i64 e.ow, .int .i64 e.un] 55) (.cells #[.slice (some ⟨bf, 0, none⟩) 1 k] 106)
  go_enter Tryz.func60, Tryz.ntmps60
  go_wp2_with fail
  have hF : FnLeAt 86 #[.pointer (some ⟨w.heap.size, 0, none⟩), .pointer (some ⟨w.heap.size + 1, 0, none⟩)] n ps (fun i => decide (e.a < (leAt ps i).a)) ((w.alloc (.cells #[.int .i64 e.a, .int .i64 e.l, .int .i64 e.kd, .int .i64 e.ow, .int .i64 e.un] 55)).alloc (.cells #[.slice (some ⟨bf, 0, none⟩) 1 k] 106)) := fun i hi W hW =>
    put1L_any e (leAt ps i) w.heap.size (w.heap.size + 1) bf k W (cell_later hW (by simp)) (cell_later hW (by simp)) (cell_later hW (by simp)) (cell_later hW (by simp)) (cell_later hW (by simp)) (cell_later hW (by simp)) (cell_later hW (cell_later hB2 hby))
  refine (indexFuncLe_any _ _ x n c ps _ _ (hp.later hB2) (by omega) hF call_put1L).mono ?_
  rintro e' w1 ⟨⟨r, rfl, hr⟩, hb1⟩
  have hB := hB2.trans (hb1.mono (by simp; omega))
  have e0 : w1.cell? ⟨w.heap.size, 0, none⟩ = some (.int .i64 e.a) := (hb1.cell (p := ⟨w.heap.size, 0, none⟩) (by show w.heap.size < _; simp; omega)).trans (by simp)
  have e1 : w1.cell? ⟨w.heap.size, 1, none⟩ = some (.int .i64 e.l) := (hb1.cell (p := ⟨w.heap.size, 1, none⟩) (by show w.heap.size < _; simp; omega)).trans (by simp)
  have e2 : w1.cell? ⟨w.heap.size, 2, none⟩ = some (.int .i64 e.kd) := (hb1.cell (p := ⟨w.heap.size, 2, none⟩) (by show w.heap.size < _; simp; omega)).trans (by simp)
  have e3 : w1.cell? ⟨w.heap.size, 3, none⟩ = some (.int .i64 e.ow) := (hb1.cell (p := ⟨w.heap.size, 3, none⟩) (by show w.heap.size < _; simp; omega)).trans (by simp)
  have e4 : w1.cell? ⟨w.heap.size, 4, none⟩ = some (.int .i64 e.un) := (hb1.cell (p := ⟨w.heap.size, 4, none⟩) (by show w.heap.size < _; simp; omega)).trans (by simp)
  have hi : ∃ i : Nat, i ≤ n ∧ (∀ j, j < i → ¬ e.a < (leAt ps j).a) ∧ (i < n → e.a < (leAt ps i).a) ∧ ((r = i ∧ ¬ r < 0) ∨ (r = -1 ∧ i = n)) := by
    rcases hr with ⟨i, hi, hf, hno, rfl⟩ | ⟨hno, rfl⟩
    · exact ⟨i, by omega, fun j hj => by have := hno j hj; simpa using this, fun _ => by simpa using hf, .inl ⟨rfl, by omega⟩⟩
    · exact ⟨n, by omega, fun j hj => by have := hno j hj; simpa using this, fun h => by omega, .inr ⟨rfl, rfl⟩⟩
  obtain ⟨i, hin, hlow, hup, hri⟩ := hi
  have hrun := hp.run
  rcases hx with ⟨rfl, rfl⟩ | ⟨b, o, rfl⟩
  · obtain rfl : n = 0 := by omega
    obtain rfl : i = 0 := by omega
    have hps0 := List.eq_nil_of_length_eq_zero hp.len
    rcases hri with ⟨rfl, hneg⟩ | ⟨rfl, hi2⟩
    · go_wp2_with fail
      have hpw := hrun.later hB
      go_region_held3 (fun w' => w'.cell? ⟨w.heap.size, 0, none⟩ = some (.int .i64 e.a) ∧ w'.cell? ⟨w.heap.size, 1, none⟩ = some (.int .i64 e.l) ∧ w'.cell? ⟨w.heap.size, 2, none⟩ = some (.int .i64 e.kd) ∧ w'.cell? ⟨w.heap.size, 3, none⟩ = some (.int .i64 e.ow) ∧ w'.cell? ⟨w.heap.size, 4, none⟩ = some (.int .i64 e.un)) (first | (go_keep; done) | (exact ⟨cell_later (bl1 _ _) (by assumption), cell_later (bl1 _ _) (by assumption), cell_later (bl1 _ _) (by assumption), cell_later (bl1 _ _) (by assumption), cell_later (bl1 _ _) (by assumption)⟩) | (exact ⟨cell_later hb2 e0, cell_later hb2 e1, cell_later hb2 e2, cell_later hb2 e3, cell_later hb2 e4⟩)) (first | (go_at_call 88; refine (concatL3 none none 0 0 0 0 [] [] e w1 (RunL.empty _ _) (RunL.empty _ _) (by omega) (by omega) (fun _ => ⟨rfl, rfl⟩) (fun _ => ⟨rfl, rfl⟩)).mono ?_; rintro e' w2 ⟨v2, rfl, hb2, hps⟩) | fail)
      all_goals go_wp2
      all_goals go_ret
      all_goals unfold PutLPost
      all_goals exact ⟨_, rfl, hB.trans (hb2.mono hB.size), 0, by omega, fun j hj => by omega, fun h => by omega, by rw [hps0]; exact OwnL.low hps (by have := hB.size; omega)⟩
    · go_wp2_with fail
      have hpw := hrun.later hB
      go_region_held3 (fun w' => w'.cell? ⟨w.heap.size, 0, none⟩ = some (.int .i64 e.a) ∧ w'.cell? ⟨w.heap.size, 1, none⟩ = some (.int .i64 e.l) ∧ w'.cell? ⟨w.heap.size, 2, none⟩ = some (.int .i64 e.kd) ∧ w'.cell? ⟨w.heap.size, 3, none⟩ = some (.int .i64 e.ow) ∧ w'.cell? ⟨w.heap.size, 4, none⟩ = some (.int .i64 e.un)) (first | (go_keep; done) | (exact ⟨cell_later (bl1 _ _) (by assumption), cell_later (bl1 _ _) (by assumption), cell_later (bl1 _ _) (by assumption), cell_later (bl1 _ _) (by assumption), cell_later (bl1 _ _) (by assumption)⟩) | (exact ⟨cell_later hb2 e0, cell_later hb2 e1, cell_later hb2 e2, cell_later hb2 e3, cell_later hb2 e4⟩)) (first | (go_at_call 88; refine (concatL3 none none 0 0 0 0 [] [] e w1 (RunL.empty _ _) (RunL.empty _ _) (by omega) (by omega) (fun _ => ⟨rfl, rfl⟩) (fun _ => ⟨rfl, rfl⟩)).mono ?_; rintro e' w2 ⟨v2, rfl, hb2, hps⟩) | fail)
      all_goals go_wp2
      all_goals go_ret
      all_goals unfold PutLPost
      all_goals exact ⟨_, rfl, hB.trans (hb2.mono hB.size), 0, by omega, fun j hj => by omega, fun h => by omega, by rw [hps0]; exact OwnL.low hps (by have := hB.size; omega)⟩
  · rcases hri with ⟨rfl, hneg⟩ | ⟨rfl, hi2⟩
    · go_wp2_with fail
      have hic : i ≤ c := by omega
      have hpw := hrun.later hB
      go_region_held3 (fun w' => w'.cell? ⟨w.heap.size, 0, none⟩ = some (.int .i64 e.a) ∧ w'.cell? ⟨w.heap.size, 1, none⟩ = some (.int .i64 e.l) ∧ w'.cell? ⟨w.heap.size, 2, none⟩ = some (.int .i64 e.kd) ∧ w'.cell? ⟨w.heap.size, 3, none⟩ = some (.int .i64 e.ow) ∧ w'.cell? ⟨w.heap.size, 4, none⟩ = some (.int .i64 e.un)) (first | (go_keep; done) | (exact ⟨cell_later (bl1 _ _) (by assumption), cell_later (bl1 _ _) (by assumption), cell_later (bl1 _ _) (by assumption), cell_later (bl1 _ _) (by assumption), cell_later (bl1 _ _) (by assumption)⟩) | (exact ⟨cell_later hb2 e0, cell_later hb2 e1, cell_later hb2 e2, cell_later hb2 e3, cell_later hb2 e4⟩)) (first | (go_at_call 88; refine (concatL3 (some ⟨b, o, none⟩) (if c = i then some ⟨b, o, none⟩ else some ⟨b, o + i * 5, none⟩) i c (n - i) (c - i) (ps.take i) (ps.drop i) e w1 (hpw.take (by omega)) (hpw.drop (by omega) hnc) (by omega) (by omega) (fun h => by cases h) (fun h => by split at h <;> cases h)).mono ?_; rintro e' w2 ⟨v2, rfl, hb2, hps⟩) | fail)
      all_goals go_wp2
      all_goals go_ret
      all_goals unfold PutLPost
      all_goals exact ⟨_, rfl, hB.trans (hb2.mono hB.size), i, by omega, fun j hj => by have := hlow j hj; omega, hup, OwnL.low hps (by have := hB.size; omega)⟩
    · have hi3 := hi2.symm
      subst hi3
      clear hi2
      by_cases hcn : n = c
      · subst hcn
        go_wp2_with fail
        have hpw := hrun.later hB
        go_region_held3 (fun w' => w'.cell? ⟨w.heap.size, 0, none⟩ = some (.int .i64 e.a) ∧ w'.cell? ⟨w.heap.size, 1, none⟩ = some (.int .i64 e.l) ∧ w'.cell? ⟨w.heap.size, 2, none⟩ = some (.int .i64 e.kd) ∧ w'.cell? ⟨w.heap.size, 3, none⟩ = some (.int .i64 e.ow) ∧ w'.cell? ⟨w.heap.size, 4, none⟩ = some (.int .i64 e.un)) (first | (go_keep; done) | (exact ⟨cell_later (bl1 _ _) (by assumption), cell_later (bl1 _ _) (by assumption), cell_later (bl1 _ _) (by assumption), cell_later (bl1 _ _) (by assumption), cell_later (bl1 _ _) (by assumption)⟩) | (exact ⟨cell_later hb2 e0, cell_later hb2 e1, cell_later hb2 e2, cell_later hb2 e3, cell_later hb2 e4⟩)) (first | (go_at_call 88; refine (concatL3 (some ⟨b, o, none⟩) (some ⟨b, o, none⟩) n n 0 0 ps [] e w1 hpw (RunL.empty _ _) (by omega) (by omega) (fun h => by cases h) (fun h => by cases h)).mono ?_; rintro e' w2 ⟨v2, rfl, hb2, hps⟩) | fail)
        all_goals go_wp2
        all_goals go_ret
        all_goals unfold PutLPost
        all_goals exact ⟨_, rfl, hB.trans (hb2.mono hB.size), n, by omega, fun j hj => by have := hlow j hj; omega, fun h => by omega, by rw [List.take_of_length_le (by rw [hp.len]; omega), List.drop_eq_nil_of_le (by rw [hp.len]; omega)]; exact OwnL.low hps (by have := hB.size; omega)⟩
      · have hcn' : ¬ c = n := fun h => hcn h.symm
        go_wp2_with fail
        have hpw := hrun.later hB
        go_region_held3 (fun w' => w'.cell? ⟨w.heap.size, 0, none⟩ = some (.int .i64 e.a) ∧ w'.cell? ⟨w.heap.size, 1, none⟩ = some (.int .i64 e.l) ∧ w'.cell? ⟨w.heap.size, 2, none⟩ = some (.int .i64 e.kd) ∧ w'.cell? ⟨w.heap.size, 3, none⟩ = some (.int .i64 e.ow) ∧ w'.cell? ⟨w.heap.size, 4, none⟩ = some (.int .i64 e.un)) (first | (go_keep; done) | (exact ⟨cell_later (bl1 _ _) (by assumption), cell_later (bl1 _ _) (by assumption), cell_later (bl1 _ _) (by assumption), cell_later (bl1 _ _) (by assumption), cell_later (bl1 _ _) (by assumption)⟩) | (exact ⟨cell_later hb2 e0, cell_later hb2 e1, cell_later hb2 e2, cell_later hb2 e3, cell_later hb2 e4⟩)) (first | (go_at_call 88; refine (concatL3 (some ⟨b, o, none⟩) (some ⟨b, o + n * 5, none⟩) n c 0 (c - n) ps [] e w1 hpw (RunL.empty _ _) (by omega) (by omega) (fun h => by cases h) (fun h => by cases h)).mono ?_; rintro e' w2 ⟨v2, rfl, hb2, hps⟩) | fail)
        all_goals go_wp2
        all_goals go_ret
        all_goals unfold PutLPost
        all_goals exact ⟨_, rfl, hB.trans (hb2.mono hB.size), n, by omega, fun j hj => by have := hlow j hj; omega, fun h => by omega, by rw [List.take_of_length_le (by rw [hp.len]; omega), List.drop_eq_nil_of_le (by rw [hp.len]; omega)]; exact OwnL.low hps (by have := hB.size; omega)⟩
end Go.Proofs.YtpdoonkhnabfjaaGreat
/- What fit of package pool comes to. -/
namespace Go.Proofs.YtpdoonkhnabfjaaGreat
open Go.RowKit Go.Shelf

/-- What fits in a pool. -/
def pfitS (p : Po) (z : Int) : Option Int := if p.n = 32 then none else fitS p.a p.l p.n (lp p.ls) z
def pfitE (p : Po) (z : Int) : Int := if z < p.mn ∨ p.mx < z then 7 else match pfitS p z with
  | none => 8
  | some _ => 0
def pfitO (p : Po) (z : Int) : Int × Int := if z < p.mn ∨ p.mx < z then (0, 0) else match pfitS p z with
  | none => (0, 0)
  | some x => (x, z)
def PFitPost (p : Po) (z : Int) (w : World) (e : Ending) (w' : World) : Prop :=
  e = .returned (.tuple #[.agg #[.int .i64 (pfitO p z).1, .int .i64 (pfitO p z).2], .int .i64 (pfitE p z)]) ∧ Below w.heap.size w w'
set_option maxRecDepth 100000 in
set_option maxHeartbeats 1600000 in
theorem pfit_any (p : Po) (z : Int) (w : World) (hp : LS w p.x p.n p.ls) (hn : p.n ≤ 1048576) :
    Calls Tryz.prog 44 #[.agg #[.int .i64 p.id, .int .i64 p.up, .int .i64 p.a, .int .i64 p.l, .int .i64 p.mn, .int .i64 p.mx, .int .i64 p.us, .int .i64 p.co, .slice p.x p.n p.c], .int .i64 z] w (PFitPost p z w) := by
  obtain ⟨id, up, a, l, mn, mx, us, co, x, n, c, ls⟩ := p
  simp only at hp hn ⊢
  have hB := bl2 w (.cells #[.int .i64 id, .int .i64 up, .int .i64 a, .int .i64 l, .int .i64 mn, .int .i64 mx, .int .i64 us, .int .i64 co, .slice x n c] 49) (.cells #[.int .i64 0, .int .i64 0] 26)
  by_cases hz : z < mn ∨ mx < z
  · have he : pfitE ⟨id, up, a, l, mn, mx, us, co, x, n, c, ls⟩ z = 7 := if_pos hz
    have ho : pfitO ⟨id, up, a, l, mn, mx, us, co, x, n, c, ls⟩ z = (0, 0) := if_pos hz
    by_cases h1 : z < mn
    · go_enter Tryz.func44, Tryz.ntmps44
      go_wp2
      refine bodyPost_ret (v := .tuple #[.agg #[.int .i64 0, .int .i64 0], .int .i64 7]) (by simp [results, Tryz.results44, go_sem]) rfl ⟨by rw [he, ho], ?_⟩
      first | exact (hB.setCell (p := ⟨w.heap.size + 1, 0, none⟩) (Nat.le_succ _) _).setCell (p := ⟨w.heap.size + 1, 1, none⟩) (Nat.le_succ _) _ | exact hB
    · have h2 : mx < z := by omega
      go_enter Tryz.func44, Tryz.ntmps44
      go_wp2
      refine bodyPost_ret (v := .tuple #[.agg #[.int .i64 0, .int .i64 0], .int .i64 7]) (by simp [results, Tryz.results44, go_sem]) rfl ⟨by rw [he, ho], ?_⟩
      first | exact (hB.setCell (p := ⟨w.heap.size + 1, 0, none⟩) (Nat.le_succ _) _).setCell (p := ⟨w.heap.size + 1, 1, none⟩) (Nat.le_succ _) _ | exact hB
  · have h1 : ¬ z < mn := fun h => hz (.inl h)
    have h2 : ¬ mx < z := fun h => hz (.inr h)
    have he : pfitE ⟨id, up, a, l, mn, mx, us, co, x, n, c, ls⟩ z = _ := if_neg hz
    have ho : pfitO ⟨id, up, a, l, mn, mx, us, co, x, n, c, ls⟩ z = _ := if_neg hz
    go_enter Tryz.func44, Tryz.ntmps44
    go_wp2_with fail
    refine (spaceOf_any ⟨id, up, a, l, mn, mx, us, co, x, n, c, ls⟩ _ (hp.later hB) hn).mono ?_
    rintro e w1 ⟨x1, c1, rfl, hb1, hps1⟩
    go_wp2_with fail
    refine (fit_any a l x1 n c1 (lp ls) z w1 (fun _ => hps1)).mono ?_
    rintro e w2 ⟨rfl, hb2⟩
    have hB2 := hB.trans ((hb1.trans (hb2.mono hb1.size)).mono (by simp; omega))
    have hx8 : w2.heap[w.heap.size]? = some (.cells #[.int .i64 id, .int .i64 up, .int .i64 a, .int .i64 l, .int .i64 mn, .int .i64 mx, .int .i64 us, .int .i64 co, .slice x n c] 49) := heap_later hb2 (heap_later hb1 (heap_old _ (heap_new _ rfl)))
    have hx9 : w2.heap[w.heap.size + 1]? = some (.cells #[.int .i64 0, .int .i64 0] 26) := heap_later hb2 (heap_later hb1 (heap_new _ (by simp)))
    clear hb1 hb2 hps1
    have hsz := (Array.getElem?_eq_some_iff.1 hx9).1
    cases hf : fitS a l n (lp ls) z with
    | none =>
      have hq : pfitS ⟨id, up, a, l, mn, mx, us, co, x, n, c, ls⟩ z = none := by unfold pfitS; split; rfl; exact hf
      rw [hq] at he ho
      simp only [fitV]
      go_upto_region 4 with fail
      obtain ⟨w3, hw3⟩ : ∃ w3, w3 = w2.alloc (.cells #[.int .i64 0, .int .i64 0] 26) := ⟨_, rfl⟩
      rw [← hw3]
      have hB3 : Below w.heap.size w w3 := by rw [hw3]; exact hB2.alloc hB2.size _
      have hy8 : w3.heap[w.heap.size]? = some (.cells #[.int .i64 id, .int .i64 up, .int .i64 a, .int .i64 l, .int .i64 mn, .int .i64 mx, .int .i64 us, .int .i64 co, .slice x n c] 49) := by rw [hw3]; exact heap_old _ hx8
      have hy9 : w3.heap[w.heap.size + 1]? = some (.cells #[.int .i64 0, .int .i64 0] 26) := by rw [hw3]; exact heap_old _ hx9
      have hyn : w3.heap[w2.heap.size]? = some (.cells #[.int .i64 0, .int .i64 0] 26) := by rw [hw3]; exact heap_new _ rfl
      clear hw3
      have d8 : w3.cell? ⟨w.heap.size, 8, none⟩ = some (.slice x n c) := (box_cells hy8).1 8
      have r0 : w3.cell? ⟨w.heap.size + 1, 0, none⟩ = some (.int .i64 0) := (box_cells hy9).1 0
      have r1 : w3.cell? ⟨w.heap.size + 1, 1, none⟩ = some (.int .i64 0) := (box_cells hy9).1 1
      have z0 : w3.frozen? ⟨w.heap.size + 1, 0, none⟩ = false := (box_cells hy9).2 0
      have z1 : w3.frozen? ⟨w.heap.size + 1, 1, none⟩ = false := (box_cells hy9).2 1
      have q0 : w3.cell? ⟨w2.heap.size, 0, none⟩ = some (.int .i64 0) := (box_cells hyn).1 0
      have q1 : w3.cell? ⟨w2.heap.size, 1, none⟩ = some (.int .i64 0) := (box_cells hyn).1 1
      go_wp2
      refine bodyPost_ret (v := .tuple #[.agg #[.int .i64 0, .int .i64 0], .int .i64 8]) (by simp [results, Tryz.results44, go_sem, r0, r1]) rfl ⟨by rw [he, ho], ?_⟩
      exact (hB3.setCell (p := ⟨w.heap.size + 1, 0, none⟩) (Nat.le_succ _) _).setCell (p := ⟨w.heap.size + 1, 1, none⟩) (Nat.le_succ _) _
    | some y =>
      simp only [fitV]
      by_cases h32 : n = 32
      · have hq : pfitS ⟨id, up, a, l, mn, mx, us, co, x, n, c, ls⟩ z = none := if_pos h32
        rw [hq] at he ho
        subst h32
        go_upto_region 4 with fail
        obtain ⟨w3, hw3⟩ : ∃ w3, w3 = w2.alloc (.cells #[.int .i64 y, .int .i64 z] 26) := ⟨_, rfl⟩
        rw [← hw3]
        have hB3 : Below w.heap.size w w3 := by rw [hw3]; exact hB2.alloc hB2.size _
        have hy8 : w3.heap[w.heap.size]? = some (.cells #[.int .i64 id, .int .i64 up, .int .i64 a, .int .i64 l, .int .i64 mn, .int .i64 mx, .int .i64 us, .int .i64 co, .slice x 32 c] 49) := by rw [hw3]; exact heap_old _ hx8
        have hy9 : w3.heap[w.heap.size + 1]? = some (.cells #[.int .i64 0, .int .i64 0] 26) := by rw [hw3]; exact heap_old _ hx9
        have hyn : w3.heap[w2.heap.size]? = some (.cells #[.int .i64 y, .int .i64 z] 26) := by rw [hw3]; exact heap_new _ rfl
        clear hw3
        have d8 : w3.cell? ⟨w.heap.size, 8, none⟩ = some (.slice x 32 c) := (box_cells hy8).1 8
        have r0 : w3.cell? ⟨w.heap.size + 1, 0, none⟩ = some (.int .i64 0) := (box_cells hy9).1 0
        have r1 : w3.cell? ⟨w.heap.size + 1, 1, none⟩ = some (.int .i64 0) := (box_cells hy9).1 1
        have z0 : w3.frozen? ⟨w.heap.size + 1, 0, none⟩ = false := (box_cells hy9).2 0
        have z1 : w3.frozen? ⟨w.heap.size + 1, 1, none⟩ = false := (box_cells hy9).2 1
        have q0 : w3.cell? ⟨w2.heap.size, 0, none⟩ = some (.int .i64 y) := (box_cells hyn).1 0
        have q1 : w3.cell? ⟨w2.heap.size, 1, none⟩ = some (.int .i64 z) := (box_cells hyn).1 1
        go_wp2
        refine bodyPost_ret (v := .tuple #[.agg #[.int .i64 0, .int .i64 0], .int .i64 8]) (by simp [results, Tryz.results44, go_sem, r0, r1]) rfl ⟨by rw [he, ho], ?_⟩
        exact (hB3.setCell (p := ⟨w.heap.size + 1, 0, none⟩) (Nat.le_succ _) _).setCell (p := ⟨w.heap.size + 1, 1, none⟩) (Nat.le_succ _) _
      · have hq : pfitS ⟨id, up, a, l, mn, mx, us, co, x, n, c, ls⟩ z = some y := (if_neg h32).trans hf
        rw [hq] at he ho
        have h33 : ¬ (n : Int) = 32 := by omega
        go_upto_region 4 with fail
        obtain ⟨w3, hw3⟩ : ∃ w3, w3 = w2.alloc (.cells #[.int .i64 y, .int .i64 z] 26) := ⟨_, rfl⟩
        rw [← hw3]
        have hB3 : Below w.heap.size w w3 := by rw [hw3]; exact hB2.alloc hB2.size _
        have hy8 : w3.heap[w.heap.size]? = some (.cells #[.int .i64 id, .int .i64 up, .int .i64 a, .int .i64 l, .int .i64 mn, .int .i64 mx, .int .i64 us, .int .i64 co, .slice x n c] 49) := by rw [hw3]; exact heap_old _ hx8
        have hy9 : w3.heap[w.heap.size + 1]? = some (.cells #[.int .i64 0, .int .i64 0] 26) := by rw [hw3]; exact heap_old _ hx9
        have hyn : w3.heap[w2.heap.size]? = some (.cells #[.int .i64 y, .int .i64 z] 26) := by rw [hw3]; exact heap_new _ rfl
        clear hw3
        have d8 : w3.cell? ⟨w.heap.size, 8, none⟩ = some (.slice x n c) := (box_cells hy8).1 8
        have r0 : w3.cell? ⟨w.heap.size + 1, 0, none⟩ = some (.int .i64 0) := (box_cells hy9).1 0
        have r1 : w3.cell? ⟨w.heap.size + 1, 1, none⟩ = some (.int .i64 0) := (box_cells hy9).1 1
        have z0 : w3.frozen? ⟨w.heap.size + 1, 0, none⟩ = false := (box_cells hy9).2 0
        have z1 : w3.frozen? ⟨w.heap.size + 1, 1, none⟩ = false := (box_cells hy9).2 1
        have q0 : w3.cell? ⟨w2.heap.size, 0, none⟩ = some (.int .i64 y) := (box_cells hyn).1 0
        have q1 : w3.cell? ⟨w2.heap.size, 1, none⟩ = some (.int .i64 z) := (box_cells hyn).1 1
        go_wp2
        refine bodyPost_ret (v := .tuple #[.agg #[.int .i64 y, .int .i64 z], .int .i64 0]) (by simp [results, Tryz.results44, go_sem, r0, r1]) rfl ⟨by rw [he, ho], ?_⟩
        exact (hB3.setCell (p := ⟨w.heap.size + 1, 0, none⟩) (Nat.le_succ _) _).setCell (p := ⟨w.heap.size + 1, 1, none⟩) (Nat.le_succ _) _
end Go.Proofs.YtpdoonkhnabfjaaGreat
/- What addLease of package pool comes to. -/
namespace Go.Proofs.YtpdoonkhnabfjaaGreat
open Go.RowKit Go.Shelf

theorem OBk.swap {W W1 : World} {base g n cap : Nat} {qs : List Po} {i m c' : Nat} {x' : Option Addr} {ls : List Le} (h : OBk W base (.slice (some ⟨g, 0, none⟩) n cap) qs qs.length) (hk : i < qs.length) (hb : Below W.heap.size W W1) (ho : OwnL W1 W.heap.size (.slice x' m c') ls) (hwb : base ≤ W.heap.size) :
    OBk (W1.setCell ⟨g, i * 9 + 8, none⟩ (.slice x' m c')) base (.slice (some ⟨g, 0, none⟩) n cap) (qs.set i (withL (poAt qs i) x' m c' ls)) (qs.set i (withL (poAt qs i) x' m c' ls)).length := by
  have hr := h.row.later hb
  obtain ⟨hbg, cur, hg⟩ := hr.block
  have hall : ∀ j, j < qs.length → OwnL W1 base (.slice (poAt (qs.set i (withL (poAt qs i) x' m c' ls)) j).x (poAt (qs.set i (withL (poAt qs i) x' m c' ls)) j).n (poAt (qs.set i (withL (poAt qs i) x' m c' ls)) j).c) (poAt (qs.set i (withL (poAt qs i) x' m c' ls)) j).ls := fun j hj => by
    rw [poAt_set hk]
    by_cases e : i = j
    · rw [if_pos e]; exact ho.low hwb
    · rw [if_neg e]; exact (h.own j hj).later hb
  have hlen : (qs.set i (withL (poAt qs i) x' m c' ls)).length = qs.length := List.length_set
  refine ⟨hr.set i hk x' _ c' _, fun j hj => (hall j (by omega)).kept (set_grown _ _ _ _) (fun q hq e => by subst e; exact (hall j (by omega)).ne hg (by decide) hq), fun j hj hj2 => by omega, fun j k hj hk2 hij b hbi hbj => ?_⟩
  rw [poAt_set hk] at hbi hbj
  by_cases e : i = j
  · rw [if_pos e] at hbi
    rw [if_neg (by omega)] at hbj
    have h1 := ho.lt b hbi
    have h2 := (h.own k (by omega)).lt b hbj
    omega
  · rw [if_neg e] at hbi
    by_cases e2 : i = k
    · rw [if_pos e2] at hbj
      have h1 := ho.lt b hbj
      have h2 := (h.own j (by omega)).lt b hbi
      omega
    · rw [if_neg e2] at hbj
      exact h.apart j k (by omega) (by omega) hij b hbi hbj
/-- The lease stands ahead of the first one that begins behind it. -/
def PutLe (e : Le) (ls ls' : List Le) : Prop := ∃ i, i ≤ ls.length ∧ (∀ j, j < i → ¬ e.a < (leAt ls j).a) ∧ (i < ls.length → e.a < (leAt ls i).a) ∧ ls' = ls.take i ++ [e] ++ ls.drop i
theorem PutLe.len {e : Le} {ls ls' : List Le} (h : PutLe e ls ls') : ls'.length = ls.length + 1 := by
  obtain ⟨i, hi, -, -, rfl⟩ := h
  simp
  omega
def AddPost (e : Le) (base g n cap : Nat) (qs : List Po) (i : Nat) (w : World) (r : Ending) (w' : World) : Prop :=
  r = .returned (.tuple #[]) ∧ ∃ x' c' ls', PutLe e (poAt qs i).ls ls' ∧ OBk w' base (.slice (some ⟨g, 0, none⟩) n cap) (qs.set i (withL (poAt qs i) x' ls'.length c' ls')) (qs.set i (withL (poAt qs i) x' ls'.length c' ls')).length ∧ w.grownBy w' (some g)

set_option maxRecDepth 100000 in
set_option maxHeartbeats 3200000 in
theorem addLease_any (e : Le) (base g n cap : Nat) (qs : List Po) (i : Nat) (w : World) (h : OBk w base (.slice (some ⟨g, 0, none⟩) n cap) qs qs.length) (hi : i < qs.length) (hn : (poAt qs i).n ≤ 32) (hwb : base ≤ w.heap.size) :
    Calls Tryz.prog 24 #[.pointer (some ⟨g, i * 9, none⟩), .agg #[.int .i64 e.a, .int .i64 e.l, .int .i64 e.kd, .int .i64 e.ow, .int .i64 e.un]] w (AddPost e base g n cap qs i w) := by
  obtain ⟨hbg, cur, hg⟩ := h.row.block
  have hgl : g < w.heap.size := (Array.getElem?_eq_some_iff.1 hg).1
  obtain ⟨xv, cv, he2, -, -, -, hm⟩ := h.row.mem
  obtain ⟨b2, o2, he3, -, -, -, -, -, -, -, -, c8⟩ := hm i hi
  simp only [Value.slice.injEq] at he2
  obtain ⟨hx2, -, -⟩ := he2
  rw [← hx2] at he3
  simp only [Option.some.injEq, Addr.mk.injEq] at he3
  obtain ⟨rfl, rfl, -⟩ := he3
  clear hx2 hm
  have hO := h.own i hi
  obtain ⟨hLS, hll, hnc, hc63⟩ := hO.ls
  have hx : ((poAt qs i).x = none ∧ (poAt qs i).c = 0) ∨ ∃ b o, (poAt qs i).x = some ⟨b, o, none⟩ := by
    rcases hO.2 with ⟨hv, -⟩ | ⟨g2, cap2, cur2, hv, -⟩
    · simp only [Value.slice.injEq] at hv; exact .inl ⟨hv.1, hv.2.2⟩
    · simp only [Value.slice.injEq] at hv; exact .inr ⟨_, _, hv.1⟩
  go_enter Tryz.func24, Tryz.ntmps24
  go_upto_region 1 with fail
  obtain ⟨w0, hw0⟩ : ∃ w0, w0 = w.alloc (.cells #[.int .i64 e.a, .int .i64 e.l, .int .i64 e.kd, .int .i64 e.ow, .int .i64 e.un] 55) := ⟨_, rfl⟩
  rw [← hw0]
  have hB0 : Below w.heap.size w w0 := by rw [hw0]; exact bl1 w _
  have hb0 : w0.heap[w.heap.size]? = some (.cells #[.int .i64 e.a, .int .i64 e.l, .int .i64 e.kd, .int .i64 e.ow, .int .i64 e.un] 55) := by rw [hw0]; exact heap_new _ rfl
  clear hw0
  have c8' : w.cell? ⟨g, i * 9 + 8, none⟩ = some (.slice (poAt qs i).x (poAt qs i).n (poAt qs i).c) := by simpa using c8
  have d8 : w0.cell? ⟨g, i * 9 + 8, none⟩ = some (.slice (poAt qs i).x (poAt qs i).n (poAt qs i).c) := cell_later_add hB0 c8'
  have a8 : ∀ o, (w0.alloc o).cell? ⟨g, i * 9 + 8, none⟩ = some (.slice (poAt qs i).x (poAt qs i).n (poAt qs i).c) := fun o => cell_later_add (bl1 w0 o) d8
  have d0 : w0.cell? ⟨w.heap.size, 0, none⟩ = some (.int .i64 e.a) := (box_cells hb0).1 0
  have a0 : ∀ o, (w0.alloc o).cell? ⟨w.heap.size, 0, none⟩ = some (.int .i64 e.a) := fun o => cell_later_add (bl1 w0 o) d0
  have d1 : w0.cell? ⟨w.heap.size, 1, none⟩ = some (.int .i64 e.l) := (box_cells hb0).1 1
  have a1 : ∀ o, (w0.alloc o).cell? ⟨w.heap.size, 1, none⟩ = some (.int .i64 e.l) := fun o => cell_later_add (bl1 w0 o) d1
  have d2 : w0.cell? ⟨w.heap.size, 2, none⟩ = some (.int .i64 e.kd) := (box_cells hb0).1 2
  have a2 : ∀ o, (w0.alloc o).cell? ⟨w.heap.size, 2, none⟩ = some (.int .i64 e.kd) := fun o => cell_later_add (bl1 w0 o) d2
  have d3 : w0.cell? ⟨w.heap.size, 3, none⟩ = some (.int .i64 e.ow) := (box_cells hb0).1 3
  have a3 : ∀ o, (w0.alloc o).cell? ⟨w.heap.size, 3, none⟩ = some (.int .i64 e.ow) := fun o => cell_later_add (bl1 w0 o) d3
  have d4 : w0.cell? ⟨w.heap.size, 4, none⟩ = some (.int .i64 e.un) := (box_cells hb0).1 4
  have a4 : ∀ o, (w0.alloc o).cell? ⟨w.heap.size, 4, none⟩ = some (.int .i64 e.un) := fun o => cell_later_add (bl1 w0 o) d4
  have hput := putL_any e (poAt qs i).x (poAt qs i).n (poAt qs i).c (poAt qs i).ls w0.heap.size 1 (w0.alloc (.cells #[.func (.func 61) #[] #[]] 89)).drew ((hLS.later hB0).later (bl1 w0 _).drew) hn hnc hc63 hx (by simp)
  have hgo : ∀ w1, Below (w0.alloc (.cells #[.func (.func 61) #[] #[]] 89)).drew.heap.size (w0.alloc (.cells #[.func (.func 61) #[] #[]] 89)).drew w1 → Below w.heap.size w w1 := fun w1 hb1 =>
    (hB0.trans ((bl1 w0 _).mono hB0.size)).trans (Below.mono (B := w0.heap.size + 1) ⟨hb1.os, hb1.tape, hb1.output, hb1.size, fun k hk => hb1.block k (by simpa using hk)⟩ (by have := hB0.size; omega))
  go_region_with (go_at_call 60; refine hput.mono ?_; rintro e' w1 ⟨v1, rfl, hb1, i1, hi1, hlow, hup, hO1⟩; obtain ⟨ls', hls⟩ : ∃ ls', Hid (ls' = (poAt qs i).ls.take i1 ++ [e] ++ (poAt qs i).ls.drop i1) := ⟨_, rfl⟩; rw [← hls.out] at hO1; obtain ⟨x1, c1, rfl, h11, h12, h13, h14⟩ := hO1.mem; have hb2 : Below w.heap.size w w1 := hgo w1 hb1; have f8 := cell_later_add hb2 c8'; have df : w1.frozen? ⟨g, i * 9 + 8, none⟩ = false := (h.row.later hb2).frozen _)
  all_goals have hp2 : PutLe e (poAt qs i).ls ls' := ⟨i1, by rw [hll]; exact hi1, fun j hj => by have := hlow j hj; omega, fun hq => hup (by rw [← hll]; exact hq), hls.out⟩
  all_goals have hO2 : OwnL w1 w.heap.size (.slice x1 ls'.length c1) ls' := hO1.low (by have := hB0.size; simp; omega)
  all_goals have hsw := h.swap hi hb2 hO2 hwb
  all_goals refine bodyPost_end (results_none Tryz.results24 _ _ _) rfl ?_
  all_goals exact ⟨rfl, x1, c1, ls', hp2, hsw, hb2.os, hb2.tape, hb2.output, by have := hb2.size; simpa using this, fun k hk hne => (heap_setCell_other _ _ _ _ (fun e => hne (by rw [e]))).trans (hb2.block k hk)⟩
end Go.Proofs.YtpdoonkhnabfjaaGreat
/- Grow and Concat at pools. -/
namespace Go.Proofs.YtpdoonkhnabfjaaGreat
open Go.RowKit Go.Shelf

/-- These lie one behind the other from there on. -/
def RunP (w : World) (x : Option Addr) (n : Nat) (es : List Po) : Prop := es.length = n ∧ (0 < n → x ≠ none) ∧ ∀ ad, x = some ad → ∀ j u, (flatP es)[j]? = some u → w.cell? (ad.add j) = some u
theorem RunP.later {w w' : World} {x : Option Addr} {n : Nat} {es : List Po} (h : RunP w x n es) (hb : Below w.heap.size w w') : RunP w' x n es :=
  ⟨h.1, h.2.1, fun ad hx j u hj => cell_later_add hb (h.2.2 ad hx j u hj)⟩
theorem RunP.empty (w : World) (x : Option Addr) : RunP w x 0 [] := ⟨rfl, fun h => by omega, fun _ _ j u hj => by simp [flatP] at hj⟩
theorem PoS.run {w : World} {x : Option Addr} {n : Nat} {es : List Po} (h : PoS w x n es) : RunP w x n es :=
  ⟨h.len, (fun h0 e => by obtain ⟨b, o, hx, -⟩ := h.cells 0 h0; rw [e] at hx; cases hx), fun ad hx => by subst hx; exact h.flat_cells⟩
theorem RunP.take {w : World} {x : Option Addr} {n i : Nat} {es : List Po} (h : RunP w x n es) (hi : i ≤ n) : RunP w x i (es.take i) := by
  refine ⟨by rw [List.length_take, h.1]; omega, fun h0 => h.2.1 (by omega), fun ad hx j u hj => h.2.2 ad hx j u ?_⟩
  conv => lhs; rw [← List.take_append_drop i es]
  rw [flatP_app, List.getElem?_append_left (List.getElem?_eq_some_iff.1 hj).1]
  exact hj
theorem RunP.drop {w : World} {b o n i c : Nat} {es : List Po} (h : RunP w (some ⟨b, o, none⟩) n es) (hi : i ≤ n) (hnc : n ≤ c) : RunP w (if c = i then some ⟨b, o, none⟩ else some ⟨b, o + i * 9, none⟩) (n - i) (es.drop i) := by
  refine ⟨by rw [List.length_drop, h.1], fun _ => by split <;> simp, fun ad hx j u hj => ?_⟩
  have hlt : i < n := by
    by_cases e : i < n
    · exact e
    · rw [List.drop_eq_nil_of_le (by rw [h.1]; omega)] at hj
      simp [flatP] at hj
  rw [if_neg (by omega)] at hx
  cases hx
  have h2 := h.2.2 _ rfl (i * 9 + j) u (by
    conv => lhs; rw [← List.take_append_drop i es]
    have hm : (flatP (es.take i)).length = i * 9 := by rw [flatP_len, List.length_take, h.1, show min i n = i by omega]
    rw [flatP_app, List.getElem?_append_right (by rw [hm]; omega), hm, show i * 9 + j - i * 9 = j by omega]
    exact hj)
  rw [addr_add] at h2 ⊢
  rw [show o + i * 9 + j = o + (i * 9 + j) by omega]
  exact h2

set_option maxRecDepth 20000 in
set_option maxHeartbeats 800000 in
theorem growP_nil (n : Nat) (w : World) (h0 : 0 < n) (hn : n ≤ 1000) :
    Calls Tryz.prog 99 #[.slice none 0 0, .int .i64 n] w fun e w' => ∃ v, e = .returned v ∧ Below w.heap.size w w' ∧ OwnP w' w.heap.size v [] := by
  obtain ⟨i0, hi, hz0, hz1, hz2⟩ := info_P'
  have hold : (Builtin.firstCells i0.size 0 (.slice none 0 0)).run Tryz.prog w.drew = .ok ([] : List Value).toArray w.drew := run_firstCells_none w.drew i0.size 0 0 0
  have hrz : ∀ ty, (Builtin.append_ #[22, 3] ty #[.slice none 0 0, .int .i64 (n : Int)]).run Tryz.prog w = _ := fun ty =>
    Lib.run_append_grow_zeros w 22 3 ty 49 i0 _ .i64 .i64 under_P under_int hi hz0 none 0 0 [] hold n (by omega) (by omega) (by omega) (by omega) (by rw [hz2]; omega) (by rw [hz2]; exact growslice_fits (by omega) (by omega))
  have hG := grownCap_le_maxLen w (0 + n) 0 49 (by unfold maxLen; omega)
  have hGn := grownCap_ge w (0 + n) 0 49
  generalize grownCap w (0 + n) 0 49 = G at hrz hG hGn
  have h1 : ¬ ((n : Int) < 0) := by omega
  have h4 : (n : Int) > 0 := by omega
  have hG63 : G ≤ 9223372036854775807 := by unfold maxLen at hG; omega
  go_enter Tryz.func99, Tryz.ntmps99
  go_wp2_with (at_builtin; refine Lib.wpList_append_run _ rfl _ _ _ _ rfl _ _ rfl rfl _ _ (hrz _) ?_)
  go_ret
  refine ⟨_, rfl, (bl1 w _).drew, (World.ownsRow_made w _ G (Nat.le_refl _) hG ?_).drew⟩
  simp only [Array.size_append, size_zeroCells, List.size_toArray, List.length_cons, List.length_nil]
  omega
theorem growP_zero (w : World) :
    Calls Tryz.prog 99 #[.slice none 0 0, .int .i64 0] w fun e w' => e = .returned (.slice none 0 0) ∧ w' = w := by
  go_enter Tryz.func99, Tryz.ntmps99
  go_wp2
  go_ret
  exact ⟨rfl, rfl⟩
theorem growP_any (n : Nat) (w : World) (hn : n ≤ 1000) :
    Calls Tryz.prog 99 #[.slice none 0 0, .int .i64 n] w fun e w' => ∃ v, e = .returned v ∧ Below w.heap.size w w' ∧ OwnP w' w.heap.size v [] := by
  by_cases h : n = 0
  · subst h
    exact (growP_zero w).mono fun _ _ ⟨he, hw⟩ => ⟨_, he, by rw [hw]; exact Below.refl _ _, World.ownsRow_nil _ _ _ _⟩
  · exact growP_nil n w (by omega) hn
def catPTo (ql : Nat → List Po) : Nat → List Po
  | 0 => []
  | j + 1 => catPTo ql j ++ ql j

set_option maxRecDepth 20000 in
set_option maxHeartbeats 1600000 in
theorem concatP_any (B k k' : Nat) (xl : Nat → Option Addr) (nl cl : Nat → Nat) (ql : Nat → List Po) (w : World) (hk : k ≤ 3)
    (hc : ∀ j, j < k → w.cell? ⟨B, j, none⟩ = some (.slice (xl j) (nl j) (cl j))) (hp : ∀ j, j < k → RunP w (xl j) (nl j) (ql j)) (hn : ∀ j, j < k → nl j ≤ 64) (h0 : ∀ j, j < k → xl j = none → nl j = 0 ∧ cl j = 0) :
    Calls Tryz.prog 85 #[.slice (some ⟨B, 0, none⟩) k k'] w fun e w' => ∃ v, e = .returned v ∧ Below w.heap.size w w' ∧ OwnP w' w.heap.size v (catPTo ql k) := by
  obtain ⟨i0, hi, hz0, hz1, hz2⟩ := info_P'
  have hlen : ∀ j, j ≤ k → (catPTo ql j).length ≤ 64 * j := by
    intro j
    induction j with
    | zero => intro _; simp [catPTo]
    | succ j ih =>
      intro hj
      have h1 := ih (by omega)
      have h2 := (hp j (by omega)).1
      have h3 := hn j (by omega)
      simp only [catPTo, List.length_append]
      omega
  go_enter Tryz.func85, Tryz.ntmps85
  go_wp2
  go_loopw [11, 3] (fun i t wr => ∃ j : Nat, j ≤ k ∧ i = .int .i64 j ∧ t = .int .i64 ((catPTo ql j).length : Nat) ∧ wr = w) (fun i _ _ => k - (intOf i).toNat)
  case atStart => exact ⟨0, by omega, rfl, rfl, rfl⟩
  case round =>
    obtain ⟨j, hj, rfl, rfl, hw⟩ := hrel
    have hw' := hw.symm
    subst hw'
    clear hw
    have hl := hlen j hj
    by_cases hlt : j < k
    · have hcj := hc j hlt
      have hl2 := hlen (j + 1) hlt
      have hpl := (hp j hlt).1
      have hnj := hn j hlt
      have hlt' := hlt
      have hcat : (catPTo ql (j + 1)).length = (catPTo ql j).length + nl j := by simp only [catPTo, List.length_append, hpl]
      have hneg : ¬ (((catPTo ql j).length : Int) + (nl j : Int) < 0) := by omega
      go_wp2
      go_roundw
      case rel => exact ⟨j + 1, hlt', by go_num, by rw [hcat]; go_num, trivial⟩
      case measure => simp [intOf]; omega
    · obtain rfl : j = k := by omega
      go_wp2_with fail
      refine (growP_any _ w (by omega)).mono ?_
      rintro e w1 ⟨v0, rfl, hb1, hown1⟩
      go_wp2
      go_loopw [27, 6] (fun i v wq => ∃ q : Nat, q ≤ j ∧ i = .int .i64 q ∧ Below w.heap.size w wq ∧ OwnP wq w.heap.size v (catPTo ql q)) (fun i _ _ => j - (intOf i).toNat)
      case atStart => exact ⟨0, by omega, rfl, hb1, hown1⟩
      case round =>
        obtain ⟨q, hq, rfl, hB, hown⟩ := hrel
        by_cases hlt2 : q < j
        · have hcq := cell_later hB (hc q hlt2)
          have hpq := (hp q hlt2).later hB
          have hlq := hlen q hq
          have hnq := hn q hlt2
          have hlt3 := hlt2
          have hsz := hB.size
          cases hxq : xl q with
          | none =>
            obtain ⟨hn0, hc0⟩ := h0 q hlt2 hxq
            rw [hxq, hn0, hc0] at hcq
            have hq0 : ql q = [] := List.eq_nil_of_length_eq_zero (by rw [hpq.1]; exact hn0)
            go_wp2_with (at_builtin; refine wpList_append_own_none rfl _ _ 22 rfl w.heap.size 49 i0 9 under_P hi _ _ _ rfl hown rfl ?_)
            go_roundw
            case rel => exact ⟨q + 1, hlt3, by go_num, hB, by simp only [catPTo, hq0, List.append_nil]; exact hown⟩
            case measure => simp [intOf]; omega
          | some ad =>
            rw [hxq] at hcq hpq
            go_wp2_with (at_builtin; refine Hid.out ?_)
            unfold Hid
            refine wpList_append_P rfl _ _ rfl w.heap.size _ _ rfl hown ad (nl q) (cl q) (ql q) rfl hpq.1 (hpq.2.2 ad rfl) (by omega) (by omega) ?_
            intro v' w2 hown2 hgrow'
            have hgrow : wr.grownBy w2 u6.ownBlock := hgrow'
            clear hgrow'
            have hB2 : Below w.heap.size w w2 := ⟨hgrow.os.trans hB.os, hgrow.tape.trans hB.tape, hgrow.output.trans hB.output, Nat.le_trans hsz hgrow.size, fun k hk => (hgrow.block k (by omega) (fun e => by have := (hown.lt _ e.symm).1; omega)).trans (hB.block k hk)⟩
            have hown3 : OwnP w2 w.heap.size v' (catPTo ql (q + 1)) := hown2
            clear hown2
            go_wp2
            go_roundw
            case rel => exact ⟨q + 1, hlt3, by go_num, hB2, hown3⟩
            case measure => simp [intOf]; omega
        · obtain rfl : q = j := by omega
          go_wp2
          go_ret
          exact ⟨_, rfl, hB, hown⟩
end Go.Proofs.YtpdoonkhnabfjaaGreat
/- order.Put at pools. -/
namespace Go.Proofs.YtpdoonkhnabfjaaGreat
open Go.RowKit Go.Shelf

set_option maxRecDepth 20000 in
set_option maxHeartbeats 800000 in
theorem put1P_any (p r : Po) (bp bb bf k : Nat) (w : World) (h10 : w.cell? ⟨bp, 0, none⟩ = some (.int .i64 p.id)) (h11 : w.cell? ⟨bp, 1, none⟩ = some (.int .i64 p.up)) (h12 : w.cell? ⟨bp, 2, none⟩ = some (.int .i64 p.a)) (h13 : w.cell? ⟨bp, 3, none⟩ = some (.int .i64 p.l)) (h14 : w.cell? ⟨bp, 4, none⟩ = some (.int .i64 p.mn)) (h15 : w.cell? ⟨bp, 5, none⟩ = some (.int .i64 p.mx)) (h16 : w.cell? ⟨bp, 6, none⟩ = some (.int .i64 p.us)) (h17 : w.cell? ⟨bp, 7, none⟩ = some (.int .i64 p.co)) (h18 : w.cell? ⟨bp, 8, none⟩ = some (.slice p.x p.n p.c))
    (h2 : w.cell? ⟨bb, 0, none⟩ = some (.slice (some ⟨bf, 0, none⟩) 1 k)) (h3 : w.cell? ⟨bf, 0, none⟩ = some (.func (.func 59) #[] #[])) :
    Calls Tryz.prog 83 #[.agg #[.int .i64 r.id, .int .i64 r.up, .int .i64 r.a, .int .i64 r.l, .int .i64 r.mn, .int .i64 r.mx, .int .i64 r.us, .int .i64 r.co, .slice r.x r.n r.c], .pointer (some ⟨bp, 0, none⟩), .pointer (some ⟨bb, 0, none⟩)] w fun e w' => e = .returned (.bool (decide (p.id < r.id))) ∧ Below w.heap.size w w' := by
  have k10 : ∀ q, (w.alloc q).cell? ⟨bp, 0, none⟩ = some (.int .i64 p.id) := fun q => cell_later (bl1 w q) h10
  have k11 : ∀ q, (w.alloc q).cell? ⟨bp, 1, none⟩ = some (.int .i64 p.up) := fun q => cell_later (bl1 w q) h11
  have k12 : ∀ q, (w.alloc q).cell? ⟨bp, 2, none⟩ = some (.int .i64 p.a) := fun q => cell_later (bl1 w q) h12
  have k13 : ∀ q, (w.alloc q).cell? ⟨bp, 3, none⟩ = some (.int .i64 p.l) := fun q => cell_later (bl1 w q) h13
  have k14 : ∀ q, (w.alloc q).cell? ⟨bp, 4, none⟩ = some (.int .i64 p.mn) := fun q => cell_later (bl1 w q) h14
  have k15 : ∀ q, (w.alloc q).cell? ⟨bp, 5, none⟩ = some (.int .i64 p.mx) := fun q => cell_later (bl1 w q) h15
  have k16 : ∀ q, (w.alloc q).cell? ⟨bp, 6, none⟩ = some (.int .i64 p.us) := fun q => cell_later (bl1 w q) h16
  have k17 : ∀ q, (w.alloc q).cell? ⟨bp, 7, none⟩ = some (.int .i64 p.co) := fun q => cell_later (bl1 w q) h17
  have k18 : ∀ q, (w.alloc q).cell? ⟨bp, 8, none⟩ = some (.slice p.x p.n p.c) := fun q => cell_later (bl1 w q) h18
  have k2 : ∀ q, (w.alloc q).cell? ⟨bb, 0, none⟩ = some (.slice (some ⟨bf, 0, none⟩) 1 k) := fun q => cell_later (bl1 w q) h2
  have hv : ∃ v, Cmp p.id r.id v ∧ (decide (p.id < r.id) = decide (v < 0)) := by
    rcases Int.lt_trichotomy p.id r.id with h | h | h
    · exact ⟨-1, .inl ⟨h, rfl⟩, by simp [h]⟩
    · exact ⟨0, .inr (.inl ⟨h, rfl⟩), by simp [h]⟩
    · exact ⟨1, .inr (.inr ⟨h, rfl⟩), by simp; omega⟩
  obtain ⟨v, hv, hd⟩ := hv
  rw [hd]
  go_enter Tryz.func83, Tryz.ntmps83
  go_wp2_with (go_at_call 84; refine (comparePo_is p r v hv bf k _ (cell_later (bl1 w _) h3)).mono ?_; rintro e w1 ⟨rfl, hb1⟩)
  go_ret
  exact ⟨rfl, (bl1 w _).trans (hb1.mono (by simp))⟩
theorem call_put1P (args : Array Value) (W : World) : (callFunc 83 args).run Tryz.prog W = .ok (.enter 83 args) W := by simp [go_sem]

set_option maxHeartbeats 800000 in
theorem concatP3 (x1 x3 : Option Addr) (n1 c1 n3 c3 : Nat) (q1 q3 : List Po) (e : Po) (w : World) (h1 : RunP w x1 n1 q1) (h3 : RunP w x3 n3 q3) (b1 : n1 ≤ 64) (b3 : n3 ≤ 64) (z1 : x1 = none → n1 = 0 ∧ c1 = 0) (z3 : x3 = none → n3 = 0 ∧ c3 = 0) :
    Calls Tryz.prog 85 #[.slice (some ⟨w.heap.size + 1, 0, none⟩) 3 3] ((w.alloc (.cells #[.int .i64 e.id, .int .i64 e.up, .int .i64 e.a, .int .i64 e.l, .int .i64 e.mn, .int .i64 e.mx, .int .i64 e.us, .int .i64 e.co, .slice e.x e.n e.c] 49)).alloc (.cells #[.slice x1 n1 c1, .slice (some ⟨w.heap.size, 0, none⟩) 1 1, .slice x3 n3 c3] 22)).drew fun r w' =>
      ∃ v, r = .returned v ∧ Below w.heap.size w w' ∧ OwnP w' (w.heap.size + 2) v (q1 ++ [e] ++ q3) := by
  obtain ⟨W, hW⟩ : ∃ W, W = ((w.alloc (.cells #[.int .i64 e.id, .int .i64 e.up, .int .i64 e.a, .int .i64 e.l, .int .i64 e.mn, .int .i64 e.mx, .int .i64 e.us, .int .i64 e.co, .slice e.x e.n e.c] 49)).alloc (.cells #[.slice x1 n1 c1, .slice (some ⟨w.heap.size, 0, none⟩) 1 1, .slice x3 n3 c3] 22)).drew := ⟨_, rfl⟩
  have hB : Below w.heap.size w W := by rw [hW]; exact (bl2 w _ _).drew
  have g0 : W.heap[w.heap.size]? = some (.cells #[.int .i64 e.id, .int .i64 e.up, .int .i64 e.a, .int .i64 e.l, .int .i64 e.mn, .int .i64 e.mx, .int .i64 e.us, .int .i64 e.co, .slice e.x e.n e.c] 49) := by rw [hW]; exact heap_old _ (heap_new _ rfl)
  have g1 : W.heap[w.heap.size + 1]? = some (.cells #[.slice x1 n1 c1, .slice (some ⟨w.heap.size, 0, none⟩) 1 1, .slice x3 n3 c3] 22) := by rw [hW]; exact heap_new _ (by simp)
  have hs : W.heap.size = w.heap.size + 2 := by rw [hW]; simp
  rw [← hW]
  clear hW
  have hp2 : RunP W (some ⟨w.heap.size, 0, none⟩) 1 [e] := ⟨rfl, fun _ => by simp, fun ad hx j u hj => by
    cases hx
    rw [addr_add, Nat.zero_add]
    simp only [flatP, List.flatMap_cons, List.flatMap_nil, List.append_nil] at hj
    simpa [World.cell?, g0, cP] using hj⟩
  have hcat : catPTo (fun j => if j = 0 then q1 else if j = 1 then [e] else q3) 3 = q1 ++ [e] ++ q3 := by simp [catPTo]
  refine (concatP_any (w.heap.size + 1) 3 3 (fun j => if j = 0 then x1 else if j = 1 then some ⟨w.heap.size, 0, none⟩ else x3) (fun j => if j = 0 then n1 else if j = 1 then 1 else n3) (fun j => if j = 0 then c1 else if j = 1 then 1 else c3) (fun j => if j = 0 then q1 else if j = 1 then [e] else q3) W (by omega) ?_ ?_ ?_ ?_).mono ?_
  · intro j hj
    rcases j with _ | _ | _ | j
    · simp [World.cell?, g1]
    · simp [World.cell?, g1]
    · simp [World.cell?, g1]
    · omega
  · intro j hj
    rcases j with _ | _ | _ | j
    · simpa using h1.later hB
    · simpa using hp2
    · simpa using h3.later hB
    · omega
  · intro j hj
    rcases j with _ | _ | _ | j
    · simpa using b1
    · simp
    · simpa using b3
    · omega
  · intro j hj
    rcases j with _ | _ | _ | j
    · simpa using z1
    · simp
    · simpa using z3
    · omega
  · rintro r w' ⟨v, rfl, hb, hown⟩
    rw [hcat, hs] at hown
    exact ⟨v, rfl, hB.trans (hb.mono (by omega)), hown⟩
/-- What Put answers: it stands ahead of the first one whose number is greater. -/
def PutPPost (e : Po) (n : Nat) (ps : List Po) (w : World) (r : Ending) (w' : World) : Prop :=
  ∃ v, r = .returned v ∧ Below w.heap.size w w' ∧ ∃ i, i ≤ n ∧ (∀ j, j < i → ¬ e.id < (poAt ps j).id) ∧ (i < n → e.id < (poAt ps i).id) ∧ OwnP w' w.heap.size v (ps.take i ++ [e] ++ ps.drop i)

set_option maxRecDepth 20000 in
set_option maxHeartbeats 1600000 in
theorem putP_any (e : Po) (x : Option Addr) (n c : Nat) (ps : List Po) (bf k : Nat) (w : World) (hp : PoS w x n ps) (hn : n ≤ 32) (hnc : n ≤ c) (hc63 : c ≤ 9223372036854775807) (hx : (x = none ∧ c = 0) ∨ ∃ b o, x = some ⟨b, o, none⟩)
    (hby : w.cell? ⟨bf, 0, none⟩ = some (.func (.func 59) #[] #[])) :
    Calls Tryz.prog 58 #[.slice x n c, .agg #[.int .i64 e.id, .int .i64 e.up, .int .i64 e.a, .int .i64 e.l, .int .i64 e.mn, .int .i64 e.mx, .int .i64 e.us, .int .i64 e.co, .slice e.x e.n e.c], .slice (some ⟨bf, 0, none⟩) 1 k] w (PutPPost e n ps w) := by
  have hB2 := bl2 w (.cells #[.int .i64 e.id, .int .i64 e.up, .int .i64 e.a, .int .i64 e.l, .int .i64 e.mn, .int .i64 e.mx, .int .i64 e.us, .int .i64 e.co, .slice e.x e.n e.c] 49) (.cells #[.slice (some ⟨bf, 0, none⟩) 1 k] 103)
  go_enter Tryz.func58, Tryz.ntmps58
  go_wp2_with fail
  have hF : FnPoAt 83 #[.pointer (some ⟨w.heap.size, 0, none⟩), .pointer (some ⟨w.heap.size + 1, 0, none⟩)] n ps (fun i => decide (e.id < (poAt ps i).id)) ((w.alloc (.cells #[.int .i64 e.id, .int .i64 e.up, .int .i64 e.a, .int .i64 e.l, .int .i64 e.mn, .int .i64 e.mx, .int .i64 e.us, .int .i64 e.co, .slice e.x e.n e.c] 49)).alloc (.cells #[.slice (some ⟨bf, 0, none⟩) 1 k] 103)) := fun i hi W hW =>
    put1P_any e (poAt ps i) w.heap.size (w.heap.size + 1) bf k W (cell_later hW (by simp)) (cell_later hW (by simp)) (cell_later hW (by simp)) (cell_later hW (by simp)) (cell_later hW (by simp)) (cell_later hW (by simp)) (cell_later hW (by simp)) (cell_later hW (by simp)) (cell_later hW (by simp)) (cell_later hW (by simp)) (cell_later hW (cell_later hB2 hby))
  refine (indexFuncPo_any _ _ x n c ps _ _ (hp.later hB2) (by omega) hF call_put1P).mono ?_
  rintro e' w1 ⟨⟨r, rfl, hr⟩, hb1⟩
  have hB := hB2.trans (hb1.mono (by simp; omega))
  have e0 : w1.cell? ⟨w.heap.size, 0, none⟩ = some (.int .i64 e.id) := (hb1.cell (p := ⟨w.heap.size, 0, none⟩) (by show w.heap.size < _; simp; omega)).trans (by simp)
  have e1 : w1.cell? ⟨w.heap.size, 1, none⟩ = some (.int .i64 e.up) := (hb1.cell (p := ⟨w.heap.size, 1, none⟩) (by show w.heap.size < _; simp; omega)).trans (by simp)
  have e2 : w1.cell? ⟨w.heap.size, 2, none⟩ = some (.int .i64 e.a) := (hb1.cell (p := ⟨w.heap.size, 2, none⟩) (by show w.heap.size < _; simp; omega)).trans (by simp)
  have e3 : w1.cell? ⟨w.heap.size, 3, none⟩ = some (.int .i64 e.l) := (hb1.cell (p := ⟨w.heap.size, 3, none⟩) (by show w.heap.size < _; simp; omega)).trans (by simp)
  have e4 : w1.cell? ⟨w.heap.size, 4, none⟩ = some (.int .i64 e.mn) := (hb1.cell (p := ⟨w.heap.size, 4, none⟩) (by show w.heap.size < _; simp; omega)).trans (by simp)
  have e5 : w1.cell? ⟨w.heap.size, 5, none⟩ = some (.int .i64 e.mx) := (hb1.cell (p := ⟨w.heap.size, 5, none⟩) (by show w.heap.size < _; simp; omega)).trans (by simp)
  have e6 : w1.cell? ⟨w.heap.size, 6, none⟩ = some (.int .i64 e.us) := (hb1.cell (p := ⟨w.heap.size, 6, none⟩) (by show w.heap.size < _; simp; omega)).trans (by simp)
  have e7 : w1.cell? ⟨w.heap.size, 7, none⟩ = some (.int .i64 e.co) := (hb1.cell (p := ⟨w.heap.size, 7, none⟩) (by show w.heap.size < _; simp; omega)).trans (by simp)
  have e8 : w1.cell? ⟨w.heap.size, 8, none⟩ = some (.slice e.x e.n e.c) := (hb1.cell (p := ⟨w.heap.size, 8, none⟩) (by show w.heap.size < _; simp; omega)).trans (by simp)
  have hi : ∃ i : Nat, i ≤ n ∧ (∀ j, j < i → ¬ e.id < (poAt ps j).id) ∧ (i < n → e.id < (poAt ps i).id) ∧ ((r = i ∧ ¬ r < 0) ∨ (r = -1 ∧ i = n)) := by
    rcases hr with ⟨i, hi, hf, hno, rfl⟩ | ⟨hno, rfl⟩
    · exact ⟨i, by omega, fun j hj => by have := hno j hj; simpa using this, fun _ => by simpa using hf, .inl ⟨rfl, by omega⟩⟩
    · exact ⟨n, by omega, fun j hj => by have := hno j hj; simpa using this, fun h => by omega, .inr ⟨rfl, rfl⟩⟩
  obtain ⟨i, hin, hlow, hup, hri⟩ := hi
  have hrun := hp.run
  rcases hx with ⟨rfl, rfl⟩ | ⟨b, o, rfl⟩
  · obtain rfl : n = 0 := by omega
    obtain rfl : i = 0 := by omega
    have hps0 := List.eq_nil_of_length_eq_zero hp.len
    rcases hri with ⟨rfl, hneg⟩ | ⟨rfl, hi2⟩
    · go_wp2_with fail
      have hpw := hrun.later hB
      go_region_held3 (fun w' => w'.cell? ⟨w.heap.size, 0, none⟩ = some (.int .i64 e.id) ∧ w'.cell? ⟨w.heap.size, 1, none⟩ = some (.int .i64 e.up) ∧ w'.cell? ⟨w.heap.size, 2, none⟩ = some (.int .i64 e.a) ∧ w'.cell? ⟨w.heap.size, 3, none⟩ = some (.int .i64 e.l) ∧ w'.cell? ⟨w.heap.size, 4, none⟩ = some (.int .i64 e.mn) ∧ w'.cell? ⟨w.heap.size, 5, none⟩ = some (.int .i64 e.mx) ∧ w'.cell? ⟨w.heap.size, 6, none⟩ = some (.int .i64 e.us) ∧ w'.cell? ⟨w.heap.size, 7, none⟩ = some (.int .i64 e.co) ∧ w'.cell? ⟨w.heap.size, 8, none⟩ = some (.slice e.x e.n e.c)) (first | (go_keep; done) | (exact ⟨cell_later (bl1 _ _) (by assumption), cell_later (bl1 _ _) (by assumption), cell_later (bl1 _ _) (by assumption), cell_later (bl1 _ _) (by assumption), cell_later (bl1 _ _) (by assumption), cell_later (bl1 _ _) (by assumption), cell_later (bl1 _ _) (by assumption), cell_later (bl1 _ _) (by assumption), cell_later (bl1 _ _) (by assumption)⟩) | (exact ⟨cell_later hb2 e0, cell_later hb2 e1, cell_later hb2 e2, cell_later hb2 e3, cell_later hb2 e4, cell_later hb2 e5, cell_later hb2 e6, cell_later hb2 e7, cell_later hb2 e8⟩)) (first | (go_at_call 85; refine (concatP3 none none 0 0 0 0 [] [] e w1 (RunP.empty _ _) (RunP.empty _ _) (by omega) (by omega) (fun _ => ⟨rfl, rfl⟩) (fun _ => ⟨rfl, rfl⟩)).mono ?_; rintro e' w2 ⟨v2, rfl, hb2, hps⟩) | fail)
      all_goals go_wp2
      all_goals go_ret
      all_goals unfold PutPPost
      all_goals exact ⟨_, rfl, hB.trans (hb2.mono hB.size), 0, by omega, fun j hj => by omega, fun h => by omega, by rw [hps0]; exact OwnP.low hps (by have := hB.size; omega)⟩
    · go_wp2_with fail
      have hpw := hrun.later hB
      go_region_held3 (fun w' => w'.cell? ⟨w.heap.size, 0, none⟩ = some (.int .i64 e.id) ∧ w'.cell? ⟨w.heap.size, 1, none⟩ = some (.int .i64 e.up) ∧ w'.cell? ⟨w.heap.size, 2, none⟩ = some (.int .i64 e.a) ∧ w'.cell? ⟨w.heap.size, 3, none⟩ = some (.int .i64 e.l) ∧ w'.cell? ⟨w.heap.size, 4, none⟩ = some (.int .i64 e.mn) ∧ w'.cell? ⟨w.heap.size, 5, none⟩ = some (.int .i64 e.mx) ∧ w'.cell? ⟨w.heap.size, 6, none⟩ = some (.int .i64 e.us) ∧ w'.cell? ⟨w.heap.size, 7, none⟩ = some (.int .i64 e.co) ∧ w'.cell? ⟨w.heap.size, 8, none⟩ = some (.slice e.x e.n e.c)) (first | (go_keep; done) | (exact ⟨cell_later (bl1 _ _) (by assumption), cell_later (bl1 _ _) (by assumption), cell_later (bl1 _ _) (by assumption), cell_later (bl1 _ _) (by assumption), cell_later (bl1 _ _) (by assumption), cell_later (bl1 _ _) (by assumption), cell_later (bl1 _ _) (by assumption), cell_later (bl1 _ _) (by assumption), cell_later (bl1 _ _) (by assumption)⟩) | (exact ⟨cell_later hb2 e0, cell_later hb2 e1, cell_later hb2 e2, cell_later hb2 e3, cell_later hb2 e4, cell_later hb2 e5, cell_later hb2 e6, cell_later hb2 e7, cell_later hb2 e8⟩)) (first | (go_at_call 85; refine (concatP3 none none 0 0 0 0 [] [] e w1 (RunP.empty _ _) (RunP.empty _ _) (by omega) (by omega) (fun _ => ⟨rfl, rfl⟩) (fun _ => ⟨rfl, rfl⟩)).mono ?_; rintro e' w2 ⟨v2, rfl, hb2, hps⟩) | fail)
      all_goals go_wp2
      all_goals go_ret
      all_goals unfold PutPPost
      all_goals exact ⟨_, rfl, hB.trans (hb2.mono hB.size), 0, by omega, fun j hj => by omega, fun h => by omega, by rw [hps0]; exact OwnP.low hps (by have := hB.size; omega)⟩
  · rcases hri with ⟨rfl, hneg⟩ | ⟨rfl, hi2⟩
    · go_wp2_with fail
      have hic : i ≤ c := by omega
      have hpw := hrun.later hB
      go_region_held3 (fun w' => w'.cell? ⟨w.heap.size, 0, none⟩ = some (.int .i64 e.id) ∧ w'.cell? ⟨w.heap.size, 1, none⟩ = some (.int .i64 e.up) ∧ w'.cell? ⟨w.heap.size, 2, none⟩ = some (.int .i64 e.a) ∧ w'.cell? ⟨w.heap.size, 3, none⟩ = some (.int .i64 e.l) ∧ w'.cell? ⟨w.heap.size, 4, none⟩ = some (.int .i64 e.mn) ∧ w'.cell? ⟨w.heap.size, 5, none⟩ = some (.int .i64 e.mx) ∧ w'.cell? ⟨w.heap.size, 6, none⟩ = some (.int .i64 e.us) ∧ w'.cell? ⟨w.heap.size, 7, none⟩ = some (.int .i64 e.co) ∧ w'.cell? ⟨w.heap.size, 8, none⟩ = some (.slice e.x e.n e.c)) (first | (go_keep; done) | (exact ⟨cell_later (bl1 _ _) (by assumption), cell_later (bl1 _ _) (by assumption), cell_later (bl1 _ _) (by assumption), cell_later (bl1 _ _) (by assumption), cell_later (bl1 _ _) (by assumption), cell_later (bl1 _ _) (by assumption), cell_later (bl1 _ _) (by assumption), cell_later (bl1 _ _) (by assumption), cell_later (bl1 _ _) (by assumption)⟩) | (exact ⟨cell_later hb2 e0, cell_later hb2 e1, cell_later hb2 e2, cell_later hb2 e3, cell_later hb2 e4, cell_later hb2 e5, cell_later hb2 e6, cell_later hb2 e7, cell_later hb2 e8⟩)) (first | (go_at_call 85; refine (concatP3 (some ⟨b, o, none⟩) (if c = i then some ⟨b, o, none⟩ else some ⟨b, o + i * 9, none⟩) i c (n - i) (c - i) (ps.take i) (ps.drop i) e w1 (hpw.take (by omega)) (hpw.drop (by omega) hnc) (by omega) (by omega) (fun h => by cases h) (fun h => by split at h <;> cases h)).mono ?_; rintro e' w2 ⟨v2, rfl, hb2, hps⟩) | fail)
      all_goals go_wp2
      all_goals go_ret
      all_goals unfold PutPPost
      all_goals exact ⟨_, rfl, hB.trans (hb2.mono hB.size), i, by omega, fun j hj => by have := hlow j hj; omega, hup, OwnP.low hps (by have := hB.size; omega)⟩
    · have hi3 := hi2.symm
      subst hi3
      clear hi2
      by_cases hcn : n = c
      · subst hcn
        go_wp2_with fail
        have hpw := hrun.later hB
        go_region_held3 (fun w' => w'.cell? ⟨w.heap.size, 0, none⟩ = some (.int .i64 e.id) ∧ w'.cell? ⟨w.heap.size, 1, none⟩ = some (.int .i64 e.up) ∧ w'.cell? ⟨w.heap.size, 2, none⟩ = some (.int .i64 e.a) ∧ w'.cell? ⟨w.heap.size, 3, none⟩ = some (.int .i64 e.l) ∧ w'.cell? ⟨w.heap.size, 4, none⟩ = some (.int .i64 e.mn) ∧ w'.cell? ⟨w.heap.size, 5, none⟩ = some (.int .i64 e.mx) ∧ w'.cell? ⟨w.heap.size, 6, none⟩ = some (.int .i64 e.us) ∧ w'.cell? ⟨w.heap.size, 7, none⟩ = some (.int .i64 e.co) ∧ w'.cell? ⟨w.heap.size, 8, none⟩ = some (.slice e.x e.n e.c)) (first | (go_keep; done) | (exact ⟨cell_later (bl1 _ _) (by assumption), cell_later (bl1 _ _) (by assumption), cell_later (bl1 _ _) (by assumption), cell_later (bl1 _ _) (by assumption), cell_later (bl1 _ _) (by assumption), cell_later (bl1 _ _) (by assumption), cell_later (bl1 _ _) (by assumption), cell_later (bl1 _ _) (by assumption), cell_later (bl1 _ _) (by assumption)⟩) | (exact ⟨cell_later hb2 e0, cell_later hb2 e1, cell_later hb2 e2, cell_later hb2 e3, cell_later hb2 e4, cell_later hb2 e5, cell_later hb2 e6, cell_later hb2 e7, cell_later hb2 e8⟩)) (first | (go_at_call 85; refine (concatP3 (some ⟨b, o, none⟩) (some ⟨b, o, none⟩) n n 0 0 ps [] e w1 hpw (RunP.empty _ _) (by omega) (by omega) (fun h => by cases h) (fun h => by cases h)).mono ?_; rintro e' w2 ⟨v2, rfl, hb2, hps⟩) | fail)
        all_goals go_wp2
        all_goals go_ret
        all_goals unfold PutPPost
        all_goals exact ⟨_, rfl, hB.trans (hb2.mono hB.size), n, by omega, fun j hj => by have := hlow j hj; omega, fun h => by omega, by rw [List.take_of_length_le (by rw [hp.len]; omega), List.drop_eq_nil_of_le (by rw [hp.len]; omega)]; exact OwnP.low hps (by have := hB.size; omega)⟩
      · have hcn' : ¬ c = n := fun h => hcn h.symm
        go_wp2_with fail
        have hpw := hrun.later hB
        go_region_held3 (fun w' => w'.cell? ⟨w.heap.size, 0, none⟩ = some (.int .i64 e.id) ∧ w'.cell? ⟨w.heap.size, 1, none⟩ = some (.int .i64 e.up) ∧ w'.cell? ⟨w.heap.size, 2, none⟩ = some (.int .i64 e.a) ∧ w'.cell? ⟨w.heap.size, 3, none⟩ = some (.int .i64 e.l) ∧ w'.cell? ⟨w.heap.size, 4, none⟩ = some (.int .i64 e.mn) ∧ w'.cell? ⟨w.heap.size, 5, none⟩ = some (.int .i64 e.mx) ∧ w'.cell? ⟨w.heap.size, 6, none⟩ = some (.int .i64 e.us) ∧ w'.cell? ⟨w.heap.size, 7, none⟩ = some (.int .i64 e.co) ∧ w'.cell? ⟨w.heap.size, 8, none⟩ = some (.slice e.x e.n e.c)) (first | (go_keep; done) | (exact ⟨cell_later (bl1 _ _) (by assumption), cell_later (bl1 _ _) (by assumption), cell_later (bl1 _ _) (by assumption), cell_later (bl1 _ _) (by assumption), cell_later (bl1 _ _) (by assumption), cell_later (bl1 _ _) (by assumption), cell_later (bl1 _ _) (by assumption), cell_later (bl1 _ _) (by assumption), cell_later (bl1 _ _) (by assumption)⟩) | (exact ⟨cell_later hb2 e0, cell_later hb2 e1, cell_later hb2 e2, cell_later hb2 e3, cell_later hb2 e4, cell_later hb2 e5, cell_later hb2 e6, cell_later hb2 e7, cell_later hb2 e8⟩)) (first | (go_at_call 85; refine (concatP3 (some ⟨b, o, none⟩) (some ⟨b, o + n * 9, none⟩) n c 0 (c - n) ps [] e w1 hpw (RunP.empty _ _) (by omega) (by omega) (fun h => by cases h) (fun h => by cases h)).mono ?_; rintro e' w2 ⟨v2, rfl, hb2, hps⟩) | fail)
        all_goals go_wp2
        all_goals go_ret
        all_goals unfold PutPPost
        all_goals exact ⟨_, rfl, hB.trans (hb2.mono hB.size), n, by omega, fun j hj => by have := hlow j hj; omega, fun h => by omega, by rw [List.take_of_length_le (by rw [hp.len]; omega), List.drop_eq_nil_of_le (by rw [hp.len]; omega)]; exact OwnP.low hps (by have := hB.size; omega)⟩
end Go.Proofs.YtpdoonkhnabfjaaGreat
/- What Take of package pool comes to. -/
namespace Go.Proofs.YtpdoonkhnabfjaaGreat
open Go.RowKit Go.Shelf

/-- A book, and room for a book and a prefix, at the end of the memory that was. -/
structure TB (w W : World) (t : Int) (v : Value) : Prop where
  hb : W.heap[w.heap.size]? = some (bkV t v)
  hs : W.heap[w.heap.size + 1]? = some (bkV 0 (.slice none 0 0))
  hr : W.heap[w.heap.size + 2]? = some (.cells #[.int .i64 0, .int .i64 0] 26)
  below : Below w.heap.size w W
theorem TB.later {w W W' : World} {t : Int} {v : Value} (h : TB w W t v) (hb : Below W.heap.size W W') : TB w W' t v :=
  ⟨heap_later hb h.hb, heap_later hb h.hs, heap_later hb h.hr, h.below.trans (hb.mono h.below.size)⟩
theorem TB.fin {w W : World} {t : Int} {v : Value} (h : TB w W t v) (a b c d : Value) : Below w.heap.size w ((((W.setCell ⟨w.heap.size + 1, 0, none⟩ a).setCell ⟨w.heap.size + 1, 1, none⟩ b).setCell ⟨w.heap.size + 2, 0, none⟩ c).setCell ⟨w.heap.size + 2, 1, none⟩ d) :=
  (((h.below.setCell (p := ⟨w.heap.size + 1, 0, none⟩) (Nat.le_succ _) _).setCell (p := ⟨w.heap.size + 1, 1, none⟩) (Nat.le_succ _) _).setCell (p := ⟨w.heap.size + 2, 0, none⟩) (Nat.le_add_right _ _) _).setCell (p := ⟨w.heap.size + 2, 1, none⟩) (Nat.le_add_right _ _) _
theorem chk_len {t : Int} {ps : List Po} (h : chkB t ps = 0) : ps.length ≤ 8 := by
  unfold chkB at h
  by_cases h8 : 8 < ps.length
  · rw [if_pos h8] at h; cases h
  · omega
theorem pfit_len {p : Po} {z : Int} (h : pfitE p z = 0) : p.n ≤ 31 := by
  unfold pfitE at h
  split at h
  · cases h
  · cases hq : pfitS p z with
    | none => rw [hq] at h; cases h
    | some y =>
      unfold pfitS at hq
      split at hq
      · cases hq
      · rename_i h32
        unfold fitS at hq
        split at hq
        · rename_i he
          unfold fitE at he
          split at he
          · rename_i hc
            have := (chkS_ok hc).1
            omega
          · rename_i hc
            exact absurd he hc
        · cases hq
theorem box_grown {W W' : World} {g k : Nat} {o : Obj} (hg : W.grownBy W' (some g)) (h : W.heap[k]? = some o) (hne : k ≠ g) : W'.heap[k]? = some o :=
  (hg.block k (Array.getElem?_eq_some_iff.1 h).1 (fun e => hne (by simpa using e))).trans h
theorem block_ne {W : World} {g k : Nat} {cs ds : Array Value} {t u : TypeId} (hg : W.heap[g]? = some (.cells cs t)) (hk : W.heap[k]? = some (.cells ds u)) (ht : t ≠ u) : k ≠ g := fun e => by
  rw [e, hg] at hk
  simp only [Option.some.injEq, Obj.cells.injEq] at hk
  exact ht hk.2.1
theorem TB.grown {w W W' : World} {t : Int} {v : Value} {g : Nat} {cs : Array Value} (h : TB w W t v) (hg : W.grownBy W' (some g)) (hc : W.heap[g]? = some (.cells cs 49)) (hw : w.heap.size ≤ g) : TB w W' t v :=
  ⟨box_grown hg h.hb (block_ne hc h.hb (by decide)), box_grown hg h.hs (block_ne hc h.hs (by decide)), box_grown hg h.hr (block_ne hc h.hr (by decide)), h.below.grown hg h.below.size (fun k e => by cases e; exact hw)⟩
/-- The size that is asked for. -/
def sizeZ (p : Po) (z : Int) : Int := if z = 0 then p.us else z
def takeE (t : Int) (ps : List Po) (id z ow : Int) : Int :=
  if chkB t ps ≠ 0 then chkB t ps else if atId ps id < 0 then 5 else if wth ow 1 65536 = false then 3 else pfitE (poAt ps (atId ps id).toNat) (sizeZ (poAt ps (atId ps id).toNat) z)
def TakePost (t : Int) (ps : List Po) (id z ow : Int) (w : World) (r : Ending) (w' : World) : Prop :=
  ∃ v rs t' a l, r = .returned (.tuple #[.agg #[.int .i64 t', v], .agg #[.int .i64 a, .int .i64 l], .int .i64 (takeE t ps id z ow)]) ∧ Below w.heap.size w w' ∧ OBk w' w.heap.size v rs rs.length ∧
    (takeE t ps id z ow ≠ 0 → t' = 0 ∧ rs = [] ∧ a = 0 ∧ l = 0) ∧
    (takeE t ps id z ow = 0 → t' = t ∧ (a, l) = pfitO (poAt ps (atId ps id).toNat) (sizeZ (poAt ps (atId ps id).toNat) z) ∧
      ∃ qs x' c' ls', sameB ps qs ∧ PutLe ⟨a, l, 1, ow, 0⟩ (poAt ps (atId ps id).toNat).ls ls' ∧ rs = qs.set (atId ps id).toNat (withL (poAt qs (atId ps id).toNat) x' ls'.length c' ls'))
theorem OBk.nil (w : World) (base : Nat) : OBk w base (.slice none 0 0) [] 0 :=
  ⟨World.ownsRow_nil _ _ _ _, fun i hi => by omega, fun i _ hi => by simp at hi, fun i j hi => by omega⟩
theorem TakePost.err {t : Int} {ps : List Po} {id z ow E : Int} {w w' : World} (hE : takeE t ps id z ow = E ∧ E ≠ 0) (hb : Below w.heap.size w w') :
    TakePost t ps id z ow w (.returned (.tuple #[.agg #[.int .i64 0, .slice none 0 0], .agg #[.int .i64 0, .int .i64 0], .int .i64 E])) w' :=
  ⟨_, [], 0, 0, 0, by rw [hE.1], hb, OBk.nil _ _, fun _ => ⟨rfl, rfl, rfl, rfl⟩, fun h => absurd (hE.1.symm.trans h) hE.2⟩

set_option maxRecDepth 100000 in
set_option maxHeartbeats 1600000 in
theorem take_any (t : Int) (x : Option Addr) (n c : Nat) (ps : List Po) (id z ow : Int) (w : World) (hk : Bk w x n c ps) :
    Calls Tryz.prog 13 #[.agg #[.int .i64 t, .slice x n c], .int .i64 id, .int .i64 z, .int .i64 ow] w (TakePost t ps id z ow w) := by
  have hpl : Hid (ps.length = n) := hk.ps.len
  go_enter Tryz.func13, Tryz.ntmps13
  go_upto_region 1 with fail
  obtain ⟨w0, hw0⟩ : ∃ w0, w0 = ((w.alloc (bkV t (.slice x n c))).alloc (bkV 0 (.slice none 0 0))).alloc (.cells #[.int .i64 0, .int .i64 0] 26) := ⟨_, rfl⟩
  rw [← hw0]
  have hT0 : TB w w0 t (.slice x n c) := by
    rw [hw0]
    exact ⟨heap_old _ (heap_old _ (heap_new _ rfl)), heap_old _ (heap_new _ (by simp)), heap_new _ (by simp), (bl2 w _ _).alloc (by simp; omega) _⟩
  clear hw0
  have b0 : w0.cell? ⟨w.heap.size, 0, none⟩ = some (.int .i64 t) := (box_cells hT0.hb).1 0
  have b1 : w0.cell? ⟨w.heap.size, 1, none⟩ = some (.slice x n c) := (box_cells hT0.hb).1 1
  have s0 : w0.cell? ⟨w.heap.size + 1, 0, none⟩ = some (.int .i64 0) := (box_cells hT0.hs).1 0
  have s1 : w0.cell? ⟨w.heap.size + 1, 1, none⟩ = some (.slice none 0 0) := (box_cells hT0.hs).1 1
  have r0 : w0.cell? ⟨w.heap.size + 2, 0, none⟩ = some (.int .i64 0) := (box_cells hT0.hr).1 0
  have r1 : w0.cell? ⟨w.heap.size + 2, 1, none⟩ = some (.int .i64 0) := (box_cells hT0.hr).1 1
  have zs0 : w0.frozen? ⟨w.heap.size + 1, 0, none⟩ = false := (box_cells hT0.hs).2 0
  have zs1 : w0.frozen? ⟨w.heap.size + 1, 1, none⟩ = false := (box_cells hT0.hs).2 1
  have zr0 : w0.frozen? ⟨w.heap.size + 2, 0, none⟩ = false := (box_cells hT0.hr).2 0
  have zr1 : w0.frozen? ⟨w.heap.size + 2, 1, none⟩ = false := (box_cells hT0.hr).2 1
  have hck := checkB_any t x n c ps w0 (hk.later hT0.below)
  by_cases hc0 : chkB t ps = 0
  · rw [hc0] at hck
    go_wp2_with fail
    refine hck.mono ?_
    rintro e w1 ⟨rfl, hb1⟩
    have hT1 := hT0.later hb1
    have hn8 : n ≤ 8 := by rw [← hpl.out]; exact chk_len hc0
    have hk1 := hk.later hT1.below
    have hpc := place_any t id x n c ps w1 hk1.ps (by omega)
    clear b0 b1 s0 s1 r0 r1 zs0 zs1 zr0 zr1 hck hb1
    have b0 : w1.cell? ⟨w.heap.size, 0, none⟩ = some (.int .i64 t) := (box_cells hT1.hb).1 0
    have b1 : w1.cell? ⟨w.heap.size, 1, none⟩ = some (.slice x n c) := (box_cells hT1.hb).1 1
    have s0 : w1.cell? ⟨w.heap.size + 1, 0, none⟩ = some (.int .i64 0) := (box_cells hT1.hs).1 0
    have s1 : w1.cell? ⟨w.heap.size + 1, 1, none⟩ = some (.slice none 0 0) := (box_cells hT1.hs).1 1
    have r0 : w1.cell? ⟨w.heap.size + 2, 0, none⟩ = some (.int .i64 0) := (box_cells hT1.hr).1 0
    have r1 : w1.cell? ⟨w.heap.size + 2, 1, none⟩ = some (.int .i64 0) := (box_cells hT1.hr).1 1
    have zs0 : w1.frozen? ⟨w.heap.size + 1, 0, none⟩ = false := (box_cells hT1.hs).2 0
    have zs1 : w1.frozen? ⟨w.heap.size + 1, 1, none⟩ = false := (box_cells hT1.hs).2 1
    have zr0 : w1.frozen? ⟨w.heap.size + 2, 0, none⟩ = false := (box_cells hT1.hr).2 0
    have zr1 : w1.frozen? ⟨w.heap.size + 2, 1, none⟩ = false := (box_cells hT1.hr).2 1
    by_cases hat : atId ps id < 0
    · have hne : takeE t ps id z ow = 5 ∧ (5 : Int) ≠ 0 := ⟨by unfold takeE; rw [if_neg (by simp [hc0]), if_pos hat], by decide⟩
      go_wp2_with fail
      refine hpc.mono ?_
      rintro e w2 ⟨rfl, hb2⟩
      have hT2 := hT1.later hb2
      clear b0 b1 s0 s1 r0 r1 zs0 zs1 zr0 zr1 hb2
      have b0 : w2.cell? ⟨w.heap.size, 0, none⟩ = some (.int .i64 t) := (box_cells hT2.hb).1 0
      have b1 : w2.cell? ⟨w.heap.size, 1, none⟩ = some (.slice x n c) := (box_cells hT2.hb).1 1
      have s0 : w2.cell? ⟨w.heap.size + 1, 0, none⟩ = some (.int .i64 0) := (box_cells hT2.hs).1 0
      have s1 : w2.cell? ⟨w.heap.size + 1, 1, none⟩ = some (.slice none 0 0) := (box_cells hT2.hs).1 1
      have r0 : w2.cell? ⟨w.heap.size + 2, 0, none⟩ = some (.int .i64 0) := (box_cells hT2.hr).1 0
      have r1 : w2.cell? ⟨w.heap.size + 2, 1, none⟩ = some (.int .i64 0) := (box_cells hT2.hr).1 1
      have zs0 : w2.frozen? ⟨w.heap.size + 1, 0, none⟩ = false := (box_cells hT2.hs).2 0
      have zs1 : w2.frozen? ⟨w.heap.size + 1, 1, none⟩ = false := (box_cells hT2.hs).2 1
      have zr0 : w2.frozen? ⟨w.heap.size + 2, 0, none⟩ = false := (box_cells hT2.hr).2 0
      have zr1 : w2.frozen? ⟨w.heap.size + 2, 1, none⟩ = false := (box_cells hT2.hr).2 1
      go_wp2
      refine bodyPost_ret (v := .tuple #[.agg #[.int .i64 0, .slice none 0 0], .agg #[.int .i64 0, .int .i64 0], .int .i64 5]) (by simp [results, Tryz.results13, go_sem, s0, s1, r0, r1]) rfl ?_
      exact TakePost.err hne (hT2.fin _ _ _ _)
    · have hE1 : takeE t ps id z ow = if wth ow 1 65536 = false then 3 else pfitE (poAt ps (atId ps id).toNat) (sizeZ (poAt ps (atId ps id).toNat) z) := by unfold takeE; rw [if_neg (by simp [hc0]), if_neg hat]
      obtain ⟨i, hi, hati, -⟩ := atId_range hat
      rw [hpl.out] at hi
      have hto : (atId ps id).toNat = i := by rw [hati]; rfl
      rw [hto] at hE1
      rw [hati] at hpc
      go_wp2_with fail
      refine hpc.mono ?_
      rintro e w2 ⟨rfl, hb2⟩
      have hT2 := hT1.later hb2
      have hneg : ¬ ((i : Int) < 0) := by omega
      clear b0 b1 s0 s1 r0 r1 zs0 zs1 zr0 zr1 hb2
      have b0 : w2.cell? ⟨w.heap.size, 0, none⟩ = some (.int .i64 t) := (box_cells hT2.hb).1 0
      have b1 : w2.cell? ⟨w.heap.size, 1, none⟩ = some (.slice x n c) := (box_cells hT2.hb).1 1
      have s0 : w2.cell? ⟨w.heap.size + 1, 0, none⟩ = some (.int .i64 0) := (box_cells hT2.hs).1 0
      have s1 : w2.cell? ⟨w.heap.size + 1, 1, none⟩ = some (.slice none 0 0) := (box_cells hT2.hs).1 1
      have r0 : w2.cell? ⟨w.heap.size + 2, 0, none⟩ = some (.int .i64 0) := (box_cells hT2.hr).1 0
      have r1 : w2.cell? ⟨w.heap.size + 2, 1, none⟩ = some (.int .i64 0) := (box_cells hT2.hr).1 1
      have zs0 : w2.frozen? ⟨w.heap.size + 1, 0, none⟩ = false := (box_cells hT2.hs).2 0
      have zs1 : w2.frozen? ⟨w.heap.size + 1, 1, none⟩ = false := (box_cells hT2.hs).2 1
      have zr0 : w2.frozen? ⟨w.heap.size + 2, 0, none⟩ = false := (box_cells hT2.hr).2 0
      have zr1 : w2.frozen? ⟨w.heap.size + 2, 1, none⟩ = false := (box_cells hT2.hr).2 1
      cases how : wth ow 1 65536 with
      | false =>
        have hne : takeE t ps id z ow = 3 ∧ (3 : Int) ≠ 0 := ⟨by rw [hE1, if_pos how], by decide⟩
        go_wp2_with fail
        refine (isId_is ow false how _).mono ?_
        rintro e w3 ⟨rfl, rfl⟩
        go_wp2
        refine bodyPost_ret (v := .tuple #[.agg #[.int .i64 0, .slice none 0 0], .agg #[.int .i64 0, .int .i64 0], .int .i64 3]) (by simp [results, Tryz.results13, go_sem, s0, s1, r0, r1]) rfl ?_
        exact TakePost.err hne (hT2.fin _ _ _ _)
      | true =>
        rw [if_neg (by simp [how])] at hE1
        go_wp2_with fail
        refine (isId_is ow true how _).mono ?_
        rintro e w2 ⟨rfl, rfl⟩
        have hk2 := hk.later hT2.below
        obtain ⟨b, o, rfl, c0, c1, c2, c3, c4, c5, c6, c7, c8⟩ := hk2.ps.cells i hi
        obtain ⟨hlc, hlm, hLS⟩ := hk2.ps.leases i hi
        have hi0 : (0 : Int) ≤ i := by omega
        have hin : (i : Int) < n := by omega
        obtain ⟨zz, hzz⟩ : ∃ zz, Hid (zz = sizeZ (poAt ps i) z) := ⟨_, rfl⟩
        rw [← hzz.out] at hE1
        go_upto_if 38 with fail
        go_cut [2] (fun s wc => s = .int .i64 zz ∧ wc = w2)
        case first =>
          by_cases hz : z = 0
          · have hz2 : (poAt ps i).us = zz := by rw [hzz.out]; unfold sizeZ; rw [if_pos hz]
            subst hz
            go_wp2
            go_meet
            case rel => exact ⟨by first | rfl | rw [hz2], rfl⟩
          · have hz2 : z = zz := by rw [hzz.out]; unfold sizeZ; rw [if_neg hz]
            go_wp2
            go_meet
            case rel => exact ⟨by first | rfl | rw [← hz2], rfl⟩
        case rest =>
          obtain ⟨rfl, rfl⟩ := hcut
          have hpf := pfit_any (poAt ps i) zz wc hLS hlm
          by_cases hpe : pfitE (poAt ps i) zz = 0
          · have hE0 : takeE t ps id z ow = 0 := hE1.trans hpe
            have hl31 := pfit_len hpe
            unfold PFitPost at hpf
            rw [hpe] at hpf
            obtain ⟨pA, hpA⟩ : ∃ pA, Hid (pA = (pfitO (poAt ps i) zz).1) := ⟨_, rfl⟩
            obtain ⟨pL, hpL⟩ : ∃ pL, Hid (pL = (pfitO (poAt ps i) zz).2) := ⟨_, rfl⟩
            rw [← hpA.out, ← hpL.out] at hpf
            go_wp2_with fail
            refine hpf.mono ?_
            rintro e w3 ⟨rfl, hb3⟩
            have hT3 := hT2.later hb3
            clear b0 b1 s0 s1 r0 r1 zs0 zs1 zr0 zr1 hb3 c0 c1 c2 c3 c4 c5 c6 c7 c8
            go_upto_region 12 with fail
            obtain ⟨w4, hw4⟩ : ∃ w4, w4 = w3.alloc (.cells #[.int .i64 pA, .int .i64 pL] 26) := ⟨_, rfl⟩
            rw [← hw4]
            have hT4 : TB w w4 t (.slice (some ⟨b, o, none⟩) n c) := by rw [hw4]; exact hT3.later (bl1 _ _)
            have hsz3 : w.heap.size + 2 < w3.heap.size := (Array.getElem?_eq_some_iff.1 hT3.hr).1
            have hp4 : w4.heap[w3.heap.size]? = some (.cells #[.int .i64 pA, .int .i64 pL] 26) := by rw [hw4]; exact heap_new _ rfl
            clear hw4 hT3
            have b0 : w4.cell? ⟨w.heap.size, 0, none⟩ = some (.int .i64 t) := (box_cells hT4.hb).1 0
            have b1 : w4.cell? ⟨w.heap.size, 1, none⟩ = some (.slice (some ⟨b, o, none⟩) n c) := (box_cells hT4.hb).1 1
            go_wp2_with fail
            refine (freshBook_any t (some ⟨b, o, none⟩) n c ps w4 (hk.later hT4.below) (by omega)).mono ?_
            rintro e w5 ⟨v5, qs, rfl, hs, hOB, hb5⟩
            have hql : i < qs.length := by rw [← hs.1, hpl.out]; exact hi
            rcases hOB.row.2 with ⟨-, h0⟩ | ⟨g, cap, cur, rfl, hg1, hg2, -⟩
            · omega
            clear b0 b1
            go_upto_region 15 with fail
            obtain ⟨w6, hw6⟩ : ∃ w6, w6 = w5.alloc (bkV t (.slice (some ⟨g, 0, none⟩) qs.length cap)) := ⟨_, rfl⟩
            rw [← hw6]
            have hT6 : TB w w6 t (.slice (some ⟨b, o, none⟩) n c) := by rw [hw6]; exact (hT4.later hb5).later (bl1 _ _)
            have hp6 : w6.heap[w3.heap.size]? = some (.cells #[.int .i64 pA, .int .i64 pL] 26) := by rw [hw6]; exact heap_old _ (heap_later hb5 hp4)
            have hn6 : w6.heap[w5.heap.size]? = some (bkV t (.slice (some ⟨g, 0, none⟩) qs.length cap)) := by rw [hw6]; exact heap_new _ rfl
            have hg6 : w6.heap[g]? = some (.cells cur 49) := by rw [hw6]; exact heap_old _ hg2
            have hOB6 : OBk w6.drew w4.heap.size (.slice (some ⟨g, 0, none⟩) qs.length cap) qs qs.length := by
              rw [hw6]
              exact hOB.later (bl1 _ _).drew
            have hs6 : w4.heap.size ≤ w6.drew.heap.size := by rw [hw6]; have := hb5.size; simp; omega
            clear hw6 hOB hb5 hg2 hp4
            have hsp := hs.2 i (by rw [hpl.out]; exact hi)
            have hqn : (poAt qs i).n ≤ 32 := by rw [← hsp.2.2.2.2.2.2.2.2.1]; omega
            have hql2 : (i : Int) < qs.length := by omega
            have m0 : w6.cell? ⟨w5.heap.size, 0, none⟩ = some (.int .i64 t) := (box_cells hn6).1 0
            have m1 : w6.cell? ⟨w5.heap.size, 1, none⟩ = some (.slice (some ⟨g, 0, none⟩) qs.length cap) := (box_cells hn6).1 1
            have p0 : w6.cell? ⟨w3.heap.size, 0, none⟩ = some (.int .i64 pA) := (box_cells hp6).1 0
            have p1 : w6.cell? ⟨w3.heap.size, 1, none⟩ = some (.int .i64 pL) := (box_cells hp6).1 1
            have hadd := addLease_any ⟨pA, pL, 1, ow, 0⟩ w4.heap.size g qs.length cap qs i w6.drew hOB6 hql hqn hs6
            go_region_with (go_at_call 24; refine hadd.mono ?_; rintro e w7 ⟨rfl, x', c', ls', hput, hOB7, hg7⟩)
            all_goals have hgd : w6.grownBy w7 (some g) := ⟨hg7.os, hg7.tape, hg7.output, hg7.size, hg7.block⟩
            all_goals have hT7 := hT6.grown hgd hg6 (Nat.le_trans hT4.below.size hg1)
            all_goals have hp7 := box_grown hgd hp6 (block_ne hg6 hp6 (by decide))
            all_goals have hn7 := box_grown hgd hn6 (block_ne hg6 hn6 (by decide))
            all_goals clear m0 m1 p0 p1 hadd
            all_goals have m0 : w7.cell? ⟨w5.heap.size, 0, none⟩ = some (.int .i64 t) := (box_cells hn7).1 0
            all_goals have m1 : w7.cell? ⟨w5.heap.size, 1, none⟩ = some (.slice (some ⟨g, 0, none⟩) qs.length cap) := (box_cells hn7).1 1
            all_goals have p0 : w7.cell? ⟨w3.heap.size, 0, none⟩ = some (.int .i64 pA) := (box_cells hp7).1 0
            all_goals have p1 : w7.cell? ⟨w3.heap.size, 1, none⟩ = some (.int .i64 pL) := (box_cells hp7).1 1
            all_goals have n1 : ¬ w3.heap.size = w.heap.size + 1 := by omega
            all_goals have n2 : ¬ w3.heap.size = w.heap.size + 1 + 1 := by omega
            all_goals have n3 : ¬ w3.heap.size = w.heap.size + 2 := by omega
            all_goals have hsz : w.heap.size + 2 < w4.heap.size := (Array.getElem?_eq_some_iff.1 hT4.hr).1
            all_goals have b0 : w7.cell? ⟨w.heap.size, 0, none⟩ = some (.int .i64 t) := (box_cells hT7.hb).1 0
            all_goals have b1 : w7.cell? ⟨w.heap.size, 1, none⟩ = some (.slice (some ⟨b, o, none⟩) n c) := (box_cells hT7.hb).1 1
            all_goals have s0 : w7.cell? ⟨w.heap.size + 1, 0, none⟩ = some (.int .i64 0) := (box_cells hT7.hs).1 0
            all_goals have s1 : w7.cell? ⟨w.heap.size + 1, 1, none⟩ = some (.slice none 0 0) := (box_cells hT7.hs).1 1
            all_goals have r0 : w7.cell? ⟨w.heap.size + 2, 0, none⟩ = some (.int .i64 0) := (box_cells hT7.hr).1 0
            all_goals have r1 : w7.cell? ⟨w.heap.size + 2, 1, none⟩ = some (.int .i64 0) := (box_cells hT7.hr).1 1
            all_goals have zs0 : w7.frozen? ⟨w.heap.size + 1, 0, none⟩ = false := (box_cells hT7.hs).2 0
            all_goals have zs1 : w7.frozen? ⟨w.heap.size + 1, 1, none⟩ = false := (box_cells hT7.hs).2 1
            all_goals have zr0 : w7.frozen? ⟨w.heap.size + 2, 0, none⟩ = false := (box_cells hT7.hr).2 0
            all_goals have zr1 : w7.frozen? ⟨w.heap.size + 2, 1, none⟩ = false := (box_cells hT7.hr).2 1
            all_goals go_wp2_with fail
            all_goals go_region_with fail
            all_goals go_wp2
            all_goals refine bodyPost_ret (v := .tuple #[.agg #[.int .i64 t, .slice (some ⟨g, 0, none⟩) qs.length cap], .agg #[.int .i64 pA, .int .i64 pL], .int .i64 0]) (by simp [results, Tryz.results13, go_sem, s0, s1, r0, r1]) rfl ?_
            all_goals have hsz1 : w.heap.size + 1 < w4.heap.size := by omega
            all_goals have hfin := (hT7.fin (.int .i64 t) (.slice (some ⟨g, 0, none⟩) qs.length cap) (.int .i64 pA) (.int .i64 pL)).drew
            all_goals have hob := (((((hOB7.put (o := 0) (u := .int .i64 t) hsz1).put (o := 1) (u := .slice (some ⟨g, 0, none⟩) qs.length cap) hsz1).put (o := 0) (u := .int .i64 pA) hsz).put (o := 1) (u := .int .i64 pL) hsz).later (Below.refl _ _).drew).low hT4.below.size
            all_goals have hput2 : PutLe ⟨pA, pL, 1, ow, 0⟩ (poAt ps i).ls ls' := by rw [hsp.2.2.2.2.2.2.2.2.2]; exact hput
            all_goals exact ⟨_, qs.set i (withL (poAt qs i) x' ls'.length c' ls'), t, pA, pL, by rw [hE0], hfin, hob, fun h => absurd hE0 h, fun _ => ⟨rfl, by rw [hto, ← hzz.out, hpA.out, hpL.out], qs, x', c', ls', hs, by rw [hto]; exact hput2, by rw [hto]⟩⟩
          · have hne : takeE t ps id z ow = pfitE (poAt ps i) zz ∧ pfitE (poAt ps i) zz ≠ 0 := ⟨hE1, hpe⟩
            go_wp2_with fail
            refine hpf.mono ?_
            rintro e w3 ⟨rfl, hb3⟩
            have hT3 := hT2.later hb3
            clear b0 b1 s0 s1 r0 r1 zs0 zs1 zr0 zr1 hb3 c0 c1 c2 c3 c4 c5 c6 c7 c8
            go_upto_region 12 with fail
            obtain ⟨w4, hw4⟩ : ∃ w4, w4 = w3.alloc (.cells #[.int .i64 (pfitO (poAt ps i) zz).1, .int .i64 (pfitO (poAt ps i) zz).2] 26) := ⟨_, rfl⟩
            rw [← hw4]
            have hT4 : TB w w4 t (.slice (some ⟨b, o, none⟩) n c) := by rw [hw4]; exact hT3.later (bl1 _ _)
            clear hw4 hT3
            have b0 : w4.cell? ⟨w.heap.size, 0, none⟩ = some (.int .i64 t) := (box_cells hT4.hb).1 0
            have b1 : w4.cell? ⟨w.heap.size, 1, none⟩ = some (.slice (some ⟨b, o, none⟩) n c) := (box_cells hT4.hb).1 1
            have s0 : w4.cell? ⟨w.heap.size + 1, 0, none⟩ = some (.int .i64 0) := (box_cells hT4.hs).1 0
            have s1 : w4.cell? ⟨w.heap.size + 1, 1, none⟩ = some (.slice none 0 0) := (box_cells hT4.hs).1 1
            have r0 : w4.cell? ⟨w.heap.size + 2, 0, none⟩ = some (.int .i64 0) := (box_cells hT4.hr).1 0
            have r1 : w4.cell? ⟨w.heap.size + 2, 1, none⟩ = some (.int .i64 0) := (box_cells hT4.hr).1 1
            have zs0 : w4.frozen? ⟨w.heap.size + 1, 0, none⟩ = false := (box_cells hT4.hs).2 0
            have zs1 : w4.frozen? ⟨w.heap.size + 1, 1, none⟩ = false := (box_cells hT4.hs).2 1
            have zr0 : w4.frozen? ⟨w.heap.size + 2, 0, none⟩ = false := (box_cells hT4.hr).2 0
            have zr1 : w4.frozen? ⟨w.heap.size + 2, 1, none⟩ = false := (box_cells hT4.hr).2 1
            go_wp2
            refine bodyPost_ret (v := .tuple #[.agg #[.int .i64 0, .slice none 0 0], .agg #[.int .i64 0, .int .i64 0], .int .i64 (pfitE (poAt ps i) zz)]) (by simp [results, Tryz.results13, go_sem, s0, s1, r0, r1]) rfl ?_
            exact TakePost.err hne (hT4.fin _ _ _ _)
  · have hne : takeE t ps id z ow = chkB t ps ∧ chkB t ps ≠ 0 := ⟨if_pos hc0, hc0⟩
    go_wp2_with fail
    refine hck.mono ?_
    rintro e w1 ⟨rfl, hb1⟩
    have hT1 := hT0.later hb1
    clear b0 b1 s0 s1 r0 r1 zs0 zs1 zr0 zr1 hck hb1
    have b0 : w1.cell? ⟨w.heap.size, 0, none⟩ = some (.int .i64 t) := (box_cells hT1.hb).1 0
    have b1 : w1.cell? ⟨w.heap.size, 1, none⟩ = some (.slice x n c) := (box_cells hT1.hb).1 1
    have s0 : w1.cell? ⟨w.heap.size + 1, 0, none⟩ = some (.int .i64 0) := (box_cells hT1.hs).1 0
    have s1 : w1.cell? ⟨w.heap.size + 1, 1, none⟩ = some (.slice none 0 0) := (box_cells hT1.hs).1 1
    have r0 : w1.cell? ⟨w.heap.size + 2, 0, none⟩ = some (.int .i64 0) := (box_cells hT1.hr).1 0
    have r1 : w1.cell? ⟨w.heap.size + 2, 1, none⟩ = some (.int .i64 0) := (box_cells hT1.hr).1 1
    have zs0 : w1.frozen? ⟨w.heap.size + 1, 0, none⟩ = false := (box_cells hT1.hs).2 0
    have zs1 : w1.frozen? ⟨w.heap.size + 1, 1, none⟩ = false := (box_cells hT1.hs).2 1
    have zr0 : w1.frozen? ⟨w.heap.size + 2, 0, none⟩ = false := (box_cells hT1.hr).2 0
    have zr1 : w1.frozen? ⟨w.heap.size + 2, 1, none⟩ = false := (box_cells hT1.hr).2 1
    go_wp2
    refine bodyPost_ret (v := .tuple #[.agg #[.int .i64 0, .slice none 0 0], .agg #[.int .i64 0, .int .i64 0], .int .i64 (chkB t ps)]) (by simp [results, Tryz.results13, go_sem, s0, s1, r0, r1]) rfl ?_
    exact TakePost.err hne (hT1.fin _ _ _ _)
end Go.Proofs.YtpdoonkhnabfjaaGreat
/- What withPool and addError of package pool come to. -/
namespace Go.Proofs.YtpdoonkhnabfjaaGreat
open Go.RowKit Go.Shelf

theorem poAt_ins {qs : List Po} {i : Nat} {e : Po} (hi : i ≤ qs.length) (j : Nat) : poAt (qs.take i ++ [e] ++ qs.drop i) j = if j < i then poAt qs j else if j = i then e else poAt qs (j - 1) := by
  have hl : (qs.take i).length = i := by rw [List.length_take]; omega
  unfold poAt
  simp only [List.getD_eq_getElem?_getD, List.append_assoc]
  by_cases h1 : j < i
  · rw [if_pos h1, List.getElem?_append_left (by omega), List.getElem?_take_of_lt h1]
  · rw [if_neg h1, List.getElem?_append_right (by omega), hl]
    by_cases h2 : j = i
    · subst h2; simp
    · rw [if_neg h2, show j - i = (j - i - 1) + 1 by omega]
      simp only [List.singleton_append, List.getElem?_cons_succ, List.getElem?_drop]
      rw [show i + (j - i - 1) = j - 1 by omega]
theorem OBk.ins {W W' : World} {base : Nat} {v v' : Value} {qs : List Po} {i : Nat} {e : Po} (h : OBk W base v qs qs.length) (hi : i ≤ qs.length) (hb : Below W.heap.size W W') (h1 : e.x = none) (h2 : e.n = 0) (h3 : e.c = 0) (h4 : e.ls = []) (hr : OwnP W' base v' (qs.take i ++ [e] ++ qs.drop i)) :
    OBk W' base v' (qs.take i ++ [e] ++ qs.drop i) (qs.take i ++ [e] ++ qs.drop i).length := by
  have hl : (qs.take i ++ [e] ++ qs.drop i).length = qs.length + 1 := by simp; omega
  have heo : (Value.slice e.x e.n e.c).ownBlock = none := by rw [h1, h2, h3]; rfl
  refine ⟨hr, fun j hj => ?_, fun j hj hj2 => by omega, fun j k hj hk hjk b hbj hbk => ?_⟩
  · rw [poAt_ins hi]
    by_cases c1 : j < i
    · rw [if_pos c1]; exact (h.own j (by omega)).later hb
    · rw [if_neg c1]
      by_cases c2 : j = i
      · rw [if_pos c2, h1, h2, h3, h4]; exact World.ownsRow_nil _ _ _ _
      · rw [if_neg c2]; exact (h.own (j - 1) (by omega)).later hb
  · rw [poAt_ins hi] at hbj hbk
    by_cases c1 : j < i
    · rw [if_pos c1] at hbj
      by_cases d1 : k < i
      · rw [if_pos d1] at hbk; exact h.apart j k (by omega) (by omega) hjk b hbj hbk
      · rw [if_neg d1] at hbk
        by_cases d2 : k = i
        · rw [if_pos d2, heo] at hbk; cases hbk
        · rw [if_neg d2] at hbk; exact h.apart j (k - 1) (by omega) (by omega) (by omega) b hbj hbk
    · rw [if_neg c1] at hbj
      by_cases c2 : j = i
      · rw [if_pos c2, heo] at hbj; cases hbj
      · rw [if_neg c2] at hbj
        by_cases d1 : k < i
        · rw [if_pos d1] at hbk; exact h.apart (j - 1) k (by omega) (by omega) (by omega) b hbj hbk
        · rw [if_neg d1] at hbk
          by_cases d2 : k = i
          · rw [if_pos d2, heo] at hbk; cases hbk
          · rw [if_neg d2] at hbk; exact h.apart (j - 1) (k - 1) (by omega) (by omega) (by omega) b hbj hbk
theorem OBk.putBox {w : World} {base b o : Nat} {u v : Value} {ps : List Po} {cs : Array Value} {t : TypeId} (h : OBk w base v ps ps.length) (hb : w.heap[b]? = some (.cells cs t)) (h1 : t ≠ 49) (h2 : t ≠ 55) : OBk (w.setCell ⟨b, o, none⟩ u) base v ps ps.length :=
  ⟨h.row.kept (set_grown _ _ _ _) (fun k hk e => by subst e; exact h.row.ne hb h1 hk), fun i hi => (h.own i hi).kept (set_grown _ _ _ _) (fun k hk e => by subst e; exact (h.own i hi).ne hb h2 hk), fun i hi hi2 => by omega, h.apart⟩
/-- The pool stands ahead of the first one whose Id is greater. -/
def PutPo (e : Po) (qs rs : List Po) : Prop := ∃ i, i ≤ qs.length ∧ (∀ j, j < i → ¬ e.id < (poAt qs j).id) ∧ (i < qs.length → e.id < (poAt qs i).id) ∧ rs = qs.take i ++ [e] ++ qs.drop i
def WithPost (t : Int) (ps : List Po) (e : Po) (w : World) (r : Ending) (w' : World) : Prop :=
  ∃ v qs rs, r = .returned (.agg #[.int .i64 t, v]) ∧ Below w.heap.size w w' ∧ sameB ps qs ∧ PutPo e qs rs ∧ OBk w' w.heap.size v rs rs.length

set_option maxRecDepth 100000 in
set_option maxHeartbeats 1600000 in
theorem withPool_any (t : Int) (x : Option Addr) (n c : Nat) (ps : List Po) (e : Po) (w : World) (hk : Bk w x n c ps) (hn : n ≤ 8) (h1 : e.x = none) (h2 : e.n = 0) (h3 : e.c = 0) (h4 : e.ls = []) :
    Calls Tryz.prog 22 #[.agg #[.int .i64 t, .slice x n c], .agg #[.int .i64 e.id, .int .i64 e.up, .int .i64 e.a, .int .i64 e.l, .int .i64 e.mn, .int .i64 e.mx, .int .i64 e.us, .int .i64 e.co, .slice none 0 0]] w (WithPost t ps e w) := by
  have hpl : Hid (ps.length = n) := hk.ps.len
  go_enter Tryz.func22, Tryz.ntmps22
  go_upto_region 1 with fail
  obtain ⟨w0, hw0⟩ : ∃ w0, w0 = ((w.alloc (bkV t (.slice x n c))).alloc (.cells #[.int .i64 e.id, .int .i64 e.up, .int .i64 e.a, .int .i64 e.l, .int .i64 e.mn, .int .i64 e.mx, .int .i64 e.us, .int .i64 e.co, .slice none 0 0] 49)).alloc (bkV 0 (.slice none 0 0)) := ⟨_, rfl⟩
  rw [← hw0]
  have hB0 : Below w.heap.size w w0 := by rw [hw0]; exact (bl2 w _ _).alloc (by simp; omega) _
  have hx0 : w0.heap[w.heap.size]? = some (bkV t (.slice x n c)) := by rw [hw0]; exact heap_old _ (heap_old _ (heap_new _ rfl))
  have hx1 : w0.heap[w.heap.size + 1]? = some (.cells #[.int .i64 e.id, .int .i64 e.up, .int .i64 e.a, .int .i64 e.l, .int .i64 e.mn, .int .i64 e.mx, .int .i64 e.us, .int .i64 e.co, .slice none 0 0] 49) := by rw [hw0]; exact heap_old _ (heap_new _ (by simp))
  have hx2 : w0.heap[w.heap.size + 2]? = some (bkV 0 (.slice none 0 0)) := by rw [hw0]; exact heap_new _ (by simp)
  clear hw0
  have hsz : w.heap.size + 2 < w0.heap.size := (Array.getElem?_eq_some_iff.1 hx2).1
  have b0 : w0.cell? ⟨w.heap.size, 0, none⟩ = some (.int .i64 t) := (box_cells hx0).1 0
  have b1 : w0.cell? ⟨w.heap.size, 1, none⟩ = some (.slice x n c) := (box_cells hx0).1 1
  go_wp2_with fail
  refine (freshBook_any t x n c ps w0 (hk.later hB0) (by omega)).mono ?_
  rintro r w1 ⟨v1, qs, rfl, hs, hOB, hb1⟩
  obtain ⟨xq, cq, rfl, hbk⟩ := hOB.bk (fun i hi => by rw [← (hs.2 i (by rw [hs.1]; exact hi)).2.2.2.2.2.2.2.2.1]; exact (hk.ps.leases i (by rw [← hpl.out, hs.1]; exact hi)).2.1)
  have hxq : (xq = none ∧ cq = 0) ∨ ∃ b o, xq = some ⟨b, o, none⟩ := by
    rcases hOB.row.2 with ⟨hv, -⟩ | ⟨g2, cap2, cur2, hv, -⟩
    · simp only [Value.slice.injEq] at hv; exact .inl ⟨hv.1, hv.2.2⟩
    · simp only [Value.slice.injEq] at hv; exact .inr ⟨_, _, hv.1⟩
  have hql : Hid (qs.length = n) := by unfold Hid; rw [← hs.1]; exact hpl.out
  clear b0 b1
  go_upto_region 2 with fail
  obtain ⟨w2, hw2⟩ : ∃ w2, w2 = w1.alloc (bkV t (.slice xq qs.length cq)) := ⟨_, rfl⟩
  rw [← hw2]
  have hb12 : Below w1.heap.size w1 w2 := by rw [hw2]; exact bl1 _ _
  have hb2 : Below w0.heap.size w0 w2 := hb1.trans (hb12.mono hb1.size)
  have hn2 : w2.heap[w1.heap.size]? = some (bkV t (.slice xq qs.length cq)) := by rw [hw2]; exact heap_new _ rfl
  clear hw2
  have hp2 := heap_later hb2 hx1
  have hr2 := heap_later hb2 hx2
  have n1 : w2.cell? ⟨w1.heap.size, 1, none⟩ = some (.slice xq qs.length cq) := (box_cells hn2).1 1
  have n1' : ∀ o, (w2.alloc o).cell? ⟨w1.heap.size, 1, none⟩ = some (.slice xq qs.length cq) := fun o => cell_later_add (bl1 w2 o) n1
  have p0 : w2.cell? ⟨w.heap.size + 1, 0, none⟩ = some (.int .i64 e.id) := (box_cells hp2).1 0
  have p0' : ∀ o, (w2.alloc o).cell? ⟨w.heap.size + 1, 0, none⟩ = some (.int .i64 e.id) := fun o => cell_later_add (bl1 w2 o) p0
  have p1 : w2.cell? ⟨w.heap.size + 1, 1, none⟩ = some (.int .i64 e.up) := (box_cells hp2).1 1
  have p1' : ∀ o, (w2.alloc o).cell? ⟨w.heap.size + 1, 1, none⟩ = some (.int .i64 e.up) := fun o => cell_later_add (bl1 w2 o) p1
  have p2 : w2.cell? ⟨w.heap.size + 1, 2, none⟩ = some (.int .i64 e.a) := (box_cells hp2).1 2
  have p2' : ∀ o, (w2.alloc o).cell? ⟨w.heap.size + 1, 2, none⟩ = some (.int .i64 e.a) := fun o => cell_later_add (bl1 w2 o) p2
  have p3 : w2.cell? ⟨w.heap.size + 1, 3, none⟩ = some (.int .i64 e.l) := (box_cells hp2).1 3
  have p3' : ∀ o, (w2.alloc o).cell? ⟨w.heap.size + 1, 3, none⟩ = some (.int .i64 e.l) := fun o => cell_later_add (bl1 w2 o) p3
  have p4 : w2.cell? ⟨w.heap.size + 1, 4, none⟩ = some (.int .i64 e.mn) := (box_cells hp2).1 4
  have p4' : ∀ o, (w2.alloc o).cell? ⟨w.heap.size + 1, 4, none⟩ = some (.int .i64 e.mn) := fun o => cell_later_add (bl1 w2 o) p4
  have p5 : w2.cell? ⟨w.heap.size + 1, 5, none⟩ = some (.int .i64 e.mx) := (box_cells hp2).1 5
  have p5' : ∀ o, (w2.alloc o).cell? ⟨w.heap.size + 1, 5, none⟩ = some (.int .i64 e.mx) := fun o => cell_later_add (bl1 w2 o) p5
  have p6 : w2.cell? ⟨w.heap.size + 1, 6, none⟩ = some (.int .i64 e.us) := (box_cells hp2).1 6
  have p6' : ∀ o, (w2.alloc o).cell? ⟨w.heap.size + 1, 6, none⟩ = some (.int .i64 e.us) := fun o => cell_later_add (bl1 w2 o) p6
  have p7 : w2.cell? ⟨w.heap.size + 1, 7, none⟩ = some (.int .i64 e.co) := (box_cells hp2).1 7
  have p7' : ∀ o, (w2.alloc o).cell? ⟨w.heap.size + 1, 7, none⟩ = some (.int .i64 e.co) := fun o => cell_later_add (bl1 w2 o) p7
  have p8 : w2.cell? ⟨w.heap.size + 1, 8, none⟩ = some (.slice none 0 0) := (box_cells hp2).1 8
  have p8' : ∀ o, (w2.alloc o).cell? ⟨w.heap.size + 1, 8, none⟩ = some (.slice none 0 0) := fun o => cell_later_add (bl1 w2 o) p8
  have hput := fun W (hW : Below w2.heap.size w2 W) hby => putP_any e xq qs.length cq qs w2.heap.size 1 W ((hbk.later hb12).later hW).ps (by rw [hql.out]; omega) hbk.nc hbk.cm hxq hby
  rw [h1, h2, h3] at hput
  go_wp2_with fail
  refine (hput _ (bl1 w2 _) (by simp)).mono ?_
  rintro r w3 ⟨v3, rfl, hb3, i, hi, hlow, hup, hO3⟩
  obtain ⟨rs, hrs⟩ : ∃ rs, Hid (rs = qs.take i ++ [e] ++ qs.drop i) := ⟨_, rfl⟩
  have hb23 : Below w2.heap.size w2 w3 := (bl1 w2 _).trans (hb3.mono (by simp))
  have hb13 : Below w1.heap.size w1 w3 := hb12.trans (hb23.mono hb12.size)
  have hins := hOB.ins hi hb13 h1 h2 h3 h4 (hO3.low (by have := hb2.size; simp; omega))
  rw [← hrs.out] at hO3 hins
  obtain ⟨x3, c3, rfl, -⟩ := hO3.mem
  have hn3 := heap_later hb23 hn2
  have hr3 := heap_later hb23 hr2
  have hB3 : Below w.heap.size w w3 := hB0.trans ((hb1.trans (hb13.mono hb1.size)).mono hB0.size)
  have hs1 : w.heap.size + 2 < w1.heap.size := Nat.lt_of_lt_of_le hsz hb1.size
  clear hb3 hb23 hput n1 n1'
  have m0 : w3.cell? ⟨w1.heap.size, 0, none⟩ = some (.int .i64 t) := (box_cells hn3).1 0
  have m1 : w3.cell? ⟨w1.heap.size, 1, none⟩ = some (.slice xq qs.length cq) := (box_cells hn3).1 1
  have zm : w3.frozen? ⟨w1.heap.size, 1, none⟩ = false := (box_cells hn3).2 1
  have s0 : w3.cell? ⟨w.heap.size + 2, 0, none⟩ = some (.int .i64 0) := (box_cells hr3).1 0
  have s1 : w3.cell? ⟨w.heap.size + 2, 1, none⟩ = some (.slice none 0 0) := (box_cells hr3).1 1
  have zs0 : w3.frozen? ⟨w.heap.size + 2, 0, none⟩ = false := (box_cells hr3).2 0
  have zs1 : w3.frozen? ⟨w.heap.size + 2, 1, none⟩ = false := (box_cells hr3).2 1
  have ne1 : ¬ w1.heap.size = w.heap.size + 2 := by omega
  have ne2 : ¬ w.heap.size + 2 = w1.heap.size := by omega
  go_wp2
  refine bodyPost_ret (v := .agg #[.int .i64 t, .slice x3 rs.length c3]) (by simp [results, Tryz.results22, go_sem, s0, s1]) rfl ?_
  have hfin := ((hB3.setCell (p := ⟨w1.heap.size, 1, none⟩) (by show w.heap.size ≤ w1.heap.size; omega) (.slice x3 rs.length c3)).setCell (p := ⟨w.heap.size + 2, 0, none⟩) (Nat.le_add_right _ _) (.int .i64 t)).setCell (p := ⟨w.heap.size + 2, 1, none⟩) (Nat.le_add_right _ _) (.slice x3 rs.length c3)
  have hob := (((hins.putBox (o := 1) (u := .slice x3 rs.length c3) hn3 (by decide) (by decide)).put (o := 0) (u := .int .i64 t) hsz).put (o := 1) (u := .slice x3 rs.length c3) hsz).low hB0.size
  exact ⟨_, qs, rs, rfl, hfin, hs, ⟨i, hi, fun j hj => by have := hlow j hj; omega, hup, hrs.out⟩, hob⟩
end Go.Proofs.YtpdoonkhnabfjaaGreat
/- What addError and Open of package pool come to. -/
namespace Go.Proofs.YtpdoonkhnabfjaaGreat
open Go.RowKit Go.Shelf

def addE (ps : List Po) (l mn mx us co : Int) : Int := if ruleB mn mx us co l = false then 1 else if ps.length = 8 then 2 else 0
set_option maxRecDepth 100000 in
set_option maxHeartbeats 800000 in
theorem addError_any (t a l mn mx us co : Int) (x : Option Addr) (n c : Nat) (ps : List Po) (hl : ps.length = n) (w : World) :
    Calls Tryz.prog 21 #[.agg #[.int .i64 t, .slice x n c], .agg #[.int .i64 a, .int .i64 l], .agg #[.int .i64 mn, .int .i64 mx, .int .i64 us, .int .i64 co]] w fun e w' => e = .returned (.int .i64 (addE ps l mn mx us co)) ∧ Below w.heap.size w w' := by
  unfold addE
  rw [hl]
  have hB : Below w.heap.size w (((w.alloc (.cells #[.int .i64 t, .slice x n c] 24)).alloc (.cells #[.int .i64 a, .int .i64 l] 26)).alloc (.cells #[.int .i64 mn, .int .i64 mx, .int .i64 us, .int .i64 co] 28)) := (bl2 w _ _).alloc (by simp; omega) _
  have hru := ruleRight_any mn mx us co a l (((w.alloc (.cells #[.int .i64 t, .slice x n c] 24)).alloc (.cells #[.int .i64 a, .int .i64 l] 26)).alloc (.cells #[.int .i64 mn, .int .i64 mx, .int .i64 us, .int .i64 co] 28))
  cases hr : ruleB mn mx us co l with
  | false =>
    rw [hr] at hru
    rw [if_pos rfl]
    go_enter Tryz.func21, Tryz.ntmps21
    go_wp2_with fail
    refine hru.mono ?_
    rintro e w1 ⟨rfl, hb1⟩
    go_wp2
    go_ret
    exact ⟨rfl, hB.trans (hb1.mono hB.size)⟩
  | true =>
    rw [hr] at hru
    rw [if_neg (by simp)]
    by_cases h8 : n = 8
    · rw [if_pos h8]
      subst h8
      go_enter Tryz.func21, Tryz.ntmps21
      go_wp2_with fail
      refine hru.mono ?_
      rintro e w1 ⟨rfl, hb1⟩
      have hx : w1.heap[w.heap.size]? = some (.cells #[.int .i64 t, .slice x 8 c] 24) := heap_later hb1 (heap_old _ (heap_old _ (heap_new _ rfl)))
      have d1 : w1.cell? ⟨w.heap.size, 1, none⟩ = some (.slice x 8 c) := (box_cells hx).1 1
      have hB2 := hB.trans (hb1.mono hB.size)
      clear hb1
      go_wp2
      go_ret
      exact ⟨rfl, hB2⟩
    · have h8' : ¬ (n : Int) = 8 := by omega
      rw [if_neg h8]
      go_enter Tryz.func21, Tryz.ntmps21
      go_wp2_with fail
      refine hru.mono ?_
      rintro e w1 ⟨rfl, hb1⟩
      have hx : w1.heap[w.heap.size]? = some (.cells #[.int .i64 t, .slice x n c] 24) := heap_later hb1 (heap_old _ (heap_old _ (heap_new _ rfl)))
      have d1 : w1.cell? ⟨w.heap.size, 1, none⟩ = some (.slice x n c) := (box_cells hx).1 1
      have hB2 := hB.trans (hb1.mono hB.size)
      clear hb1
      go_wp2
      go_ret
      exact ⟨rfl, hB2⟩
def openE (t : Int) (ps : List Po) (id a l mn mx us co : Int) : Int :=
  if chkB t ps ≠ 0 then chkB t ps else if wth id 1 65536 = false ∨ chk a l ≠ 0 then 3 else if 0 ≤ atId ps id ∨ anyAt ps.length (topB ps a l) = true then 6 else addE ps l mn mx us co
def OpenPost (t : Int) (ps : List Po) (id a l mn mx us co : Int) (w : World) (r : Ending) (w' : World) : Prop :=
  ∃ v rs t', r = .returned (.tuple #[.agg #[.int .i64 t', v], .int .i64 (openE t ps id a l mn mx us co)]) ∧ Below w.heap.size w w' ∧ OBk w' w.heap.size v rs rs.length ∧
    (openE t ps id a l mn mx us co ≠ 0 → t' = 0 ∧ rs = []) ∧ (openE t ps id a l mn mx us co = 0 → t' = t ∧ ∃ qs, sameB ps qs ∧ PutPo ⟨id, 0, a, l, mn, mx, us, co, none, 0, 0, []⟩ qs rs)
theorem OpenPost.err {t : Int} {ps : List Po} {id a l mn mx us co E : Int} {w w' : World} (hE : openE t ps id a l mn mx us co = E ∧ E ≠ 0) (hb : Below w.heap.size w w') :
    OpenPost t ps id a l mn mx us co w (.returned (.tuple #[.agg #[.int .i64 0, .slice none 0 0], .int .i64 E])) w' :=
  ⟨_, [], 0, by rw [hE.1], hb, OBk.nil _ _, fun _ => ⟨rfl, rfl⟩, fun h => absurd (hE.1.symm.trans h) hE.2⟩
structure TO (w W : World) (t a l mn mx us co : Int) (v : Value) : Prop where
  hb : W.heap[w.heap.size]? = some (bkV t v)
  hp : W.heap[w.heap.size + 1]? = some (.cells #[.int .i64 a, .int .i64 l] 26)
  hu : W.heap[w.heap.size + 2]? = some (.cells #[.int .i64 mn, .int .i64 mx, .int .i64 us, .int .i64 co] 28)
  hs : W.heap[w.heap.size + 3]? = some (bkV 0 (.slice none 0 0))
  below : Below w.heap.size w W
theorem TO.later {w W W' : World} {t a l mn mx us co : Int} {v : Value} (h : TO w W t a l mn mx us co v) (hb : Below W.heap.size W W') : TO w W' t a l mn mx us co v :=
  ⟨heap_later hb h.hb, heap_later hb h.hp, heap_later hb h.hu, heap_later hb h.hs, h.below.trans (hb.mono h.below.size)⟩

set_option maxRecDepth 100000 in
set_option maxHeartbeats 1600000 in
theorem open_any (t : Int) (x : Option Addr) (n c : Nat) (ps : List Po) (id a l mn mx us co : Int) (w : World) (hk : Bk w x n c ps) :
    Calls Tryz.prog 5 #[.agg #[.int .i64 t, .slice x n c], .int .i64 id, .agg #[.int .i64 a, .int .i64 l], .agg #[.int .i64 mn, .int .i64 mx, .int .i64 us, .int .i64 co]] w (OpenPost t ps id a l mn mx us co w) := by
  have hpl : Hid (ps.length = n) := hk.ps.len
  go_enter Tryz.func5, Tryz.ntmps5
  go_upto_region 1 with fail
  obtain ⟨w0, hw0⟩ : ∃ w0, w0 = (((w.alloc (bkV t (.slice x n c))).alloc (.cells #[.int .i64 a, .int .i64 l] 26)).alloc (.cells #[.int .i64 mn, .int .i64 mx, .int .i64 us, .int .i64 co] 28)).alloc (bkV 0 (.slice none 0 0)) := ⟨_, rfl⟩
  rw [← hw0]
  have hT0 : TO w w0 t a l mn mx us co (.slice x n c) := by
    rw [hw0]
    exact ⟨heap_old _ (heap_old _ (heap_old _ (heap_new _ rfl))), heap_old _ (heap_old _ (heap_new _ (by simp))), heap_old _ (heap_new _ (by simp)), heap_new _ (by simp), ((bl2 w _ _).alloc (by simp; omega) _).alloc (by simp; omega) _⟩
  clear hw0
  have b0 : w0.cell? ⟨w.heap.size, 0, none⟩ = some (.int .i64 t) := (box_cells hT0.hb).1 0
  have b1 : w0.cell? ⟨w.heap.size, 1, none⟩ = some (.slice x n c) := (box_cells hT0.hb).1 1
  have a0 : w0.cell? ⟨w.heap.size + 1, 0, none⟩ = some (.int .i64 a) := (box_cells hT0.hp).1 0
  have a1 : w0.cell? ⟨w.heap.size + 1, 1, none⟩ = some (.int .i64 l) := (box_cells hT0.hp).1 1
  have u0 : w0.cell? ⟨w.heap.size + 2, 0, none⟩ = some (.int .i64 mn) := (box_cells hT0.hu).1 0
  have u1 : w0.cell? ⟨w.heap.size + 2, 1, none⟩ = some (.int .i64 mx) := (box_cells hT0.hu).1 1
  have u2 : w0.cell? ⟨w.heap.size + 2, 2, none⟩ = some (.int .i64 us) := (box_cells hT0.hu).1 2
  have u3 : w0.cell? ⟨w.heap.size + 2, 3, none⟩ = some (.int .i64 co) := (box_cells hT0.hu).1 3
  have s0 : w0.cell? ⟨w.heap.size + 3, 0, none⟩ = some (.int .i64 0) := (box_cells hT0.hs).1 0
  have s1 : w0.cell? ⟨w.heap.size + 3, 1, none⟩ = some (.slice none 0 0) := (box_cells hT0.hs).1 1
  have zs0 : w0.frozen? ⟨w.heap.size + 3, 0, none⟩ = false := (box_cells hT0.hs).2 0
  have zs1 : w0.frozen? ⟨w.heap.size + 3, 1, none⟩ = false := (box_cells hT0.hs).2 1
  have hck := checkB_any t x n c ps w0 (hk.later hT0.below)
  by_cases hc0 : chkB t ps = 0
  · rw [hc0] at hck
    have hE1 : Hid (openE t ps id a l mn mx us co = if wth id 1 65536 = false ∨ chk a l ≠ 0 then 3 else if 0 ≤ atId ps id ∨ anyAt ps.length (topB ps a l) = true then 6 else addE ps l mn mx us co) := if_neg (c := chkB t ps ≠ 0) (by simp [hc0])
    have hn8 : n ≤ 8 := by rw [← hpl.out]; exact chk_len hc0
    go_wp2_with fail
    refine (hck).mono ?_
    rintro e w1 ⟨rfl, hb1⟩
    have hT1 := hT0.later hb1
    clear b0 b1 a0 a1 u0 u1 u2 u3 s0 s1 zs0 zs1
    have b0 : w1.cell? ⟨w.heap.size, 0, none⟩ = some (.int .i64 t) := (box_cells hT1.hb).1 0
    have b1 : w1.cell? ⟨w.heap.size, 1, none⟩ = some (.slice x n c) := (box_cells hT1.hb).1 1
    have a0 : w1.cell? ⟨w.heap.size + 1, 0, none⟩ = some (.int .i64 a) := (box_cells hT1.hp).1 0
    have a1 : w1.cell? ⟨w.heap.size + 1, 1, none⟩ = some (.int .i64 l) := (box_cells hT1.hp).1 1
    have u0 : w1.cell? ⟨w.heap.size + 2, 0, none⟩ = some (.int .i64 mn) := (box_cells hT1.hu).1 0
    have u1 : w1.cell? ⟨w.heap.size + 2, 1, none⟩ = some (.int .i64 mx) := (box_cells hT1.hu).1 1
    have u2 : w1.cell? ⟨w.heap.size + 2, 2, none⟩ = some (.int .i64 us) := (box_cells hT1.hu).1 2
    have u3 : w1.cell? ⟨w.heap.size + 2, 3, none⟩ = some (.int .i64 co) := (box_cells hT1.hu).1 3
    have s0 : w1.cell? ⟨w.heap.size + 3, 0, none⟩ = some (.int .i64 0) := (box_cells hT1.hs).1 0
    have s1 : w1.cell? ⟨w.heap.size + 3, 1, none⟩ = some (.slice none 0 0) := (box_cells hT1.hs).1 1
    have zs0 : w1.frozen? ⟨w.heap.size + 3, 0, none⟩ = false := (box_cells hT1.hs).2 0
    have zs1 : w1.frozen? ⟨w.heap.size + 3, 1, none⟩ = false := (box_cells hT1.hs).2 1
    cases hid : wth id 1 65536 with
    | false =>
      have hne : openE t ps id a l mn mx us co = 3 ∧ (3 : Int) ≠ 0 := ⟨hE1.out.trans (if_pos (.inl hid)), by decide⟩
      go_wp2_with fail
      refine (isId_is id false hid _).mono ?_
      rintro e w1 ⟨rfl, rfl⟩
      go_wp2
      refine bodyPost_ret (v := .tuple #[.agg #[.int .i64 0, .slice none 0 0], .int .i64 3]) (by simp [results, Tryz.results5, go_sem, s0, s1]) rfl ?_
      exact OpenPost.err hne ((hT1.below.setCell (p := ⟨w.heap.size + 3, 0, none⟩) (Nat.le_add_right _ _) _).setCell (p := ⟨w.heap.size + 3, 1, none⟩) (Nat.le_add_right _ _) _)
    | true =>
      go_wp2_with fail
      refine (isId_is id true hid _).mono ?_
      rintro e w1 ⟨rfl, rfl⟩
      have hcp := check_any a l w1
      by_cases hcz : chk a l = 0
      · rw [hcz] at hcp
        have hE2 : Hid (openE t ps id a l mn mx us co = if 0 ≤ atId ps id ∨ anyAt ps.length (topB ps a l) = true then 6 else addE ps l mn mx us co) := hE1.out.trans (if_neg (c := wth id 1 65536 = false ∨ chk a l ≠ 0) (by simp [hid, hcz]))
        go_wp2_with fail
        refine (hcp).mono ?_
        rintro e w2 ⟨rfl, hb2⟩
        have hT2 := hT1.later hb2
        clear b0 b1 a0 a1 u0 u1 u2 u3 s0 s1 zs0 zs1
        have b0 : w2.cell? ⟨w.heap.size, 0, none⟩ = some (.int .i64 t) := (box_cells hT2.hb).1 0
        have b1 : w2.cell? ⟨w.heap.size, 1, none⟩ = some (.slice x n c) := (box_cells hT2.hb).1 1
        have a0 : w2.cell? ⟨w.heap.size + 1, 0, none⟩ = some (.int .i64 a) := (box_cells hT2.hp).1 0
        have a1 : w2.cell? ⟨w.heap.size + 1, 1, none⟩ = some (.int .i64 l) := (box_cells hT2.hp).1 1
        have u0 : w2.cell? ⟨w.heap.size + 2, 0, none⟩ = some (.int .i64 mn) := (box_cells hT2.hu).1 0
        have u1 : w2.cell? ⟨w.heap.size + 2, 1, none⟩ = some (.int .i64 mx) := (box_cells hT2.hu).1 1
        have u2 : w2.cell? ⟨w.heap.size + 2, 2, none⟩ = some (.int .i64 us) := (box_cells hT2.hu).1 2
        have u3 : w2.cell? ⟨w.heap.size + 2, 3, none⟩ = some (.int .i64 co) := (box_cells hT2.hu).1 3
        have s0 : w2.cell? ⟨w.heap.size + 3, 0, none⟩ = some (.int .i64 0) := (box_cells hT2.hs).1 0
        have s1 : w2.cell? ⟨w.heap.size + 3, 1, none⟩ = some (.slice none 0 0) := (box_cells hT2.hs).1 1
        have zs0 : w2.frozen? ⟨w.heap.size + 3, 0, none⟩ = false := (box_cells hT2.hs).2 0
        have zs1 : w2.frozen? ⟨w.heap.size + 3, 1, none⟩ = false := (box_cells hT2.hs).2 1
        have hpc := place_any t id x n c ps w2 (hk.later hT2.below).ps (by omega)
        by_cases hat : atId ps id < 0
        · have hge : ¬ (0 ≤ atId ps id) := by omega
          go_wp2_with fail
          refine (hpc).mono ?_
          rintro e w3 ⟨rfl, hb3⟩
          have hT3 := hT2.later hb3
          clear b0 b1 a0 a1 u0 u1 u2 u3 s0 s1 zs0 zs1
          have b0 : w3.cell? ⟨w.heap.size, 0, none⟩ = some (.int .i64 t) := (box_cells hT3.hb).1 0
          have b1 : w3.cell? ⟨w.heap.size, 1, none⟩ = some (.slice x n c) := (box_cells hT3.hb).1 1
          have a0 : w3.cell? ⟨w.heap.size + 1, 0, none⟩ = some (.int .i64 a) := (box_cells hT3.hp).1 0
          have a1 : w3.cell? ⟨w.heap.size + 1, 1, none⟩ = some (.int .i64 l) := (box_cells hT3.hp).1 1
          have u0 : w3.cell? ⟨w.heap.size + 2, 0, none⟩ = some (.int .i64 mn) := (box_cells hT3.hu).1 0
          have u1 : w3.cell? ⟨w.heap.size + 2, 1, none⟩ = some (.int .i64 mx) := (box_cells hT3.hu).1 1
          have u2 : w3.cell? ⟨w.heap.size + 2, 2, none⟩ = some (.int .i64 us) := (box_cells hT3.hu).1 2
          have u3 : w3.cell? ⟨w.heap.size + 2, 3, none⟩ = some (.int .i64 co) := (box_cells hT3.hu).1 3
          have s0 : w3.cell? ⟨w.heap.size + 3, 0, none⟩ = some (.int .i64 0) := (box_cells hT3.hs).1 0
          have s1 : w3.cell? ⟨w.heap.size + 3, 1, none⟩ = some (.slice none 0 0) := (box_cells hT3.hs).1 1
          have zs0 : w3.frozen? ⟨w.heap.size + 3, 0, none⟩ = false := (box_cells hT3.hs).2 0
          have zs1 : w3.frozen? ⟨w.heap.size + 3, 1, none⟩ = false := (box_cells hT3.hs).2 1
          have hmt := meetsTop_any a l x n c ps w3 (hk.later hT3.below).ps (by omega)
          cases hany : anyAt n (topB ps a l) with
          | true =>
            rw [hany] at hmt
            have hne : openE t ps id a l mn mx us co = 6 ∧ (6 : Int) ≠ 0 := ⟨hE2.out.trans (if_pos (.inr (by rw [hpl.out]; exact hany))), by decide⟩
            go_wp2_with fail
            refine (hmt).mono ?_
            rintro e w4 ⟨rfl, hb4⟩
            have hT4 := hT3.later hb4
            clear b0 b1 a0 a1 u0 u1 u2 u3 s0 s1 zs0 zs1
            have b0 : w4.cell? ⟨w.heap.size, 0, none⟩ = some (.int .i64 t) := (box_cells hT4.hb).1 0
            have b1 : w4.cell? ⟨w.heap.size, 1, none⟩ = some (.slice x n c) := (box_cells hT4.hb).1 1
            have a0 : w4.cell? ⟨w.heap.size + 1, 0, none⟩ = some (.int .i64 a) := (box_cells hT4.hp).1 0
            have a1 : w4.cell? ⟨w.heap.size + 1, 1, none⟩ = some (.int .i64 l) := (box_cells hT4.hp).1 1
            have u0 : w4.cell? ⟨w.heap.size + 2, 0, none⟩ = some (.int .i64 mn) := (box_cells hT4.hu).1 0
            have u1 : w4.cell? ⟨w.heap.size + 2, 1, none⟩ = some (.int .i64 mx) := (box_cells hT4.hu).1 1
            have u2 : w4.cell? ⟨w.heap.size + 2, 2, none⟩ = some (.int .i64 us) := (box_cells hT4.hu).1 2
            have u3 : w4.cell? ⟨w.heap.size + 2, 3, none⟩ = some (.int .i64 co) := (box_cells hT4.hu).1 3
            have s0 : w4.cell? ⟨w.heap.size + 3, 0, none⟩ = some (.int .i64 0) := (box_cells hT4.hs).1 0
            have s1 : w4.cell? ⟨w.heap.size + 3, 1, none⟩ = some (.slice none 0 0) := (box_cells hT4.hs).1 1
            have zs0 : w4.frozen? ⟨w.heap.size + 3, 0, none⟩ = false := (box_cells hT4.hs).2 0
            have zs1 : w4.frozen? ⟨w.heap.size + 3, 1, none⟩ = false := (box_cells hT4.hs).2 1
            go_wp2
            refine bodyPost_ret (v := .tuple #[.agg #[.int .i64 0, .slice none 0 0], .int .i64 6]) (by simp [results, Tryz.results5, go_sem, s0, s1]) rfl ?_
            exact OpenPost.err hne ((hT4.below.setCell (p := ⟨w.heap.size + 3, 0, none⟩) (Nat.le_add_right _ _) _).setCell (p := ⟨w.heap.size + 3, 1, none⟩) (Nat.le_add_right _ _) _)
          | false =>
            rw [hany] at hmt
            have hE3 : openE t ps id a l mn mx us co = addE ps l mn mx us co := hE2.out.trans (if_neg (c := 0 ≤ atId ps id ∨ anyAt ps.length (topB ps a l) = true) (by rw [hpl.out, hany]; simp; omega))
            go_wp2_with fail
            refine (hmt).mono ?_
            rintro e w4 ⟨rfl, hb4⟩
            have hT4 := hT3.later hb4
            clear b0 b1 a0 a1 u0 u1 u2 u3 s0 s1 zs0 zs1
            have b0 : w4.cell? ⟨w.heap.size, 0, none⟩ = some (.int .i64 t) := (box_cells hT4.hb).1 0
            have b1 : w4.cell? ⟨w.heap.size, 1, none⟩ = some (.slice x n c) := (box_cells hT4.hb).1 1
            have a0 : w4.cell? ⟨w.heap.size + 1, 0, none⟩ = some (.int .i64 a) := (box_cells hT4.hp).1 0
            have a1 : w4.cell? ⟨w.heap.size + 1, 1, none⟩ = some (.int .i64 l) := (box_cells hT4.hp).1 1
            have u0 : w4.cell? ⟨w.heap.size + 2, 0, none⟩ = some (.int .i64 mn) := (box_cells hT4.hu).1 0
            have u1 : w4.cell? ⟨w.heap.size + 2, 1, none⟩ = some (.int .i64 mx) := (box_cells hT4.hu).1 1
            have u2 : w4.cell? ⟨w.heap.size + 2, 2, none⟩ = some (.int .i64 us) := (box_cells hT4.hu).1 2
            have u3 : w4.cell? ⟨w.heap.size + 2, 3, none⟩ = some (.int .i64 co) := (box_cells hT4.hu).1 3
            have s0 : w4.cell? ⟨w.heap.size + 3, 0, none⟩ = some (.int .i64 0) := (box_cells hT4.hs).1 0
            have s1 : w4.cell? ⟨w.heap.size + 3, 1, none⟩ = some (.slice none 0 0) := (box_cells hT4.hs).1 1
            have zs0 : w4.frozen? ⟨w.heap.size + 3, 0, none⟩ = false := (box_cells hT4.hs).2 0
            have zs1 : w4.frozen? ⟨w.heap.size + 3, 1, none⟩ = false := (box_cells hT4.hs).2 1
            have hae := addError_any t a l mn mx us co x n c ps hpl.out w4
            by_cases hz : addE ps l mn mx us co = 0
            · rw [hz] at hae
              have hE0 : openE t ps id a l mn mx us co = 0 := hE3.trans hz
              go_wp2_with fail
              refine (hae).mono ?_
              rintro e w5 ⟨rfl, hb5⟩
              have hT5 := hT4.later hb5
              clear b0 b1 a0 a1 u0 u1 u2 u3 s0 s1 zs0 zs1
              have b0 : w5.cell? ⟨w.heap.size, 0, none⟩ = some (.int .i64 t) := (box_cells hT5.hb).1 0
              have b1 : w5.cell? ⟨w.heap.size, 1, none⟩ = some (.slice x n c) := (box_cells hT5.hb).1 1
              have a0 : w5.cell? ⟨w.heap.size + 1, 0, none⟩ = some (.int .i64 a) := (box_cells hT5.hp).1 0
              have a1 : w5.cell? ⟨w.heap.size + 1, 1, none⟩ = some (.int .i64 l) := (box_cells hT5.hp).1 1
              have u0 : w5.cell? ⟨w.heap.size + 2, 0, none⟩ = some (.int .i64 mn) := (box_cells hT5.hu).1 0
              have u1 : w5.cell? ⟨w.heap.size + 2, 1, none⟩ = some (.int .i64 mx) := (box_cells hT5.hu).1 1
              have u2 : w5.cell? ⟨w.heap.size + 2, 2, none⟩ = some (.int .i64 us) := (box_cells hT5.hu).1 2
              have u3 : w5.cell? ⟨w.heap.size + 2, 3, none⟩ = some (.int .i64 co) := (box_cells hT5.hu).1 3
              have s0 : w5.cell? ⟨w.heap.size + 3, 0, none⟩ = some (.int .i64 0) := (box_cells hT5.hs).1 0
              have s1 : w5.cell? ⟨w.heap.size + 3, 1, none⟩ = some (.slice none 0 0) := (box_cells hT5.hs).1 1
              have zs0 : w5.frozen? ⟨w.heap.size + 3, 0, none⟩ = false := (box_cells hT5.hs).2 0
              have zs1 : w5.frozen? ⟨w.heap.size + 3, 1, none⟩ = false := (box_cells hT5.hs).2 1
              have hsz5 : w.heap.size + 3 < w5.heap.size := (Array.getElem?_eq_some_iff.1 hT5.hs).1
              go_wp2_with fail
              refine (withPool_any t x n c ps ⟨id, 0, a, l, mn, mx, us, co, none, 0, 0, []⟩ w5 (hk.later hT5.below) hn8 rfl rfl rfl rfl).mono ?_
              rintro e w6 ⟨v6, qs, rs, rfl, hb6, hs, hput, hOB⟩
              obtain ⟨x6, c6, rfl, -⟩ := hOB.row.mem
              have hT6 := hT5.later hb6
              clear b0 b1 a0 a1 u0 u1 u2 u3 s0 s1 zs0 zs1
              have b0 : w6.cell? ⟨w.heap.size, 0, none⟩ = some (.int .i64 t) := (box_cells hT6.hb).1 0
              have b1 : w6.cell? ⟨w.heap.size, 1, none⟩ = some (.slice x n c) := (box_cells hT6.hb).1 1
              have a0 : w6.cell? ⟨w.heap.size + 1, 0, none⟩ = some (.int .i64 a) := (box_cells hT6.hp).1 0
              have a1 : w6.cell? ⟨w.heap.size + 1, 1, none⟩ = some (.int .i64 l) := (box_cells hT6.hp).1 1
              have u0 : w6.cell? ⟨w.heap.size + 2, 0, none⟩ = some (.int .i64 mn) := (box_cells hT6.hu).1 0
              have u1 : w6.cell? ⟨w.heap.size + 2, 1, none⟩ = some (.int .i64 mx) := (box_cells hT6.hu).1 1
              have u2 : w6.cell? ⟨w.heap.size + 2, 2, none⟩ = some (.int .i64 us) := (box_cells hT6.hu).1 2
              have u3 : w6.cell? ⟨w.heap.size + 2, 3, none⟩ = some (.int .i64 co) := (box_cells hT6.hu).1 3
              have s0 : w6.cell? ⟨w.heap.size + 3, 0, none⟩ = some (.int .i64 0) := (box_cells hT6.hs).1 0
              have s1 : w6.cell? ⟨w.heap.size + 3, 1, none⟩ = some (.slice none 0 0) := (box_cells hT6.hs).1 1
              have zs0 : w6.frozen? ⟨w.heap.size + 3, 0, none⟩ = false := (box_cells hT6.hs).2 0
              have zs1 : w6.frozen? ⟨w.heap.size + 3, 1, none⟩ = false := (box_cells hT6.hs).2 1
              go_wp2
              refine bodyPost_ret (v := .tuple #[.agg #[.int .i64 t, .slice x6 rs.length c6], .int .i64 0]) (by simp [results, Tryz.results5, go_sem, s0, s1]) rfl ?_
              have hfin := (hT6.below.setCell (p := ⟨w.heap.size + 3, 0, none⟩) (Nat.le_add_right _ _) (.int .i64 t)).setCell (p := ⟨w.heap.size + 3, 1, none⟩) (Nat.le_add_right _ _) (.slice x6 rs.length c6)
              have hob := ((hOB.put (o := 0) (u := .int .i64 t) hsz5).put (o := 1) (u := .slice x6 rs.length c6) hsz5).low hT5.below.size
              exact ⟨_, rs, t, by rw [hE0], hfin, hob, fun h => absurd hE0 h, fun _ => ⟨rfl, qs, hs, hput⟩⟩
            · have hne : openE t ps id a l mn mx us co = addE ps l mn mx us co ∧ addE ps l mn mx us co ≠ 0 := ⟨hE3, hz⟩
              go_wp2_with fail
              refine (hae).mono ?_
              rintro e w5 ⟨rfl, hb5⟩
              have hT5 := hT4.later hb5
              clear b0 b1 a0 a1 u0 u1 u2 u3 s0 s1 zs0 zs1
              have b0 : w5.cell? ⟨w.heap.size, 0, none⟩ = some (.int .i64 t) := (box_cells hT5.hb).1 0
              have b1 : w5.cell? ⟨w.heap.size, 1, none⟩ = some (.slice x n c) := (box_cells hT5.hb).1 1
              have a0 : w5.cell? ⟨w.heap.size + 1, 0, none⟩ = some (.int .i64 a) := (box_cells hT5.hp).1 0
              have a1 : w5.cell? ⟨w.heap.size + 1, 1, none⟩ = some (.int .i64 l) := (box_cells hT5.hp).1 1
              have u0 : w5.cell? ⟨w.heap.size + 2, 0, none⟩ = some (.int .i64 mn) := (box_cells hT5.hu).1 0
              have u1 : w5.cell? ⟨w.heap.size + 2, 1, none⟩ = some (.int .i64 mx) := (box_cells hT5.hu).1 1
              have u2 : w5.cell? ⟨w.heap.size + 2, 2, none⟩ = some (.int .i64 us) := (box_cells hT5.hu).1 2
              have u3 : w5.cell? ⟨w.heap.size + 2, 3, none⟩ = some (.int .i64 co) := (box_cells hT5.hu).1 3
              have s0 : w5.cell? ⟨w.heap.size + 3, 0, none⟩ = some (.int .i64 0) := (box_cells hT5.hs).1 0
              have s1 : w5.cell? ⟨w.heap.size + 3, 1, none⟩ = some (.slice none 0 0) := (box_cells hT5.hs).1 1
              have zs0 : w5.frozen? ⟨w.heap.size + 3, 0, none⟩ = false := (box_cells hT5.hs).2 0
              have zs1 : w5.frozen? ⟨w.heap.size + 3, 1, none⟩ = false := (box_cells hT5.hs).2 1
              go_wp2
              refine bodyPost_ret (v := .tuple #[.agg #[.int .i64 0, .slice none 0 0], .int .i64 (addE ps l mn mx us co)]) (by simp [results, Tryz.results5, go_sem, s0, s1]) rfl ?_
              exact OpenPost.err hne ((hT5.below.setCell (p := ⟨w.heap.size + 3, 0, none⟩) (Nat.le_add_right _ _) _).setCell (p := ⟨w.heap.size + 3, 1, none⟩) (Nat.le_add_right _ _) _)
        · have hge : 0 ≤ atId ps id := by omega
          have hne : openE t ps id a l mn mx us co = 6 ∧ (6 : Int) ≠ 0 := ⟨hE2.out.trans (if_pos (.inl (by omega))), by decide⟩
          go_wp2_with fail
          refine (hpc).mono ?_
          rintro e w3 ⟨rfl, hb3⟩
          have hT3 := hT2.later hb3
          clear b0 b1 a0 a1 u0 u1 u2 u3 s0 s1 zs0 zs1
          have b0 : w3.cell? ⟨w.heap.size, 0, none⟩ = some (.int .i64 t) := (box_cells hT3.hb).1 0
          have b1 : w3.cell? ⟨w.heap.size, 1, none⟩ = some (.slice x n c) := (box_cells hT3.hb).1 1
          have a0 : w3.cell? ⟨w.heap.size + 1, 0, none⟩ = some (.int .i64 a) := (box_cells hT3.hp).1 0
          have a1 : w3.cell? ⟨w.heap.size + 1, 1, none⟩ = some (.int .i64 l) := (box_cells hT3.hp).1 1
          have u0 : w3.cell? ⟨w.heap.size + 2, 0, none⟩ = some (.int .i64 mn) := (box_cells hT3.hu).1 0
          have u1 : w3.cell? ⟨w.heap.size + 2, 1, none⟩ = some (.int .i64 mx) := (box_cells hT3.hu).1 1
          have u2 : w3.cell? ⟨w.heap.size + 2, 2, none⟩ = some (.int .i64 us) := (box_cells hT3.hu).1 2
          have u3 : w3.cell? ⟨w.heap.size + 2, 3, none⟩ = some (.int .i64 co) := (box_cells hT3.hu).1 3
          have s0 : w3.cell? ⟨w.heap.size + 3, 0, none⟩ = some (.int .i64 0) := (box_cells hT3.hs).1 0
          have s1 : w3.cell? ⟨w.heap.size + 3, 1, none⟩ = some (.slice none 0 0) := (box_cells hT3.hs).1 1
          have zs0 : w3.frozen? ⟨w.heap.size + 3, 0, none⟩ = false := (box_cells hT3.hs).2 0
          have zs1 : w3.frozen? ⟨w.heap.size + 3, 1, none⟩ = false := (box_cells hT3.hs).2 1
          go_wp2
          refine bodyPost_ret (v := .tuple #[.agg #[.int .i64 0, .slice none 0 0], .int .i64 6]) (by simp [results, Tryz.results5, go_sem, s0, s1]) rfl ?_
          exact OpenPost.err hne ((hT3.below.setCell (p := ⟨w.heap.size + 3, 0, none⟩) (Nat.le_add_right _ _) _).setCell (p := ⟨w.heap.size + 3, 1, none⟩) (Nat.le_add_right _ _) _)
      · have hne : openE t ps id a l mn mx us co = 3 ∧ (3 : Int) ≠ 0 := ⟨hE1.out.trans (if_pos (.inr hcz)), by decide⟩
        go_wp2_with fail
        refine (hcp).mono ?_
        rintro e w2 ⟨rfl, hb2⟩
        have hT2 := hT1.later hb2
        clear b0 b1 a0 a1 u0 u1 u2 u3 s0 s1 zs0 zs1
        have b0 : w2.cell? ⟨w.heap.size, 0, none⟩ = some (.int .i64 t) := (box_cells hT2.hb).1 0
        have b1 : w2.cell? ⟨w.heap.size, 1, none⟩ = some (.slice x n c) := (box_cells hT2.hb).1 1
        have a0 : w2.cell? ⟨w.heap.size + 1, 0, none⟩ = some (.int .i64 a) := (box_cells hT2.hp).1 0
        have a1 : w2.cell? ⟨w.heap.size + 1, 1, none⟩ = some (.int .i64 l) := (box_cells hT2.hp).1 1
        have u0 : w2.cell? ⟨w.heap.size + 2, 0, none⟩ = some (.int .i64 mn) := (box_cells hT2.hu).1 0
        have u1 : w2.cell? ⟨w.heap.size + 2, 1, none⟩ = some (.int .i64 mx) := (box_cells hT2.hu).1 1
        have u2 : w2.cell? ⟨w.heap.size + 2, 2, none⟩ = some (.int .i64 us) := (box_cells hT2.hu).1 2
        have u3 : w2.cell? ⟨w.heap.size + 2, 3, none⟩ = some (.int .i64 co) := (box_cells hT2.hu).1 3
        have s0 : w2.cell? ⟨w.heap.size + 3, 0, none⟩ = some (.int .i64 0) := (box_cells hT2.hs).1 0
        have s1 : w2.cell? ⟨w.heap.size + 3, 1, none⟩ = some (.slice none 0 0) := (box_cells hT2.hs).1 1
        have zs0 : w2.frozen? ⟨w.heap.size + 3, 0, none⟩ = false := (box_cells hT2.hs).2 0
        have zs1 : w2.frozen? ⟨w.heap.size + 3, 1, none⟩ = false := (box_cells hT2.hs).2 1
        go_wp2
        refine bodyPost_ret (v := .tuple #[.agg #[.int .i64 0, .slice none 0 0], .int .i64 3]) (by simp [results, Tryz.results5, go_sem, s0, s1]) rfl ?_
        exact OpenPost.err hne ((hT2.below.setCell (p := ⟨w.heap.size + 3, 0, none⟩) (Nat.le_add_right _ _) _).setCell (p := ⟨w.heap.size + 3, 1, none⟩) (Nat.le_add_right _ _) _)
  · have hne : openE t ps id a l mn mx us co = chkB t ps ∧ chkB t ps ≠ 0 := ⟨if_pos hc0, hc0⟩
    go_wp2_with fail
    refine (hck).mono ?_
    rintro e w1 ⟨rfl, hb1⟩
    have hT1 := hT0.later hb1
    clear b0 b1 a0 a1 u0 u1 u2 u3 s0 s1 zs0 zs1
    have b0 : w1.cell? ⟨w.heap.size, 0, none⟩ = some (.int .i64 t) := (box_cells hT1.hb).1 0
    have b1 : w1.cell? ⟨w.heap.size, 1, none⟩ = some (.slice x n c) := (box_cells hT1.hb).1 1
    have a0 : w1.cell? ⟨w.heap.size + 1, 0, none⟩ = some (.int .i64 a) := (box_cells hT1.hp).1 0
    have a1 : w1.cell? ⟨w.heap.size + 1, 1, none⟩ = some (.int .i64 l) := (box_cells hT1.hp).1 1
    have u0 : w1.cell? ⟨w.heap.size + 2, 0, none⟩ = some (.int .i64 mn) := (box_cells hT1.hu).1 0
    have u1 : w1.cell? ⟨w.heap.size + 2, 1, none⟩ = some (.int .i64 mx) := (box_cells hT1.hu).1 1
    have u2 : w1.cell? ⟨w.heap.size + 2, 2, none⟩ = some (.int .i64 us) := (box_cells hT1.hu).1 2
    have u3 : w1.cell? ⟨w.heap.size + 2, 3, none⟩ = some (.int .i64 co) := (box_cells hT1.hu).1 3
    have s0 : w1.cell? ⟨w.heap.size + 3, 0, none⟩ = some (.int .i64 0) := (box_cells hT1.hs).1 0
    have s1 : w1.cell? ⟨w.heap.size + 3, 1, none⟩ = some (.slice none 0 0) := (box_cells hT1.hs).1 1
    have zs0 : w1.frozen? ⟨w.heap.size + 3, 0, none⟩ = false := (box_cells hT1.hs).2 0
    have zs1 : w1.frozen? ⟨w.heap.size + 3, 1, none⟩ = false := (box_cells hT1.hs).2 1
    go_wp2
    refine bodyPost_ret (v := .tuple #[.agg #[.int .i64 0, .slice none 0 0], .int .i64 (chkB t ps)]) (by simp [results, Tryz.results5, go_sem, s0, s1]) rfl ?_
    exact OpenPost.err hne ((hT1.below.setCell (p := ⟨w.heap.size + 3, 0, none⟩) (Nat.le_add_right _ _) _).setCell (p := ⟨w.heap.size + 3, 1, none⟩) (Nat.le_add_right _ _) _)
end Go.Proofs.YtpdoonkhnabfjaaGreat
