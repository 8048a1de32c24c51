/- What first of package space comes to. -/
import Derived.Test.YtbnkgecblaffeaaT
namespace Go.Proofs.Ytbnkgecblaffeaa
open Go.RowKit Go.Shelf
attribute [local go_sem] Oper.semAt_some

theorem own_below {β : Type} {B : Nat} {w : World} (h : w.heap.size ≤ B) : OwnFrom B (fun (_ : β) V => Below w.heap.size w V) :=
  fun _ X Y row hs hg hr => ⟨hg.os.trans hs.os, hg.tape.trans hs.tape, hg.output.trans hs.output, Nat.le_trans hs.size hg.size, fun k hk =>
    (hg.block k (Nat.lt_of_lt_of_le hk hs.size) (fun e => by have := (hr k e.symm).1; omega)).trans (hs.block k hk)⟩
theorem own_const {β : Type} {B : Nat} {p : β → Prop} : OwnFrom B (fun s (_ : World) => p s) := fun _ _ _ _ hs _ _ => hs
theorem heap_old {W : World} {k : Nat} {v : Obj} (o : Obj) (h : W.heap[k]? = some v) : (W.alloc o).heap[k]? = some v := (Below.heap_alloc _ _ _ (Array.getElem?_eq_some_iff.1 h).1).trans h
theorem heap_new {W : World} {k : Nat} (o : Obj) (h : k = W.heap.size) : (W.alloc o).heap[k]? = some o := by subst h; exact World.alloc_heap_new W o
theorem below_put {n : Nat} {w V : World} (h : Below n w V) {l : Nat} (hl : n ≤ l) (o : Obj) : Below n w (V.putObj l o) :=
  ⟨h.os, h.tape, h.output, by simpa using h.size, fun k hk => (World.putObj_heap_other (by omega)).trans (h.block k hk)⟩
theorem box1 {V : World} {b : Nat} {t : TypeId} {p : Value} (h : V.heap[b]? = some (.cells #[p] t)) : V.cell? ⟨b, 0, none⟩ = some p ∧ V.frozen? ⟨b, 0, none⟩ = false := by
  simp [World.cell?, World.frozen?, h]
theorem box2 {V : World} {b : Nat} {t : TypeId} {p q : Value} (h : V.heap[b]? = some (.cells #[p, q] t)) : V.cell? ⟨b, 0, none⟩ = some p ∧ V.cell? ⟨b, 1, none⟩ = some q ∧ V.frozen? ⟨b, 0, none⟩ = false ∧ V.frozen? ⟨b, 1, none⟩ = false := by
  simp [World.cell?, World.frozen?, h]
theorem box2_set {V : World} {b : Nat} {t : TypeId} {p q : Value} (p' q' : Value) (h : V.heap[b]? = some (.cells #[p, q] t)) : ((V.setCell ⟨b, 0, none⟩ p').setCell ⟨b, 1, none⟩ q').heap[b]? = some (.cells #[p', q'] t) := by
  have h1 := heap_setCell_same V b 0 _ t p' h
  have h2 := heap_setCell_same (V.setCell ⟨b, 0, none⟩ p') b 1 _ t q' h1
  simpa using h2
def wantF (sb : Nat) : Value := .func (.func 25) #[] #[.pointer (some ⟨sb, 0, none⟩)]
def firstV : Option (Int × Int) → Value
  | some h => .tuple #[.agg #[.int .i64 h.1, .int .i64 h.2], .bool true]
  | none => .tuple #[.agg #[.int .i64 0, .int .i64 0], .bool false]

theorem six_boxes (w : World) (a l : Int) (x : Option Addr) (n c : Nat) (f : Value) : ∃ V, V = (((((w.alloc (.cells #[.int .i64 a, .int .i64 l, .slice x n c] 26)).alloc (.cells #[f] 49)).alloc (.cells #[.int .i64 0, .int .i64 0] 23)).alloc (.cells #[.bool false] 4)).alloc (.cells #[.int .i64 a, .int .i64 l] 23)).alloc (.cells #[.slice x n c] 24) ∧
    Below w.heap.size w V ∧ V.heap[w.heap.size + 1]? = some (.cells #[f] 49) ∧ V.heap[w.heap.size + 1 + 1]? = some (.cells #[.int .i64 0, .int .i64 0] 23) ∧ V.heap[w.heap.size + 1 + 1 + 1]? = some (.cells #[.bool false] 4) ∧
    V.cell? ⟨w.heap.size + 4, 0, none⟩ = some (.int .i64 a) ∧ V.cell? ⟨w.heap.size + 4, 1, none⟩ = some (.int .i64 l) ∧ V.heap[w.heap.size + 5]? = some (.cells #[.slice x n c] 24) ∧ V.heap.size = w.heap.size + 6 := by
  refine ⟨_, rfl, ?_, ?_, ?_, ?_, ?_, ?_, ?_, ?_⟩
  · exact ((((bl2 w _ _).alloc (by simp; omega) _).alloc (by simp; omega) _).alloc (by simp; omega) _).alloc (by simp; omega) _
  · exact heap_old _ (heap_old _ (heap_old _ (heap_old _ (heap_new _ (by simp)))))
  · exact heap_old _ (heap_old _ (heap_old _ (heap_new _ (by simp))))
  · exact heap_old _ (heap_old _ (heap_new _ (by simp)))
  · have h := heap_old (.cells #[.slice x n c] 24) (heap_new (k := w.heap.size + 4) (W := ((((w.alloc (.cells #[.int .i64 a, .int .i64 l, .slice x n c] 26)).alloc (.cells #[f] 49)).alloc (.cells #[.int .i64 0, .int .i64 0] 23)).alloc (.cells #[.bool false] 4))) (.cells #[.int .i64 a, .int .i64 l] 23) (by simp))
    simp only [World.cell?, h]
    rfl
  · have h := heap_old (.cells #[.slice x n c] 24) (heap_new (k := w.heap.size + 4) (W := ((((w.alloc (.cells #[.int .i64 a, .int .i64 l, .slice x n c] 26)).alloc (.cells #[f] 49)).alloc (.cells #[.int .i64 0, .int .i64 0] 23)).alloc (.cells #[.bool false] 4))) (.cells #[.int .i64 a, .int .i64 l] 23) (by simp))
    simp only [World.cell?, h]
    rfl
  · exact heap_new _ (by simp)
  · simp

set_option maxRecDepth 100000 in
set_option maxHeartbeats 2000000 in
theorem first_any (a l z : Int) (x : Option Addr) (n c : Nat) (ps : List (Int × Int)) (hr : rt a l = true) (hn : n ≤ 64) (sb m : Nat) (w : World) (hp : PS w x n ps) (hs : w.cell? ⟨sb, 0, none⟩ = some (.int .i64 z)) :
    CallsIn Fence.wide m Try.prog 24 #[.agg #[.int .i64 a, .int .i64 l, .slice x n c], wantF sb] w fun e w' =>
      e = .returned (firstV ((hol ps (16 - l).toNat a l).find? fun h => decide (h.2 ≤ z))) ∧ Below w.heap.size w w' := by
  refine callsIn_of_wp_marks Try.func24 rfl trivial ?_ rfl
  simp only [Try.ntmps24, List.size_toArray, List.length_cons, List.length_nil, Nat.reduceAdd, Nat.reduceSub, Array.replicate_succ, Array.replicate_zero, List.push_toArray, List.append_toArray, List.nil_append, List.cons_append]
  gi_wp2_with fail
  refine ⟨trivial, (fun h => (by cases h)), ?_⟩
  refine (holes_is a l x n c _ _).mono ?_
  rintro e w5 ⟨rfl, hw5⟩
  obtain ⟨W6, hW6, hB, y1, y2, y3, c0, c1, u5, s6⟩ := six_boxes w a l x n c (wantF sb)
  rw [← hW6] at hw5
  subst hw5
  clear hW6
  obtain ⟨l0, l1, -, -, -⟩ := rt_range hr
  gi_wp2_with fail
  have hx : 0 < n → ∀ q, x = some q → q.block < w.heap.size := fun h0 q hq => by
    obtain ⟨b, o, hb, c0, _⟩ := hp.cells 0 h0
    rw [hb] at hq
    cases hq
    exact block_lt_of_cell c0
  refine wpIn_rangeFunc_B (h := 6) (T := TH w.heap.size) (n₀ := w.heap.size) (L := []) rfl rfl (gf := 46) (lb := #[.pointer (some ⟨w.heap.size + 4, 0, none⟩), .pointer (some ⟨w.heap.size + 5, 0, none⟩)]) rfl trivial call_holes1
    (hol_seq w.heap.size x n c ps hn hx (16 - l).toNat a l hr (by omega) _ w5 _ _ c0 c1 u5 (by omega) (by omega) (hp.later hB)) (by omega) (by omega) (fun k hk => (by cases hk))
    (fun pre V => (∀ h ∈ pre, decide (h.2 ≤ z) = false) ∧ Below w.heap.size w V ∧ V.heap[w.heap.size + 1]? = some (.cells #[wantF sb] 49) ∧ V.heap[w.heap.size + 1 + 1]? = some (.cells #[.int .i64 0, .int .i64 0] 23) ∧ V.heap[w.heap.size + 1 + 1 + 1]? = some (.cells #[.bool false] 4))
    (fun pre V => (∃ pre' h, pre = pre' ++ [h] ∧ (∀ g ∈ pre', decide (g.2 ≤ z) = false) ∧ decide (h.2 ≤ z) = true ∧ V.heap[w.heap.size + 1 + 1]? = some (.cells #[.int .i64 h.1, .int .i64 h.2] 23)) ∧ Below w.heap.size w V ∧ V.heap[w.heap.size + 1 + 1 + 1]? = some (.cells #[.bool true] 4))
    (own_and own_const (own_and (own_below (by omega)) (own_and (own_block (by omega)) (own_and (own_block (by omega)) (own_block (by omega))))))
    (own_and (fun s X Y row hs hg hr => by
      obtain ⟨p, h, e1, e2, e3, e4⟩ := hs
      exact ⟨p, h, e1, e2, e3, keeps_at hg hr (by omega) e4⟩) (own_and (own_below (by omega)) (own_block (by omega))))
    ⟨(fun h hh => (by cases hh)), hB, y1, y2, y3⟩ ?assign ?body ?done ?stop
  case assign =>
    intro l' x' V K hK
    simp only [enc2, List.setIfInBounds_toArray, List.set_cons_succ, List.set_cons_zero] at hK ⊢
    gi_wp2_with fail
    exact hK _ _ (bl1 V _) (Nat.le_refl _) (by simp) (by simp)
  case body =>
    rintro l' pre x' Bx V hl' hsp ⟨hno, hb, g1, g2, g3⟩ d0 d1
    simp only [enc2, List.setIfInBounds_toArray, List.set_cons_succ, List.set_cons_zero]
    have hw : V.cell? ⟨w.heap.size + 1, 0, none⟩ = some (wantF sb) := by simp [World.cell?, g1]
    unfold wantF at hw ⊢
    have hcall := call_fit1
    obtain ⟨f0, f1, z0, z1⟩ := box2 g2
    obtain ⟨f2, z2⟩ := box1 g3
    gi_wp2_with fail
    refine ⟨trivial, (fun h => (by cases h)), ?_⟩
    have hsb : V.cell? ⟨sb, 0, none⟩ = some (.int .i64 z) := (hb.cell (p := ⟨sb, 0, none⟩) (block_lt_of_cell hs)).trans hs
    refine (CallsIn.inRound l' (callsIn_wide.2 (fit1_any z x'.1 x'.2 sb V hsb))).mono ?_
    rintro e V2 ⟨rfl, hb2⟩
    have hV := hb.size
    have e1 := (hb2.block _ (Array.getElem?_eq_some_iff.1 g1).1).trans g1
    have e2 := (hb2.block _ (Array.getElem?_eq_some_iff.1 g2).1).trans g2
    have e3 := (hb2.block _ (Array.getElem?_eq_some_iff.1 g3).1).trans g3
    have d0' := cell_later hb2 d0
    have d1' := cell_later hb2 d1
    have hbb : Below w.heap.size w V2 := hb.trans (hb2.mono hV)
    clear f0 f1 f2 z0 z1 z2 hw d0 d1 hsb
    obtain ⟨f0, f1, z0, z1⟩ := box2 e2
    obtain ⟨f2, z2⟩ := box1 e3
    cases hd : decide (x'.2 ≤ z)
    · gi_wp2_with fail
      refine ⟨Kl.of_below hb2, ?_, hbb, e1, e2, e3⟩
      intro h hh
      rcases List.mem_append.1 hh with hh | hh
      · exact hno h hh
      · rw [List.mem_singleton.1 hh]; exact hd
    · gi_wp2_with fail
      refine ⟨?_, ⟨pre, x', rfl, hno, hd, ?_⟩, ?_, ?_⟩
      · refine (Kl.of_below hb2).trans ⟨rfl, rfl, rfl, by simp, fun k o _ ho hq => ?_⟩
        have n2 : k ≠ w.heap.size + 1 + 1 := by
          rintro rfl
          rw [e2] at ho
          cases ho
          rcases hq with h | h | ⟨_, v, h | h⟩
          · omega
          · cases h
          · cases h
          · cases h
        have n3 : k ≠ w.heap.size + 1 + 1 + 1 := by
          rintro rfl
          rw [e3] at ho
          cases ho
          rcases hq with h | h | ⟨_, v, h | h⟩
          · omega
          · cases h
          · cases h
          · cases h
        rw [heap_setCell_other _ _ _ _ n3, heap_setCell_other _ _ _ _ n2, heap_setCell_other _ _ _ _ n2]
        exact ho
      · rw [heap_setCell_other _ _ _ _ (by simp)]
        exact box2_set _ _ e2
      · exact ((hbb.setCell (by simp; omega) _).setCell (by simp; omega) _).setCell (by simp; omega) _
      · refine one_setCell (v := .bool false) ?_
        exact ((heap_setCell_other _ _ _ _ (by simp)).trans (heap_setCell_other _ _ _ _ (by simp))).trans e3
  case done =>
    rintro D xs V hD rfl ⟨hno, hb, g1, g2, g3⟩ hkl hdef
    obtain ⟨f0, f1, z0, z1⟩ := box2 g2
    obtain ⟨f2, z2⟩ := box1 g3
    have hV := hb.size
    have hfind : (hol ps (16 - l).toNat a l).find? (fun h => decide (h.2 ≤ z)) = none := List.find?_eq_none.2 (fun h hh => by rw [hno h hh]; simp)
    gi_wp2_with fail
    have nD : ∀ {k : Nat}, k ≤ w.heap.size + 5 → k ≠ D := fun h => by omega
    have hD' : (((V.setCell ⟨w.heap.size + 1 + 1, 0, none⟩ (.int .i64 0)).setCell ⟨w.heap.size + 1 + 1, 1, none⟩ (.int .i64 0)).setCell ⟨w.heap.size + 1 + 1 + 1, 0, none⟩ (.bool false)).heap[D]? = some (.deferred (some [])) := by
      rw [heap_setCell_other _ _ _ _ (by simp; omega), heap_setCell_other _ _ _ _ (by simp; omega), heap_setCell_other _ _ _ _ (by simp; omega)]
      exact hdef
    have h2' : (((V.setCell ⟨w.heap.size + 1 + 1, 0, none⟩ (.int .i64 0)).setCell ⟨w.heap.size + 1 + 1, 1, none⟩ (.int .i64 0)).setCell ⟨w.heap.size + 1 + 1 + 1, 0, none⟩ (.bool false)).heap[w.heap.size + 1 + 1]? = some (.cells #[.int .i64 0, .int .i64 0] 23) := by
      rw [heap_setCell_other _ _ _ _ (by simp)]
      exact box2_set _ _ g2
    have h3' : (((V.setCell ⟨w.heap.size + 1 + 1, 0, none⟩ (.int .i64 0)).setCell ⟨w.heap.size + 1 + 1, 1, none⟩ (.int .i64 0)).setCell ⟨w.heap.size + 1 + 1 + 1, 0, none⟩ (.bool false)).heap[w.heap.size + 1 + 1 + 1]? = some (.cells #[.bool false] 4) :=
      one_setCell (((heap_setCell_other _ _ _ _ (by simp)).trans (heap_setCell_other _ _ _ _ (by simp))).trans g3)
    have hb' : Below w.heap.size w (((V.setCell ⟨w.heap.size + 1 + 1, 0, none⟩ (.int .i64 0)).setCell ⟨w.heap.size + 1 + 1, 1, none⟩ (.int .i64 0)).setCell ⟨w.heap.size + 1 + 1 + 1, 0, none⟩ (.bool false)) := ((hb.setCell (by simp; omega) _).setCell (by simp; omega) _).setCell (by simp; omega) _
    generalize (((V.setCell ⟨w.heap.size + 1 + 1, 0, none⟩ (.int .i64 0)).setCell ⟨w.heap.size + 1 + 1, 1, none⟩ (.int .i64 0)).setCell ⟨w.heap.size + 1 + 1 + 1, 0, none⟩ (.bool false)) = V2 at hD' h2' h3' hb' ⊢
    refine ⟨by simp, .inl ⟨_, _, rfl, run_takeDeferred hD', ?_⟩⟩
    obtain ⟨e0, e1, -, -⟩ := box2 ((World.putObj_heap_other (o := .deferred none) (nD (by omega))).trans h2')
    obtain ⟨e2, -⟩ := box1 ((World.putObj_heap_other (o := .deferred none) (nD (by omega))).trans h3')
    refine ⟨firstV none, by simp [results, Try.results24, go_sem, e0, e1, e2, firstV], by rw [hfind], below_put hb' (by omega) _⟩
  case stop =>
    rintro D pre V hD hpre ⟨⟨pre', h, rfl, hno, hyes, g2⟩, hb, g3⟩ hkl hdef
    have hV := hb.size
    have hfind : (hol ps (16 - l).toNat a l).find? (fun h => decide (h.2 ≤ z)) = some h := by
      obtain ⟨rest, hrest⟩ := hpre
      rw [← hrest, List.append_assoc, List.find?_append, List.find?_eq_none.2 (fun g hg => by rw [hno g hg]; simp)]
      simp only [Option.none_or, List.cons_append, List.nil_append, List.find?_cons, hyes]
    gi_wp2_with fail
    have nD : ∀ {k : Nat}, k ≤ w.heap.size + 5 → k ≠ D := fun h => by omega
    refine ⟨by simp, .inl ⟨_, _, rfl, run_takeDeferred hdef, ?_⟩⟩
    obtain ⟨e0, e1, -, -⟩ := box2 ((World.putObj_heap_other (o := .deferred none) (nD (by omega))).trans g2)
    obtain ⟨e2, -⟩ := box1 ((World.putObj_heap_other (o := .deferred none) (nD (by omega))).trans g3)
    refine ⟨firstV (some h), by simp [results, Try.results24, go_sem, e0, e1, e2, firstV], by rw [hfind], below_put hb (by omega) _⟩
end Go.Proofs.Ytbnkgecblaffeaa
