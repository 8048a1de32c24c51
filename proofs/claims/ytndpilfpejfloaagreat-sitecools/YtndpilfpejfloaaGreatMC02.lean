/- A part of the proof. -/
import Derived.Test.YtndpilfpejfloaaGreatMC01
set_option maxRecDepth 100000
set_option maxHeartbeats 20000000
namespace Go.Proofs.YtndpilfpejfloaaGreat
variable {W w V w1 w' : World} {k n b base c i rn rc sn sc g f : Nat} {v p q v' : Value} {t : TypeId} {a : Act} {l : List Oper} {H qs o : List (Int × Int)} {x rx sx : Option Addr} {m mn mx us co : Int} {ns : List Int} {P : Program} {ops : Array Oper} {C S : World → Prop} {listed : Array Bool} {Q : Exit → Act → World → Prop} {T : Nat → Bool} {oi : Oper}
open Go.RowKit Go.Shelf
attribute [local go_sem] Oper.semAt_some
theorem BD {β : Type} {B : Nat} {w : World} (h : w.heap.size ≤ B) : OwnFrom B (fun (_ : β) V => Below w.heap.size w V) :=
 fun _ X Y row hs hg hr => ⟨hg.os.trans hs.os, hg.tape.trans hs.tape, hg.output.trans hs.output, Nat.le_trans hs.size hg.size, fun k hk =>
  (hg.block k (Nat.lt_of_lt_of_le hk hs.size) (fun e => by have := (hr k e.symm).1; omega)).trans (hs.block k hk)⟩
theorem KD {β : Type} {B : Nat} {p : β → Prop} : OwnFrom B (fun s (_ : World) => p s) := fun _ _ _ _ hs _ _ => hs
theorem aF {v : Obj} (o : Obj) (h : W.heap[k]? = some v) : (W.alloc o).heap[k]? = some v := (Below.heap_alloc _ _ _ (zG h)).trans h
theorem aB (o : Obj) (h : k = W.heap.size) : (W.alloc o).heap[k]? = some o := by subst h; exact World.alloc_heap_new W o
theorem BE (h : Below n w V) {l : Nat} (hl : n ≤ l) (o : Obj) : Below n w (V.putObj l o) :=
 ⟨h.os, h.tape, h.output, by simpa using h.size, fun k hk => (World.putObj_heap_other (by omega)).trans (h.block k hk)⟩
theorem M8 (h : V.heap[b]? = some (.cells #[p] t)) : V.cell? ⟨b, 0, none⟩ = some p ∧ V.frozen? ⟨b, 0, none⟩ = false := by
 simp [World.cell?, World.frozen?, h]
theorem nT (h : V.heap[b]? = some (.cells #[p, q] t)) : V.cell? ⟨b, 0, none⟩ = some p ∧ V.cell? ⟨b, 1, none⟩ = some q ∧ V.frozen? ⟨b, 0, none⟩ = false ∧ V.frozen? ⟨b, 1, none⟩ = false := by
 simp [World.cell?, World.frozen?, h]
theorem D8 (p' q' : Value) (h : V.heap[b]? = some (.cells #[p, q] t)) : ((V.setCell ⟨b, 0, none⟩ p').setCell ⟨b, 1, none⟩ q').heap[b]? = some (.cells #[p', q'] t) := by
 have h1 := heap_setCell_same V b 0 _ t p' h
 have h2 := heap_setCell_same (V.setCell ⟨b, 0, none⟩ p') b 1 _ t q' h1
 simpa using h2
def BF (sb : Nat) : Value := .func (.func 210) #[] #[.pointer (some ⟨sb, 0, none⟩)]
def qW : Option (Int × Int) → Value
 | some h => .tuple #[.agg #[.int .i64 h.1, .int .i64 h.2], .bool true]
 | none => .tuple #[.agg #[.int .i64 0, .int .i64 0], .bool false]
theorem KE (w : World) (a l : Int) (x : Option Addr) (n c : Nat) (f : Value) : ∃ V, V = (((((w.alloc (.cells #[.int .i64 a, .int .i64 l, .slice x n c] 134)).alloc (.cells #[f] 262)).alloc (.cells #[.int .i64 0, .int .i64 0] 49)).alloc (.cells #[.bool false] 4)).alloc (.cells #[.int .i64 a, .int .i64 l] 49)).alloc (.cells #[.slice x n c] 94) ∧
  Below w.heap.size w V ∧ V.heap[w.heap.size + 1]? = some (.cells #[f] 262) ∧ V.heap[w.heap.size + 1 + 1]? = some (.cells #[.int .i64 0, .int .i64 0] 49) ∧ V.heap[w.heap.size + 1 + 1 + 1]? = some (.cells #[.bool false] 4) ∧
  V.cell? ⟨w.heap.size + 4, 0, none⟩ = some (.int .i64 a) ∧ V.cell? ⟨w.heap.size + 4, 1, none⟩ = some (.int .i64 l) ∧ V.heap[w.heap.size + 5]? = some (.cells #[.slice x n c] 94) ∧ V.heap.size = w.heap.size + 6 := by
 refine ⟨_, rfl, ?_, ?_, ?_, ?_, ?_, ?_, ?_, ?_⟩
 ·exact ((((cC w _ _).alloc (by simp; omega) _).alloc (by simp; omega) _).alloc (by simp; omega) _).alloc (by simp; omega) _
 ·exact aF _ (aF _ (aF _ (aF _ (aB _ (by simp)))))
 ·exact aF _ (aF _ (aF _ (aB _ (by simp))))
 ·exact aF _ (aF _ (aB _ (by simp)))
 ·have h := aF (.cells #[.slice x n c] 94) (aB (k := w.heap.size + 4) (W := ((((w.alloc (.cells #[.int .i64 a, .int .i64 l, .slice x n c] 134)).alloc (.cells #[f] 262)).alloc (.cells #[.int .i64 0, .int .i64 0] 49)).alloc (.cells #[.bool false] 4))) (.cells #[.int .i64 a, .int .i64 l] 49) (by simp))
  simp only [World.cell?, h]
  rfl
 ·have h := aF (.cells #[.slice x n c] 94) (aB (k := w.heap.size + 4) (W := ((((w.alloc (.cells #[.int .i64 a, .int .i64 l, .slice x n c] 134)).alloc (.cells #[f] 262)).alloc (.cells #[.int .i64 0, .int .i64 0] 49)).alloc (.cells #[.bool false] 4))) (.cells #[.int .i64 a, .int .i64 l] 49) (by simp))
  simp only [World.cell?, h]
  rfl
 ·exact aB _ (by simp)
 ·simp
theorem KF (a l z : Int) (x : Option Addr) (n c : Nat) (ps : List (Int × Int)) (hr : rt a l = true) (hn : n ≤ 64) (sb m : Nat) (w : World) (hp : PS w x n ps) (hs : w.cell? ⟨sb, 0, none⟩ = some (.int .i64 z)) :
  CallsIn Fence.wide m Tryz.prog 209 #[.agg #[.int .i64 a, .int .i64 l, .slice x n c], BF sb] w fun e w' =>
   e = .returned (qW ((hol ps (16 - l).toNat a l).find? fun h => decide (h.2 ≤ z))) ∧ Below w.heap.size w w' := by
 refine callsIn_of_wp_marks Tryz.func209 rfl trivial ?_ rfl
 simp only [Tryz.ntmps209, List.size_toArray, List.length_cons, List.length_nil, Nat.reduceAdd, Nat.reduceSub, Array.replicate_succ, Array.replicate_zero, List.push_toArray, List.append_toArray, List.nil_append, List.cons_append]
 gi_wp2_with fail
 refine ⟨trivial, (fun h => (by cases h)), ?_⟩
 refine (xL a l x n c _ _).mono ?_
 rintro e w5 ⟨rfl, hw5⟩
 obtain ⟨W6, hW6, hB, y1, y2, y3, c0, c1, u5, s6⟩ := KE w a l x n c (BF sb)
 rw [← hW6] at hw5
 subst hw5
 clear hW6
 obtain ⟨l0, l1, -, -, -⟩ := bO hr
 gi_wp2_with fail
 have hx : 0 < n → ∀ q, x = some q → q.block < w.heap.size := fun h0 q hq => by
  obtain ⟨b, o, hb, c0, _⟩ := hp.cells 0 h0
  rw [hb] at hq
  cases hq
  exact block_lt_of_cell c0
 refine gW (h := 6) (T := TH w.heap.size) (n₀ := w.heap.size) (L := []) rfl rfl (gf := 226) (lb := #[.pointer (some ⟨w.heap.size + 4, 0, none⟩), .pointer (some ⟨w.heap.size + 5, 0, none⟩)]) rfl trivial nR
  (I7 w.heap.size x n c ps hn hx (16 - l).toNat a l hr (by omega) _ w5 _ _ c0 c1 u5 (by omega) (by omega) (hp.later hB)) (by omega) (by omega) (fun k hk => (by cases hk))
  (fun pre V => (∀ h ∈ pre, decide (h.2 ≤ z) = false) ∧ Below w.heap.size w V ∧ V.heap[w.heap.size + 1]? = some (.cells #[BF sb] 262) ∧ V.heap[w.heap.size + 1 + 1]? = some (.cells #[.int .i64 0, .int .i64 0] 49) ∧ V.heap[w.heap.size + 1 + 1 + 1]? = some (.cells #[.bool false] 4))
  (fun pre V => (∃ pre' h, pre = pre' ++ [h] ∧ (∀ g ∈ pre', decide (g.2 ≤ z) = false) ∧ decide (h.2 ≤ z) = true ∧ V.heap[w.heap.size + 1 + 1]? = some (.cells #[.int .i64 h.1, .int .i64 h.2] 49)) ∧ Below w.heap.size w V ∧ V.heap[w.heap.size + 1 + 1 + 1]? = some (.cells #[.bool true] 4))
  (fI KD (fI (BD (by omega)) (fI (jO (by omega)) (fI (jO (by omega)) (jO (by omega))))))
  (fI (fun s X Y row hs hg hr => by
   obtain ⟨p, h, e1, e2, e3, e4⟩ := hs
   exact ⟨p, h, e1, e2, e3, lM hg hr (by omega) e4⟩) (fI (BD (by omega)) (jO (by omega))))
  ⟨(fun h hh => (by cases hh)), hB, y1, y2, y3⟩ ?assign ?body ?done ?stop
 case assign =>
  intro l' x' V K hK
  simp only [lN, List.setIfInBounds_toArray, List.set_cons_succ, List.set_cons_zero] at hK ⊢
  gi_wp2_with fail
  exact hK _ _ (bl1 V _) (zE) (by simp) (by simp)
 case body =>
  rintro l' pre x' Bx V hl' hsp ⟨hno, hb, g1, g2, g3⟩ d0 d1
  simp only [lN, List.setIfInBounds_toArray, List.set_cons_succ, List.set_cons_zero]
  have hw : V.cell? ⟨w.heap.size + 1, 0, none⟩ = some (BF sb) := by simp [World.cell?, g1]
  unfold BF at hw ⊢
  have hcall := KB
  obtain ⟨f0, f1, z0, z1⟩ := nT g2
  obtain ⟨f2, z2⟩ := M8 g3
  gi_wp2_with fail
  refine ⟨trivial, (fun h => (by cases h)), ?_⟩
  have hsb : V.cell? ⟨sb, 0, none⟩ = some (.int .i64 z) := (hb.cell (p := ⟨sb, 0, none⟩) (block_lt_of_cell hs)).trans hs
  refine (CallsIn.inRound l' (callsIn_wide.2 (M2 z x'.1 x'.2 sb V hsb))).mono ?_
  rintro e V2 ⟨rfl, hb2⟩
  have hV := hb.size
  have e1 := (hb2.block _ (zG g1)).trans g1
  have e2 := (hb2.block _ (zG g2)).trans g2
  have e3 := (hb2.block _ (zG g3)).trans g3
  have d0' := cell_later hb2 d0
  have d1' := cell_later hb2 d1
  have hbb : Below w.heap.size w V2 := hb.trans (hb2.mono hV)
  clear f0 f1 f2 z0 z1 z2 hw d0 d1 hsb
  obtain ⟨f0, f1, z0, z1⟩ := nT e2
  obtain ⟨f2, z2⟩ := M8 e3
  cases hd : decide (x'.2 ≤ z)
  ·gi_wp2_with fail
   refine ⟨Kl.of_below hb2, ?_, hbb, e1, e2, e3⟩
   intro h hh
   rcases List.mem_append.1 hh with hh | hh
   ·exact hno h hh
   ·rw [List.mem_singleton.1 hh]; exact hd
  ·gi_wp2_with fail
   refine ⟨?_, ⟨pre, x', rfl, hno, hd, ?_⟩, ?_, ?_⟩
   ·refine (Kl.of_below hb2).trans ⟨rfl, rfl, rfl, by simp, fun k o _ ho hq => ?_⟩
    have n2 : k ≠ w.heap.size + 1 + 1 := by
     rintro rfl
     rw [e2] at ho
     cases ho
     rcases hq with h | h | ⟨_, v, h | h⟩
     ·omega
     ·cases h
     ·cases h
     ·cases h
    have n3 : k ≠ w.heap.size + 1 + 1 + 1 := by
     rintro rfl
     rw [e3] at ho
     cases ho
     rcases hq with h | h | ⟨_, v, h | h⟩
     ·omega
     ·cases h
     ·cases h
     ·cases h
    rw [zB n3, zB n2, zB n2]
    exact ho
   ·rw [zB (by simp)]
    exact D8 _ _ e2
   ·exact ((hbb.setCell (by simp; omega) _).setCell (by simp; omega) _).setCell (by simp; omega) _
   ·refine one_setCell (v := .bool false) ?_
    exact ((zB (by simp)).trans (zB (by simp))).trans e3
 case done =>
  rintro D xs V hD rfl ⟨hno, hb, g1, g2, g3⟩ hkl hdef
  obtain ⟨f0, f1, z0, z1⟩ := nT g2
  obtain ⟨f2, z2⟩ := M8 g3
  have hV := hb.size
  have hfind : (hol ps (16 - l).toNat a l).find? (fun h => decide (h.2 ≤ z)) = none := List.find?_eq_none.2 (fun h hh => by rw [hno h hh]; simp)
  gi_wp2_with fail
  have nD : ∀ {k : Nat}, k ≤ w.heap.size + 5 → k ≠ D := fun h => by omega
  have hD' : (((V.setCell ⟨w.heap.size + 1 + 1, 0, none⟩ (.int .i64 0)).setCell ⟨w.heap.size + 1 + 1, 1, none⟩ (.int .i64 0)).setCell ⟨w.heap.size + 1 + 1 + 1, 0, none⟩ (.bool false)).heap[D]? = some (.deferred (some [])) := by
   rw [zB (by simp; omega), zB (by simp; omega), zB (by simp; omega)]
   exact hdef
  have h2' : (((V.setCell ⟨w.heap.size + 1 + 1, 0, none⟩ (.int .i64 0)).setCell ⟨w.heap.size + 1 + 1, 1, none⟩ (.int .i64 0)).setCell ⟨w.heap.size + 1 + 1 + 1, 0, none⟩ (.bool false)).heap[w.heap.size + 1 + 1]? = some (.cells #[.int .i64 0, .int .i64 0] 49) := by
   rw [zB (by simp)]
   exact D8 _ _ g2
  have h3' : (((V.setCell ⟨w.heap.size + 1 + 1, 0, none⟩ (.int .i64 0)).setCell ⟨w.heap.size + 1 + 1, 1, none⟩ (.int .i64 0)).setCell ⟨w.heap.size + 1 + 1 + 1, 0, none⟩ (.bool false)).heap[w.heap.size + 1 + 1 + 1]? = some (.cells #[.bool false] 4) :=
   one_setCell (((zB (by simp)).trans (zB (by simp))).trans g3)
  have hb' : Below w.heap.size w (((V.setCell ⟨w.heap.size + 1 + 1, 0, none⟩ (.int .i64 0)).setCell ⟨w.heap.size + 1 + 1, 1, none⟩ (.int .i64 0)).setCell ⟨w.heap.size + 1 + 1 + 1, 0, none⟩ (.bool false)) := ((hb.setCell (by simp; omega) _).setCell (by simp; omega) _).setCell (by simp; omega) _
  generalize (((V.setCell ⟨w.heap.size + 1 + 1, 0, none⟩ (.int .i64 0)).setCell ⟨w.heap.size + 1 + 1, 1, none⟩ (.int .i64 0)).setCell ⟨w.heap.size + 1 + 1 + 1, 0, none⟩ (.bool false)) = V2 at hD' h2' h3' hb' ⊢
  refine ⟨by simp, .inl ⟨_, _, rfl, run_takeDeferred hD', ?_⟩⟩
  obtain ⟨e0, e1, -, -⟩ := nT ((World.putObj_heap_other (o := .deferred none) (nD (by omega))).trans h2')
  obtain ⟨e2, -⟩ := M8 ((World.putObj_heap_other (o := .deferred none) (nD (by omega))).trans h3')
  refine ⟨qW none, by simp [results, Tryz.results209, go_sem, e0, e1, e2, qW], by rw [hfind], BE hb' (by omega) _⟩
 case stop =>
  rintro D pre V hD hpre ⟨⟨pre', h, rfl, hno, hyes, g2⟩, hb, g3⟩ hkl hdef
  have hV := hb.size
  have hfind : (hol ps (16 - l).toNat a l).find? (fun h => decide (h.2 ≤ z)) = some h := by
   obtain ⟨rest, hrest⟩ := hpre
   rw [← hrest, List.append_assoc, List.find?_append, List.find?_eq_none.2 (fun g hg => by rw [hno g hg]; simp)]
   simp only [Option.none_or, List.cons_append, List.nil_append, List.find?_cons, hyes]
  gi_wp2_with fail
  have nD : ∀ {k : Nat}, k ≤ w.heap.size + 5 → k ≠ D := fun h => by omega
  refine ⟨by simp, .inl ⟨_, _, rfl, run_takeDeferred hdef, ?_⟩⟩
  obtain ⟨e0, e1, -, -⟩ := nT ((World.putObj_heap_other (o := .deferred none) (nD (by omega))).trans g2)
  obtain ⟨e2, -⟩ := M8 ((World.putObj_heap_other (o := .deferred none) (nD (by omega))).trans g3)
  refine ⟨qW (some h), by simp [results, Tryz.results209, go_sem, e0, e1, e2, qW], by rw [hfind], BE hb (by omega) _⟩
open Go.RowKit
theorem KG (a l : Int) (w : World) :
  Calls Tryz.prog 168 #[.agg #[.int .i64 a, .int .i64 l]] w fun e w' => e = .returned (.int .i64 a) ∧ Below w.heap.size w w' := by
 go_enter Tryz.func168, Tryz.ntmps168
 go_wp2
 go_ret
 exact ⟨rfl, bl1 _ _⟩
theorem GX (args : Array Value) (W : World) : (callFunc 168 args).run Tryz.prog W = .ok (.enter 168 args) W := by simp [go_sem]
theorem isNaN_any (a : Int) (w : World) :
  Calls Tryz.prog 198 #[.int .i64 a] w fun e w' => e = .returned (.bool false) ∧ w' = w := by
 go_enter Tryz.func198, Tryz.ntmps198
 go_wp2
 go_ret
 exact ⟨rfl, rfl⟩
def D9 (a c v : Int) : Prop := (a < c ∧ v = -1) ∨ (a = c ∧ v = 0) ∨ (c < a ∧ v = 1)
theorem xO (a c v : Int) (hv : D9 a c v) (w : World) :
  Calls Tryz.prog 159 #[.int .i64 a, .int .i64 c] w fun e w' => e = .returned (.int .i64 v) ∧ w' = w := by
 rcases hv with ⟨h, rfl⟩ | ⟨h, rfl⟩ | ⟨h, rfl⟩
 ·go_enter Tryz.func159, Tryz.ntmps159
  go_wp2_with (go_at_call 198; refine (isNaN_any _ _).mono ?_; rintro e w1 ⟨rfl, rfl⟩)
  go_ret
  exact ⟨rfl, rfl⟩
 ·subst h
  go_enter Tryz.func159, Tryz.ntmps159
  go_wp2_with (go_at_call 198; refine (isNaN_any _ _).mono ?_; rintro e w1 ⟨rfl, rfl⟩)
  go_ret
  exact ⟨rfl, rfl⟩
 ·go_enter Tryz.func159, Tryz.ntmps159
  go_wp2_with (go_at_call 198; refine (isNaN_any _ _).mono ?_; rintro e w1 ⟨rfl, rfl⟩)
  go_ret
  exact ⟨rfl, rfl⟩
theorem GY (a l c m v : Int) (hv : D9 a c v) (bb k : Nat) (w : World) (hby : w.cell? ⟨bb, 0, none⟩ = some (.func (.func 168) #[] #[])) :
  Calls Tryz.prog 207 #[.agg #[.int .i64 a, .int .i64 l], .agg #[.int .i64 c, .int .i64 m], .slice (some ⟨bb, 0, none⟩) 1 k] w fun e w' => e = .returned (.int .i64 v) ∧ Below w.heap.size w w' := by
 have hcall := GX
 go_enter Tryz.func207, Tryz.ntmps207
 go_wp2
 go_loopw [12] (fun i wr => ∃ j : Nat, (j = 0 ∨ (j = 1 ∧ v = 0)) ∧ i = .int .i64 j ∧ Below (w.heap.size + 1 + 1) ((w.alloc (.cells #[.int .i64 a, .int .i64 l] 49)).alloc (.cells #[.int .i64 c, .int .i64 m] 49)) wr) (fun i _ => 1 - (intOf i).toNat)
 case atStart => exact ⟨0, .inl rfl, rfl, zD⟩
 case round =>
  obtain ⟨j, hj, rfl, hB⟩ := hrel
  rcases hj with rfl | ⟨rfl, hv0⟩
  ·have hz := hB.size
   simp only [World.size_alloc] at hz
   have hbl : bb < w.heap.size := block_lt_of_cell hby
   have e0 : wr.cell? ⟨w.heap.size, 0, none⟩ = some (.int .i64 a) := (hB.cell (p := ⟨w.heap.size, 0, none⟩) (by show w.heap.size < _; omega)).trans (by simp)
   have e1 : wr.cell? ⟨w.heap.size, 1, none⟩ = some (.int .i64 l) := (hB.cell (p := ⟨w.heap.size, 1, none⟩) (by show w.heap.size < _; omega)).trans (by simp)
   have e2 : wr.cell? ⟨w.heap.size + 1, 0, none⟩ = some (.int .i64 c) := (hB.cell (p := ⟨w.heap.size + 1, 0, none⟩) (by show w.heap.size + 1 < _; omega)).trans (by simp)
   have e3 : wr.cell? ⟨w.heap.size + 1, 1, none⟩ = some (.int .i64 m) := (hB.cell (p := ⟨w.heap.size + 1, 1, none⟩) (by show w.heap.size + 1 < _; omega)).trans (by simp)
   have e4 : wr.cell? ⟨bb, 0, none⟩ = some (.func (.func 168) #[] #[]) := (hB.cell (p := ⟨bb, 0, none⟩) (by show bb < _; omega)).trans (cell_later (cC w _ _) hby)
   have g0 := Ws.here e0
   have g1 := Ws.here e1
   have g2 := Ws.here e2
   have g3 := Ws.here e3
   go_upto_region 4 with fail
   clear e0 e1 e2 e3 e4
   refine aK wr.heap.size (by kernel_rfl) (by kernel_rfl) ?_
   repeat (go_big_quiet_step (first | (go_at_call 168; exact Calls.in_ws (zE) (KG _ _ _)) | (go_at_call 159; exact Calls.in_ws_same (xO _ _ _ hv _))))
   refine wpQuiet_nil ?_
   rintro _ ⟨u, rfl⟩
   have hu := hB.trans (u.property.mono hz)
   generalize u.val = wu at hu ⊢
   clear u g0 g1 g2 g3
   rcases hv with ⟨h, rfl⟩ | ⟨h, rfl⟩ | ⟨h, rfl⟩
   ·go_wp2
    go_ret
    exact ⟨rfl, (cC w _ _).trans (hu.mono (by omega))⟩
   ·go_wp2
    go_roundw
    case rel => exact ⟨1, .inr ⟨rfl, trivial⟩, by go_num, hu⟩
    case measure => simp [intOf]
   ·go_wp2
    go_ret
    exact ⟨rfl, (cC w _ _).trans (hu.mono (by omega))⟩
  ·subst hv0
   go_wp2
   go_ret
   exact ⟨rfl, (cC w _ _).trans (hB.mono (by omega))⟩
def qX (ps : List (Int × Int)) (i : Nat) : Bool := i == 0 || decide (dB ps (i - 1) < dB ps i)
def vF (ps : List (Int × Int)) : Bool := (List.range ps.length).all (qX ps)
theorem QS {ps : List (Int × Int)} (hk : k < ps.length) (h : qX ps k = false) : vF ps = false := by
 unfold vF
 rw [List.all_eq_false]
 exact ⟨k, by simpa using hk, by simp [h]⟩
theorem M9 {ps : List (Int × Int)} (h : ∀ j, j < ps.length → qX ps j = true) : vF ps = true := by
 unfold vF
 rw [List.all_eq_true]
 intro j hj
 exact h j (by simpa using hj)
theorem rise_any (x : Option Addr) (n c : Nat) (ps : List (Int × Int)) (bb k : Nat) (w : World) (hp : PS w x n ps) (hn : n ≤ 64) (hby : w.cell? ⟨bb, 0, none⟩ = some (.func (.func 168) #[] #[])) :
  Calls Tryz.prog 167 #[.slice x n c, .slice (some ⟨bb, 0, none⟩) 1 k] w fun e w' => e = .returned (.bool (vF ps)) ∧ Below w.heap.size w w' := by
 go_enter Tryz.func167, Tryz.ntmps167
 go_wp2
 go_loopw [5] (fun i wr => ∃ j : Nat, 1 ≤ j ∧ j ≤ n + 1 ∧ i = .int .i64 j ∧ Below w.heap.size w wr ∧ (∀ i, i < j → i < n → qX ps i = true)) (fun i _ => n + 1 - (intOf i).toNat)
 case atStart => exact ⟨1, by omega, by omega, rfl, zD, fun i hi _ => by
  obtain rfl : i = 0 := by omega
  rfl⟩
 case round =>
  obtain ⟨j, hj1, hjn, rfl, hB, hok⟩ := hrel
  have hz := hB.size
  have hpl := hp.len
  by_cases hlt : j < n
  ·obtain ⟨i, rfl⟩ : ∃ i, j = i + 1 := ⟨j - 1, by omega⟩
   have hp2 := hp.later hB
   obtain ⟨b, o, rfl, c0, c1⟩ := hp2.cells i (by omega)
   obtain ⟨b2, o2, hbo, c2, c3⟩ := hp2.cells (i + 1) (by omega)
   simp only [Option.some.injEq, Addr.mk.injEq, and_true] at hbo
   obtain ⟨rfl, rfl⟩ := hbo
   have hby' := cell_later hB hby
   have g0 := Ws.here c0
   have g1 := Ws.here c1
   have g2 := Ws.here c2
   have g3 := Ws.here c3
   have g4 := Ws.here hby'
   have hv : ∃ v, D9 (dB ps i) (dB ps (i + 1)) v ∧ (decide (dB ps i < dB ps (i + 1)) = !(decide (0 ≤ v))) := by
    rcases Int.lt_trichotomy (dB ps i) (dB ps (i + 1)) with h | h | h
    ·exact ⟨-1, .inl ⟨h, rfl⟩, by simp [h]⟩
    ·exact ⟨0, .inr (.inl ⟨h, rfl⟩), by simp [h]⟩
    ·exact ⟨1, .inr (.inr ⟨h, rfl⟩), by simp; omega⟩
   obtain ⟨v, hv, hd⟩ := hv
   go_upto_region 4 with fail
   clear c0 c1 c2 c3
   refine aK wr.heap.size (by kernel_rfl) (by kernel_rfl) ?_
   cases hg : decide (0 ≤ v)
   all_goals rw [hg] at hd
   all_goals repeat (go_big_quiet_step ((go_at_call 207; exact Calls.in_ws (zE) (GY _ _ _ _ _ hv _ _ _ (g4 _)))))
   all_goals refine wpQuiet_nil ?_
   all_goals rintro _ ⟨u, rfl⟩
   all_goals have hu := hB.trans (u.property.mono hz)
   all_goals generalize u.val = wu at hu ⊢
   all_goals clear u g0 g1 g2 g3 g4
   all_goals go_wp2
   ·go_roundw
    case rel => exact ⟨i + 1 + 1, by omega, by omega, by go_num, hu, fun q hq hqn => by
     by_cases hq2 : q < i + 1
     ·exact hok q hq2 hqn
     ·obtain rfl : q = i + 1 := by omega
      simp only [qX, Nat.add_sub_cancel, hd]
      simp⟩
    case measure => simp [intOf]; omega
   ·go_ret
    exact ⟨aM (QS (k := i + 1) (by omega) (by simp only [qX, Nat.add_sub_cancel, hd]; simp)).symm, hu⟩
  ·go_wp2
   go_ret
   exact ⟨aM (M9 (fun i hi => hok i (by omega) (by omega))).symm, hB⟩
theorem EA {a l : Int} {ps : List (Int × Int)} : eW a l ps = ((List.range ps.length).all (fun i => jA (dB ps i) (eA ps i) a l && (i == 0 || !fK (dB ps (i - 1)) (eA ps (i - 1)) (dB ps i) (eA ps i))) && vF ps) := by
 rw [Bool.eq_iff_iff]
 unfold eW vF
 simp only [zH, List.all_eq_true, List.mem_range, J8, qX, Bool.or_eq_true, beq_iff_eq]
 constructor
 ·intro h
  exact ⟨fun i hi => ⟨(h i hi).1, (h i hi).2.imp id (·.2)⟩, fun i hi => (h i hi).2.imp id (·.1)⟩
 ·rintro ⟨h, g⟩ i hi
  refine ⟨(h i hi).1, ?_⟩
  rcases (h i hi).2 with h1 | h1
  ·exact .inl h1
  ·rcases g i hi with g1 | g1
   ·exact .inl g1
   ·exact .inr ⟨g1, h1⟩
def nU (a l : Int) (ps : List (Int × Int)) (i : Nat) : Bool := jA (dB ps i) (eA ps i) a l && (i == 0 || !fK (dB ps (i - 1)) (eA ps (i - 1)) (dB ps i) (eA ps i))
theorem I8 {a l : Int} {ps : List (Int × Int)} (hk : k < ps.length) (h : nU a l ps k = false) : eW a l ps = false := by
 rw [EA, Bool.and_eq_false_iff]
 left
 rw [List.all_eq_false]
 exact ⟨k, by simpa using hk, by unfold nU at h; simp only [h]; simp⟩
theorem NA {a l : Int} {ps : List (Int × Int)} (h : ∀ j, j < ps.length → nU a l ps j = true) : eW a l ps = vF ps := by
 rw [EA]
 have : (List.range ps.length).all (fun i => jA (dB ps i) (eA ps i) a l && (i == 0 || !fK (dB ps (i - 1)) (eA ps (i - 1)) (dB ps i) (eA ps i))) = true := by
  rw [List.all_eq_true]
  intro j hj
  exact h j (by simpa using hj)
 rw [this, Bool.true_and]
theorem KH (a l : Int) (x : Option Addr) (n c : Nat) (ps : List (Int × Int)) (w : World) (hp : PS w x n ps) (hn : n ≤ 32) :
  Calls Tryz.prog 122 #[.agg #[.int .i64 a, .int .i64 l, .slice x n c]] w fun e w' => e = .returned (.bool (eW a l ps)) ∧ Below w.heap.size w w' := by
 go_enter Tryz.func122, Tryz.ntmps122
 go_wp2
 go_loopw [8] (fun i wr => ∃ k : Nat, k ≤ n ∧ i = .int .i64 k ∧ Below (w.heap.size + 1) (w.alloc (.cells #[.int .i64 a, .int .i64 l, .slice x n c] 134)) wr ∧ (∀ j, j < k → nU a l ps j = true)) (fun i _ => n - (intOf i).toNat)
 case atStart => exact ⟨0, by omega, rfl, zD, fun j hj => by omega⟩
 case round =>
  obtain ⟨k, hk, rfl, hB, hok⟩ := hrel
  have hpl := hp.len
  have hz := hB.size
  simp only [World.size_alloc] at hz
  by_cases hlt : k < n
  ·have hp2 := (hp.later (bl1 w (.cells #[.int .i64 a, .int .i64 l, .slice x n c] 134)))
   obtain ⟨b, o, rfl, c0, c1⟩ := hp2.cells k hlt
   have hbl := block_lt_of_cell c0
   simp only [World.size_alloc] at hbl
   have d0 : wr.cell? ⟨b, o + k * 2, none⟩ = some (.int .i64 (dB ps k)) := (hB.cell (p := ⟨b, o + k * 2, none⟩) hbl).trans c0
   have d1 : wr.cell? ⟨b, o + k * 2 + 1, none⟩ = some (.int .i64 (eA ps k)) := (hB.cell (p := ⟨b, o + k * 2 + 1, none⟩) hbl).trans c1
   have e0 : wr.cell? ⟨w.heap.size, 0, none⟩ = some (.int .i64 a) := (hB.cell (p := ⟨w.heap.size, 0, none⟩) (by show w.heap.size < _; omega)).trans (by simp)
   have e1 : wr.cell? ⟨w.heap.size, 1, none⟩ = some (.int .i64 l) := (hB.cell (p := ⟨w.heap.size, 1, none⟩) (by show w.heap.size < _; omega)).trans (by simp)
   have e2 : wr.cell? ⟨w.heap.size, 2, none⟩ = some (.slice (some ⟨b, o, none⟩) n c) := (hB.cell (p := ⟨w.heap.size, 2, none⟩) (by show w.heap.size < _; omega)).trans (by simp)
   have hW : Below (w.heap.size + 1) (w.alloc (.cells #[.int .i64 a, .int .i64 l, .slice (some ⟨b, o, none⟩) n c] 134)) (wr.alloc (.cells #[.int .i64 (dB ps k), .int .i64 (eA ps k)] 49)) := hB.trans ((bl1 wr _).mono hz)
   have g0 : ∀ u : Ws (wr.heap.size + 1) (wr.alloc (.cells #[.int .i64 (dB ps k), .int .i64 (eA ps k)] 49)), u.val.cell? ⟨w.heap.size, 0, none⟩ = some (.int .i64 a) := Ws.cell (by omega) (cell_later (bl1 wr _) e0)
   have g1 : ∀ u : Ws (wr.heap.size + 1) (wr.alloc (.cells #[.int .i64 (dB ps k), .int .i64 (eA ps k)] 49)), u.val.cell? ⟨w.heap.size, 1, none⟩ = some (.int .i64 l) := Ws.cell (by omega) (cell_later (bl1 wr _) e1)
   have g2 : ∀ u : Ws (wr.heap.size + 1) (wr.alloc (.cells #[.int .i64 (dB ps k), .int .i64 (eA ps k)] 49)), u.val.cell? ⟨w.heap.size, 2, none⟩ = some (.slice (some ⟨b, o, none⟩) n c) := Ws.cell (by omega) (cell_later (bl1 wr _) e2)
   have g3 : ∀ u : Ws (wr.heap.size + 1) (wr.alloc (.cells #[.int .i64 (dB ps k), .int .i64 (eA ps k)] 49)), u.val.cell? ⟨wr.heap.size, 0, none⟩ = some (.int .i64 (dB ps k)) := Ws.cell (by omega) (by simp)
   have g4 : ∀ u : Ws (wr.heap.size + 1) (wr.alloc (.cells #[.int .i64 (dB ps k), .int .i64 (eA ps k)] 49)), u.val.cell? ⟨wr.heap.size, 1, none⟩ = some (.int .i64 (eA ps k)) := Ws.cell (by omega) (by simp)
   have hlt' := hlt
   go_upto_region 4 with fail
   clear e0 e1 e2 c0 c1 d0 d1
   refine aK (wr.heap.size + 1) (by kernel_rfl) (by kernel_rfl) ?_
   cases hI : jA (dB ps k) (eA ps k) a l
   ·repeat (go_big_quiet_step ((go_at_call 26; exact Calls.in_ws (by simp) (tN _ _ _ _ _ hI _))))
    refine wpQuiet_nil ?_
    rintro _ ⟨u, rfl⟩
    have hu := hW.trans (u.property.mono (by omega))
    generalize u.val = wu at hu ⊢
    clear u g0 g1 g2 g3 g4
    go_wp2
    go_ret
    exact ⟨aM (I8 (k := k) (by omega) (by unfold nU; rw [hI]; rfl)).symm, (bl1 w _).trans (hu.mono (by omega))⟩
   ·cases k with
    | zero =>
     repeat (go_big_quiet_step ((go_at_call 26; exact Calls.in_ws (by simp) (tN _ _ _ _ _ hI _))))
     refine wpQuiet_nil ?_
     rintro _ ⟨u, rfl⟩
     have hu := hW.trans (u.property.mono (by omega))
     generalize u.val = wu at hu ⊢
     clear u g0 g1 g2 g3 g4
     go_wp2
     go_roundw
     case rel => exact ⟨1, hlt', by go_num, hu, fun j hj => by
      obtain rfl : j = 0 := Nat.lt_one_iff.1 hj
      unfold nU; rw [hI]; rfl⟩
     case measure => simp [intOf]; omega
    | succ k' =>
     obtain ⟨b2, o2, hbo, c2, c3⟩ := hp2.cells k' (by omega)
     simp only [Option.some.injEq, Addr.mk.injEq, and_true] at hbo
     obtain ⟨rfl, rfl⟩ := hbo
     have t0 : wr.cell? ⟨b, o + k' * 2, none⟩ = some (.int .i64 (dB ps k')) := (hB.cell (p := ⟨b, o + k' * 2, none⟩) hbl).trans c2
     have t1 : wr.cell? ⟨b, o + k' * 2 + 1, none⟩ = some (.int .i64 (eA ps k')) := (hB.cell (p := ⟨b, o + k' * 2 + 1, none⟩) hbl).trans c3
     have g5 : ∀ u : Ws (wr.heap.size + 1) (wr.alloc (.cells #[.int .i64 (dB ps (k' + 1)), .int .i64 (eA ps (k' + 1))] 49)), u.val.cell? ⟨b, o + k' * 2, none⟩ = some (.int .i64 (dB ps k')) := Ws.cell (by omega) (cell_later (bl1 wr _) t0)
     have g6 : ∀ u : Ws (wr.heap.size + 1) (wr.alloc (.cells #[.int .i64 (dB ps (k' + 1)), .int .i64 (eA ps (k' + 1))] 49)), u.val.cell? ⟨b, o + k' * 2 + 1, none⟩ = some (.int .i64 (eA ps k')) := Ws.cell (by omega) (cell_later (bl1 wr _) t1)
     clear c2 c3 t0 t1
     cases hM : fK (dB ps k') (eA ps k') (dB ps (k' + 1)) (eA ps (k' + 1))
     all_goals repeat (go_big_quiet_step (first | (go_at_call 26; exact Calls.in_ws (by simp) (tN _ _ _ _ _ hI _)) | (go_at_call 15; exact Calls.in_ws (by simp) (DW _ _ _ _ _ hM _))))
     all_goals refine wpQuiet_nil ?_
     all_goals rintro _ ⟨u, rfl⟩
     all_goals have hu := hW.trans (u.property.mono (by omega))
     all_goals generalize u.val = wu at hu ⊢
     all_goals clear u g0 g1 g2 g3 g4 g5 g6
     all_goals go_wp2
     ·go_roundw
      case rel => exact ⟨k' + 1 + 1, hlt', by go_num, hu, fun j hj => by
       by_cases hj2 : j < k' + 1
       ·exact hok j hj2
       ·obtain rfl : j = k' + 1 := by omega
        unfold nU; rw [hI, Nat.add_sub_cancel, hM]; simp⟩
      case measure => simp [intOf]; omega
     ·go_ret
      exact ⟨aM (I8 (k := k' + 1) (by omega) (by unfold nU; rw [hI, Nat.add_sub_cancel, hM]; simp)).symm, (bl1 w _).trans (hu.mono (by omega))⟩
  ·have e2 : wr.cell? ⟨w.heap.size, 2, none⟩ = some (.slice x n c) := (hB.cell (p := ⟨w.heap.size, 2, none⟩) (by show w.heap.size < _; omega)).trans (by simp)
   have hB2 : Below (w.alloc (.cells #[.int .i64 a, .int .i64 l, .slice x n c] 134)).heap.size (w.alloc (.cells #[.int .i64 a, .int .i64 l, .slice x n c] 134)) wr := by rw [World.size_alloc]; exact hB
   have hpw : PS wr x n ps := (hp.later (bl1 w _)).later hB2
   go_wp2_with (go_at_call 167; refine (rise_any x n c ps wr.heap.size 1 _ (hpw.later (bl1 wr _)) (by omega) (by simp)).mono ?_; rintro e w1 ⟨rfl, hb1⟩)
   go_ret
   exact ⟨aM (NA (fun j hj => hok j (by omega))).symm, (bl1 w _).trans ((hB.trans (((bl1 wr _).trans (hb1.mono (by simp))).mono hz)).mono (by omega))⟩
theorem apart_is (a l : Int) (x : Option Addr) (n c : Nat) (ps : List (Int × Int)) (t : Bool) (h : eW a l ps = t) (w : World) (hp : PS w x n ps) (hn : n ≤ 32) :
  Calls Tryz.prog 122 #[.agg #[.int .i64 a, .int .i64 l, .slice x n c]] w fun e w' => e = .returned (.bool t) ∧ Below w.heap.size w w' := by
 subst h
 exact KH a l x n c ps w hp hn
theorem EB (a l : Int) (x : Option Addr) (n c : Nat) (w : World) (hn : 32 < n) :
  Calls Tryz.prog 72 #[.agg #[.int .i64 a, .int .i64 l, .slice x n c]] w fun e w' => e = .returned (.int .i64 2) ∧ Below w.heap.size w w' := by
 have hi : (32 : Int) < (n : Int) := by omega
 go_enter Tryz.func72, Tryz.ntmps72
 go_wp2
 go_ret
 exact ⟨rfl, bl1 _ _⟩
theorem GZ (a l : Int) (x : Option Addr) (n c : Nat) (ps : List (Int × Int)) (w : World) (hp : PS w x n ps) (hn : n ≤ 32) :
  Calls Tryz.prog 72 #[.agg #[.int .i64 a, .int .i64 l, .slice x n c]] w fun e w' => e = .returned (.int .i64 (if rt a l && eW a l ps then 0 else 1)) ∧ Below w.heap.size w w' := by
 have hi : ¬ (32 : Int) < (n : Int) := by omega
 cases hr : rt a l
 ·have hne : (chk a l != 0) = true := lL hr
  go_enter Tryz.func72, Tryz.ntmps72
  go_wp2_with (go_at_call 35; refine (check_any a l _).mono ?_; rintro e w1 ⟨rfl, hb1⟩)
  go_ret
  exact ⟨rfl, (bl1 w _).trans (hb1.mono (by simp))⟩
 ·have hne : (chk a l != 0) = false := lL hr
  cases hA : eW a l ps
  all_goals go_enter Tryz.func72, Tryz.ntmps72
  all_goals go_wp2_with fail
  all_goals refine (check_any a l _).mono ?_
  all_goals rintro e w1 ⟨rfl, hb1⟩
  all_goals have hB := (bl1 w _).trans (hb1.mono (by simp))
  all_goals have e0 : w1.cell? ⟨w.heap.size, 0, none⟩ = some (.int .i64 a) := (hb1.cell (p := ⟨w.heap.size, 0, none⟩) (by simp)).trans (by simp)
  all_goals have e1 : w1.cell? ⟨w.heap.size, 1, none⟩ = some (.int .i64 l) := (hb1.cell (p := ⟨w.heap.size, 1, none⟩) (by simp)).trans (by simp)
  all_goals have e2 : w1.cell? ⟨w.heap.size, 2, none⟩ = some (.slice x n c) := (hb1.cell (p := ⟨w.heap.size, 2, none⟩) (by simp)).trans (by simp)
  all_goals go_wp2_with (go_at_call 122; refine (apart_is a l x n c ps _ hA _ (hp.later hB) hn).mono ?_; rintro e w2 ⟨rfl, hb2⟩)
  all_goals go_ret
  all_goals exact ⟨rfl, hB.trans (hb2.mono hB.size)⟩
theorem xP (a l : Int) (x : Option Addr) (n c : Nat) (ps : List (Int × Int)) (w : World) (hp : n ≤ 32 → PS w x n ps) :
  Calls Tryz.prog 72 #[.agg #[.int .i64 a, .int .i64 l, .slice x n c]] w fun e w' => e = .returned (.int .i64 (kS a l n ps)) ∧ Below w.heap.size w w' := by
 unfold kS
 by_cases h : 32 < n
 ·rw [if_pos h]
  exact EB a l x n c w h
 ·rw [if_neg h]
  exact GZ a l x n c ps w (hp (by omega)) (by omega)
attribute [local go_sem] Oper.semAt_some
def wE (H : List (Int × Int)) : List Value := H.flatMap fun h => [.int .i64 h.1, .int .i64 h.2]
theorem EC (H G : List (Int × Int)) : wE (H ++ G) = wE H ++ wE G := by simp [wE]
theorem ED (H : List (Int × Int)) (i : Nat) (hi : i < H.length) : (wE H)[i * 2]? = some (.int .i64 (dB H i)) ∧ (wE H)[i * 2 + 1]? = some (.int .i64 (eA H i)) := by
 induction H generalizing i with
 | nil => cases hi
 | cons h t ih =>
  have e : wE (h :: t) = .int .i64 h.1 :: .int .i64 h.2 :: wE t := by simp [wE]
  rw [e]
  cases i with
  | zero => exact ⟨rfl, rfl⟩
  | succ i =>
   have := ih i (by simpa using hi)
   have e1 : (i + 1) * 2 = i * 2 + 1 + 1 := by omega
   rw [e1]
   simpa [dB, eA] using this
theorem QT {β : Type} {B base : Nat} {e : TypeId} {size : Nat} {v : Value} {n : Nat} {xs : List Value} : OwnFrom B (fun (_ : β) W => W.ownsRow base e size v n xs) :=
 fun _ X Y row hs hg hr => ⟨hs.1, hs.2.imp id (fun ⟨g, cap, cur, h1, h2, h3, h4⟩ => ⟨g, cap, cur, h1, h2, (hg.block g (zG h3) (fun e => by
  obtain ⟨o, ho, hc⟩ := (hr g e.symm).2
  rw [h3] at ho
  cases ho
  cases hc)).trans h3, h4⟩)⟩
theorem PS.of_own (h : w.ownsRow base 49 2 v H.length (wE H)) : ∃ x c, v = .slice x H.length c ∧ PS w x H.length H ∧ (∀ q, x = some q → base ≤ q.block ∧ q.block < w.heap.size) ∧ H.length ≤ c ∧ c ≤ 9223372036854775807 := by
 rcases h.2 with ⟨rfl, h0⟩ | ⟨g, cap, cur, rfl, hb, hg, hn, hc, hs, ht⟩
 ·refine ⟨none, 0, by rw [h0], ⟨rfl, fun i hi => ?_⟩, (fun q hq => by cases hq), by omega, by omega⟩
  omega
 ·refine ⟨some ⟨g, 0, none⟩, cap, rfl, ⟨rfl, fun i hi => ⟨g, 0, rfl, ?_, ?_⟩⟩, fun q hq => by cases hq; exact ⟨hb, (zG hg)⟩, hn, by unfold maxLen at hc; omega⟩
  ·have h1 := (ED H i hi).1
   rw [← ht, List.getElem?_take_of_lt (by omega)] at h1
   simp only [World.cell?, hg, Nat.zero_add]
   rw [← h1]
   simp
  ·have h1 := (ED H i hi).2
   rw [← ht, List.getElem?_take_of_lt (by omega)] at h1
   simp only [World.cell?, hg, Nat.zero_add]
   rw [← h1]
   simp
theorem EE : (Tryz.prog.info? 49).map (fun i => (i.zero, i.size, i.bytes)) = some (some (.agg #[.int .i64 0, .int .i64 0]), 2, 16) := by kernel_rfl
theorem CN : ∃ i, Tryz.prog.info? 49 = some i ∧ i.zero = some (.agg #[.int .i64 0, .int .i64 0]) ∧ i.size = 2 ∧ i.bytes = 16 := by
 obtain ⟨i, hi, h⟩ := Option.map_eq_some_iff.1 EE
 simp only [Prod.mk.injEq] at h
 exact ⟨i, hi, h.1, h.2.1, h.2.2⟩
theorem xQ : Tryz.prog.underlying 94 = some (.slice 49) := by kernel_rfl
theorem iG {a l : Int} {ps : List (Int × Int)} (h : kS a l n ps = 0) : n ≤ 32 ∧ rt a l = true ∧ eW a l ps = true := by
 unfold kS at h
 by_cases h1 : 32 < n
 ·rw [if_pos h1] at h; cases h
 ·rw [if_neg h1] at h
  cases h2 : rt a l <;> cases h3 : eW a l ps <;> simp [h2, h3] at h
  exact ⟨by omega, rfl, rfl⟩
theorem jU (h : Below w.heap.size w V) {b : Nat} (hb : w.heap.size ≤ b) (p q : Value) : Below w.heap.size w ((V.setCell ⟨b, 0, none⟩ p).setCell ⟨b, 1, none⟩ q) :=
 (h.setCell (p := ⟨b, 0, none⟩) hb p).setCell (p := ⟨b, 1, none⟩) hb q
theorem pC {a l z : Int}
  (hb1 : Below (((w.alloc (.cells #[.int .i64 a, .int .i64 l, .slice x n c] 134)).alloc (.cells #[.int .i64 z] 3)).alloc (.cells #[.int .i64 0, .int .i64 0] 49)).heap.size (((w.alloc (.cells #[.int .i64 a, .int .i64 l, .slice x n c] 134)).alloc (.cells #[.int .i64 z] 3)).alloc (.cells #[.int .i64 0, .int .i64 0] 49)) w1) :
  w1.cell? ⟨w.heap.size, 0, none⟩ = some (.int .i64 a) ∧ w1.cell? ⟨w.heap.size, 1, none⟩ = some (.int .i64 l) ∧ w1.cell? ⟨w.heap.size, 2, none⟩ = some (.slice x n c) ∧ w1.cell? ⟨w.heap.size + 1, 0, none⟩ = some (.int .i64 z) ∧ w1.heap[w.heap.size + 1 + 1]? = some (.cells #[.int .i64 0, .int .i64 0] 49) ∧ w.heap.size + 3 ≤ w1.heap.size := by
 have h0 : (((w.alloc (.cells #[.int .i64 a, .int .i64 l, .slice x n c] 134)).alloc (.cells #[.int .i64 z] 3)).alloc (.cells #[.int .i64 0, .int .i64 0] 49)).heap[w.heap.size]? = some (.cells #[.int .i64 a, .int .i64 l, .slice x n c] 134) := aF _ (aF _ (aB _ rfl))
 have h1 : (((w.alloc (.cells #[.int .i64 a, .int .i64 l, .slice x n c] 134)).alloc (.cells #[.int .i64 z] 3)).alloc (.cells #[.int .i64 0, .int .i64 0] 49)).heap[w.heap.size + 1]? = some (.cells #[.int .i64 z] 3) := aF _ (aB _ (by simp))
 have h2 : (((w.alloc (.cells #[.int .i64 a, .int .i64 l, .slice x n c] 134)).alloc (.cells #[.int .i64 z] 3)).alloc (.cells #[.int .i64 0, .int .i64 0] 49)).heap[w.heap.size + 1 + 1]? = some (.cells #[.int .i64 0, .int .i64 0] 49) := aB _ (by simp)
 have g0 := (hb1.block _ (zG h0)).trans h0
 have g1 := (hb1.block _ (zG h1)).trans h1
 have g2 := (hb1.block _ (zG h2)).trans h2
 have hs := hb1.size
 simp only [World.size_alloc] at hs
 refine ⟨by simp [World.cell?, g0], by simp [World.cell?, g0], by simp [World.cell?, g0], by simp [World.cell?, g1], g2, by omega⟩
def tQ (a l : Int) (n : Nat) (ps : List (Int × Int)) (z : Int) : Int := if kS a l n ps = 0 then (if z < l ∨ 16 < z then 3 else 0) else kS a l n ps
def S6 (z : Int) : Option Int → Int → Value
 | some x, _ => .tuple #[.agg #[.int .i64 x, .int .i64 z], .bool true, .int .i64 0]
 | none, e => .tuple #[.agg #[.int .i64 0, .int .i64 0], .bool false, .int .i64 e]
def tR (a l : Int) (n : Nat) (ps : List (Int × Int)) (z : Int) : Option Int := if tQ a l n ps z = 0 then ((hol ps (16 - l).toNat a l).find? fun h => decide (h.2 ≤ z)).map (·.1) else none
theorem QU (a l : Int) (x : Option Addr) (n c : Nat) (ps : List (Int × Int)) (z : Int) (w : World) (hp : n ≤ 32 → PS w x n ps) :
  Calls Tryz.prog 173 #[.agg #[.int .i64 a, .int .i64 l, .slice x n c], .int .i64 z] w fun e w' =>
   e = .returned (S6 z (tR a l n ps z) (tQ a l n ps z)) ∧ Below w.heap.size w w' := by
 have hck := xP a l x n c ps
 have hb3 : ∀ (w : World) (o p q : Obj), Below w.heap.size w (((w.alloc o).alloc p).alloc q) := fun w o p q => (cC w o p).alloc (by simp; omega) q
 by_cases hv : kS a l n ps = 0
 ·obtain ⟨hn, hr, -⟩ := iG hv
  have hp' := hp hn
  rw [hv] at hck
  by_cases hz1 : z < l
  ·have hE : tQ a l n ps z = 3 := by unfold tQ; rw [if_pos hv, if_pos (.inl hz1)]
   have hS : tR a l n ps z = none := by unfold tR; rw [hE]; rfl
   rw [hE, hS]
   go_enter Tryz.func173, Tryz.ntmps173
   go_wp2_with fail
   refine (hck _ (fun h => (hp h).later (hb3 w _ _ _))).mono ?_
   rintro e w1 ⟨rfl, hb1⟩
   have hB := (hb3 w (.cells #[.int .i64 a, .int .i64 l, .slice x n c] 134) (.cells #[.int .i64 z] 3) (.cells #[.int .i64 0, .int .i64 0] 49)).trans (hb1.mono (by simp; omega))
   obtain ⟨e0, e1, e2, ez, er, hsz⟩ := pC hb1
   obtain ⟨f0, f1, z0, z1⟩ := nT er
   go_wp2
   refine bodyPost_ret (v := .tuple #[.agg #[.int .i64 0, .int .i64 0], .bool false, .int .i64 3]) (by simp [results, Tryz.results173, go_sem, f0, f1]) rfl ⟨rfl, ?_⟩
   exact jU hB (by omega) _ _
  ·by_cases hz2 : 16 < z
   ·have hE : tQ a l n ps z = 3 := by unfold tQ; rw [if_pos hv, if_pos (.inr hz2)]
    have hS : tR a l n ps z = none := by unfold tR; rw [hE]; rfl
    rw [hE, hS]
    go_enter Tryz.func173, Tryz.ntmps173
    go_wp2_with fail
    refine (hck _ (fun h => (hp h).later (hb3 w _ _ _))).mono ?_
    rintro e w1 ⟨rfl, hb1⟩
    have hB := (hb3 w (.cells #[.int .i64 a, .int .i64 l, .slice x n c] 134) (.cells #[.int .i64 z] 3) (.cells #[.int .i64 0, .int .i64 0] 49)).trans (hb1.mono (by simp; omega))
    obtain ⟨e0, e1, e2, ez, er, hsz⟩ := pC hb1
    obtain ⟨f0, f1, z0, z1⟩ := nT er
    go_wp2
    refine bodyPost_ret (v := .tuple #[.agg #[.int .i64 0, .int .i64 0], .bool false, .int .i64 3]) (by simp [results, Tryz.results173, go_sem, f0, f1]) rfl ⟨rfl, ?_⟩
    exact jU hB (by omega) _ _
   ·have hE : tQ a l n ps z = 0 := by unfold tQ; rw [if_pos hv, if_neg (by omega)]
    have hS : tR a l n ps z = ((hol ps (16 - l).toNat a l).find? fun h => decide (h.2 ≤ z)).map (·.1) := by unfold tR; rw [hE]; rfl
    rw [hE, hS]
    go_enter Tryz.func173, Tryz.ntmps173
    go_wp2_with fail
    refine (hck _ (fun h => (hp h).later (hb3 w _ _ _))).mono ?_
    rintro e w1 ⟨rfl, hb1⟩
    have hB := (hb3 w (.cells #[.int .i64 a, .int .i64 l, .slice x n c] 134) (.cells #[.int .i64 z] 3) (.cells #[.int .i64 0, .int .i64 0] 49)).trans (hb1.mono (by simp; omega))
    obtain ⟨e0, e1, e2, ez, er, hsz⟩ := pC hb1
    obtain ⟨f0, f1, z0, z1⟩ := nT er
    go_wp2_with fail
    have hfi := callsIn_wide.1 (KF a l z x n c ps hr (by omega) (w.heap.size + 1) 0 w1 (hp'.later hB) ez)
    unfold BF at hfi
    refine hfi.mono ?_
    rintro e w2 ⟨rfl, hb2⟩
    have hC := hB.trans (hb2.mono hB.size)
    have er2 := (hb2.block _ (zG er)).trans er
    have ez2 := cell_later hb2 ez
    clear e0 e1 e2 ez f0 f1 z0 z1 hb1
    cases hfind : (hol ps (16 - l).toNat a l).find? fun h => decide (h.2 ≤ z)
    ·simp only [qW]
     have er3 : ∀ o, (w2.alloc o).heap[w.heap.size + 1 + 1]? = some (.cells #[.int .i64 0, .int .i64 0] 49) := fun o => aF o er2
     have f0 : ∀ o, (w2.alloc o).cell? ⟨w.heap.size + 1 + 1, 0, none⟩ = some (.int .i64 0) := fun o => (nT (er3 o)).1
     have f1 : ∀ o, (w2.alloc o).cell? ⟨w.heap.size + 1 + 1, 1, none⟩ = some (.int .i64 0) := fun o => (nT (er3 o)).2.1
     have z0 : ∀ o, (w2.alloc o).frozen? ⟨w.heap.size + 1 + 1, 0, none⟩ = false := fun o => (nT (er3 o)).2.2.1
     have z1 : ∀ o, (w2.alloc o).frozen? ⟨w.heap.size + 1 + 1, 1, none⟩ = false := fun o => (nT (er3 o)).2.2.2
     go_wp2
     refine bodyPost_ret (v := .tuple #[.agg #[.int .i64 0, .int .i64 0], .bool false, .int .i64 0]) (by simp [results, Tryz.results173, go_sem, f0, f1]) rfl ⟨by rw [hfind]; rfl, ?_⟩
     exact jU (hC.trans ((bl1 w2 _).mono hC.size)) (by omega) _ _
    ·rename_i h
     simp only [qW]
     have er3 : ∀ o, (w2.alloc o).heap[w.heap.size + 1 + 1]? = some (.cells #[.int .i64 0, .int .i64 0] 49) := fun o => aF o er2
     have f0 : ∀ o, (w2.alloc o).cell? ⟨w.heap.size + 1 + 1, 0, none⟩ = some (.int .i64 0) := fun o => (nT (er3 o)).1
     have f1 : ∀ o, (w2.alloc o).cell? ⟨w.heap.size + 1 + 1, 1, none⟩ = some (.int .i64 0) := fun o => (nT (er3 o)).2.1
     have z0 : ∀ o, (w2.alloc o).frozen? ⟨w.heap.size + 1 + 1, 0, none⟩ = false := fun o => (nT (er3 o)).2.2.1
     have z1 : ∀ o, (w2.alloc o).frozen? ⟨w.heap.size + 1 + 1, 1, none⟩ = false := fun o => (nT (er3 o)).2.2.2
     have ez3 : ∀ o, (w2.alloc o).cell? ⟨w.heap.size + 1, 0, none⟩ = some (.int .i64 z) := fun o => cell_later (bl1 w2 o) ez2
     go_wp2
     refine bodyPost_ret (v := .tuple #[.agg #[.int .i64 h.1, .int .i64 z], .bool true, .int .i64 0]) (by simp [results, Tryz.results173, go_sem, f0, f1]) rfl ⟨by rw [hfind]; rfl, ?_⟩
     exact jU (hC.trans ((bl1 w2 _).mono hC.size)) (by omega) _ _
 ·have hE : tQ a l n ps z = kS a l n ps := by unfold tQ; rw [if_neg hv]
  have hS : tR a l n ps z = none := by unfold tR; rw [hE, if_neg hv]
  rw [hE, hS]
  have hb : (kS a l n ps != 0) = true := by simpa using hv
  have hb' : (kS a l n ps == 0) = false := by simpa using hv
  clear hE hS
  generalize kS a l n ps = v at hck hb hb' hv ⊢
  go_enter Tryz.func173, Tryz.ntmps173
  go_wp2_with fail
  refine (hck _ (fun h => (hp h).later (hb3 w _ _ _))).mono ?_
  rintro e w1 ⟨rfl, hb1⟩
  have hB := (hb3 w (.cells #[.int .i64 a, .int .i64 l, .slice x n c] 134) (.cells #[.int .i64 z] 3) (.cells #[.int .i64 0, .int .i64 0] 49)).trans (hb1.mono (by simp; omega))
  obtain ⟨e0, e1, e2, ez, er, hsz⟩ := pC hb1
  obtain ⟨f0, f1, z0, z1⟩ := nT er
  go_wp2
  refine bodyPost_ret (v := .tuple #[.agg #[.int .i64 0, .int .i64 0], .bool false, .int .i64 v]) (by simp [results, Tryz.results173, go_sem, f0, f1]) rfl ⟨rfl, ?_⟩
  exact jU hB (by omega) _ _
theorem under_int : Tryz.prog.underlying 3 = some (.int .i64) := by kernel_rfl
theorem nV (b o j : Nat) : (⟨b, o, none⟩ : Addr).add j = ⟨b, o + j, none⟩ := by
 unfold Addr.add
 split
 ·simp_all
 ·rfl
theorem AP : Tryz.prog.underlying 49 = some (.struct (Tryz.prog.fieldsOf 49)) := by kernel_rfl
theorem EF : Tryz.prog.stoodInHeld 49 = false := by kernel_rfl
theorem BG (a l c m : Int) (w : World) : (binOp .eql 49 (.agg #[.int .i64 a, .int .i64 l]) (.agg #[.int .i64 c, .int .i64 m])).run Tryz.prog w = .ok (.bool (decide (a = c) && decide (l = m))) w := by
 rw [run_eql_struct, show (10000 : Nat) = 9999 + 1 from rfl, run_equalIn_agg w 9999 _ _ _ AP EF]
 simp only [Program.fieldsOf, Tryz.underlying49]
 go_simp
 by_cases h1 : a = c <;> by_cases h2 : l = m <;> simp [h1, h2]
theorem CO : Tryz.prog.eqGuardType Tryz.prog.depth 49 = false := by kernel_rfl
theorem rY (op : BinOp) (x y : Operand) (p q : Array Value) (w : World) : (eqGuard op 49 x y (.agg p) (.agg q)).run Tryz.prog w = .ok () w := by
 have h := CO
 unfold eqGuard
 cases op <;> simp [go_sem, h]
theorem NB {r : Value} (h : V.heap[b]? = some (.cells #[p, q, r] t)) : V.cell? ⟨b, 0, none⟩ = some p ∧ V.cell? ⟨b, 1, none⟩ = some q ∧ V.cell? ⟨b, 2, none⟩ = some r ∧ V.frozen? ⟨b, 0, none⟩ = false ∧ V.frozen? ⟨b, 1, none⟩ = false ∧ V.frozen? ⟨b, 2, none⟩ = false := by
 simp [World.cell?, World.frozen?, h]
theorem G0 (h : Below w.heap.size w V) {b : Nat} (hb : w.heap.size ≤ b) (p q r : Value) : Below w.heap.size w (((V.setCell ⟨b, 0, none⟩ p).setCell ⟨b, 1, none⟩ q).setCell ⟨b, 2, none⟩ r) :=
 ((h.setCell (p := ⟨b, 0, none⟩) hb p).setCell (p := ⟨b, 1, none⟩) hb q).setCell (p := ⟨b, 2, none⟩) hb r
theorem PS.set3 {ps : List (Int × Int)} (h : PS V x n ps) (hb : ∀ q, x = some q → q.block ≠ b) (p q r : Value) : PS (((V.setCell ⟨b, 0, none⟩ p).setCell ⟨b, 1, none⟩ q).setCell ⟨b, 2, none⟩ r) x n ps where
 len := h.len
 cells := fun i hi => by
  obtain ⟨b', o, hx, c0, c1⟩ := h.cells i hi
  have hne : b' ≠ b := hb _ hx
  exact ⟨b', o, hx, by rw [bC hne, bC hne, bC hne]; exact c0, by rw [bC hne, bC hne, bC hne]; exact c1⟩
structure SJ (ps : List (Int × Int)) (c m : Int) (qs : List (Int × Int)) : Prop where
 ex : ∃ i, i ≤ ps.length ∧ (∀ j, j < i → ¬ c < dB ps j) ∧ (i < ps.length → c < dB ps i) ∧ qs = ps.take i ++ [(c, m)] ++ ps.drop i
open Go.ChangeShapes Go.WideShapes Go.ChangeAt Go.RowKit Go.Joins
theorem own : ownKnob Tryz.prog.godebug = none := by kernel_rfl
theorem I9 : laidOutB Tryz.prog = true := by kernel_rfl
theorem S7 : Tryz.prog.cellsOf 49 = 2 := by kernel_rfl
theorem NC : Tryz.prog.cellsOf 3 = 1 := by kernel_rfl
theorem EG {n : Int} (h : (Lit.int .i64 n).wf = true) : -9223372036854775808 ≤ n ∧ n ≤ 9223372036854775807 := by
 have h1 : IntKind.i64.min = -9223372036854775808 := by rfl
 simp [Lit.wf] at h
 omega
theorem EH {ps : List (Int × Int)} {a l : Int} (h : nK ps a l) : eW a l ps = true := by
 refine J9 fun j hj => ?_
 have h1 := h.inn ps[j] (List.getElem_mem hj)
 unfold J8
 rw [jE hj, mE hj, h1, Bool.true_and]
 cases j with
 | zero => rfl
 | succ j =>
  have hr := List.pairwise_iff_getElem.1 h.rise j (j + 1) (by omega) hj (by omega)
  have hp := cO ps[j].2
  rw [Nat.add_sub_cancel, jE (by omega), mE (by omega)]
  simp only [Bool.or_eq_true, zH, decide_eq_true_eq, Bool.not_eq_true']
  right
  refine ⟨by omega, xN fun hm => ?_⟩
  have := xM hm
  omega
theorem EI {ps : List (Int × Int)} {a l c : Int} (h : nK ps a l) (hi : jA c m a l = true) (hf : mtsAny c m ps = false) (hp : SJ ps c m qs) : nK qs a l := by
 obtain ⟨i, hin, hlow, hup, rfl⟩ := hp.ex
 have rc := (bH hi).1
 have pm := cO m
 have hno : ∀ u ∈ ps, fK c m u.1 u.2 = false := fun u hu => xN fun h1 => by
  have := gY.2 ⟨u, hu, h1⟩
  rw [this] at hf; cases hf
 have hA : ∀ u ∈ ps.take i, u.1 + sp u.2 ≤ c := fun u hu => by
  obtain ⟨j, hj, rfl⟩ := List.getElem_of_mem hu
  rw [List.length_take] at hj
  have hj' : j < ps.length := by omega
  rw [List.getElem_take]
  have h1 := hlow j (by omega)
  rw [jE hj'] at h1
  have h2 := hno ps[j] (List.getElem_mem hj')
  have ru := (bH (h.inn ps[j] (List.getElem_mem hj'))).1
  by_cases h3 : ps[j].1 + sp ps[j].2 ≤ c
  ·exact h3
  ·have := tP rc ru (by omega) (by omega)
   rw [this] at h2; cases h2
 have hB : ∀ u ∈ ps.drop i, c + sp m ≤ u.1 := fun u hu => by
  obtain ⟨j, hj, rfl⟩ := List.getElem_of_mem hu
  rw [List.length_drop] at hj
  have hj' : i + j < ps.length := by omega
  have hi' : i < ps.length := by omega
  rw [List.getElem_drop]
  have h1 := hup hi'
  rw [jE hi'] at h1
  have h4 : ps[i].1 ≤ ps[i + j].1 := by
   rcases Nat.eq_zero_or_pos j with h0 | h0
   ·subst h0; exact Int.le_refl _
   ·have := List.pairwise_iff_getElem.1 h.rise i (i + j) hi' hj' (by omega)
    have := cO ps[i].2
    omega
  have h2 := hno ps[i + j] (List.getElem_mem hj')
  have ru := (bH (h.inn ps[i + j] (List.getElem_mem hj'))).1
  by_cases h3 : c + sp m ≤ ps[i + j].1
  ·exact h3
  ·have := tP rc ru (by have := cO ps[i + j].2; omega) (by omega)
   rw [this] at h2; cases h2
 refine ⟨fun u hu => ?_, ?_⟩
 ·simp only [List.mem_append, List.mem_singleton] at hu
  rcases hu with (hu | rfl) | hu
  ·exact h.inn u (List.mem_of_mem_take hu)
  ·exact hi
  ·exact h.inn u (List.mem_of_mem_drop hu)
 ·rw [List.append_assoc, List.pairwise_append]
  refine ⟨h.rise.sublist (List.take_sublist i ps), ?_, fun u hu v hv => ?_⟩
  ·rw [List.singleton_append, List.pairwise_cons]
   exact ⟨fun v hv => hB v hv, h.rise.sublist (List.drop_sublist i ps)⟩
  ·simp only [List.singleton_append, List.mem_cons] at hv
   rcases hv with rfl | hv
   ·exact hA u hu
   ·have := hA u hu
    have := hB v hv
    omega
theorem KI {ps : List (Int × Int)} (hk : k < ps.length) : ps.take (k + 1) = ps.take k ++ [(dB ps k, eA ps k)] := by
 rw [List.take_add_one, List.getElem?_eq_getElem hk, jE hk, mE hk]
 rfl
def gS (w V : World) (a l : Int) (o : List (Int × Int)) (x : Option Addr) (c : Nat) : Prop :=
 V.heap[w.heap.size]? = some (.cells #[.int .i64 a, .int .i64 l, .slice x o.length c] 134) ∧ V.ownsRow (w.heap.size + 1) 49 2 (.slice x o.length c) o.length (wE o) ∧ Below w.heap.size w V
theorem gS.start (w : World) (a l : Int) : gS w (w.alloc (.cells #[.int .i64 a, .int .i64 l, .slice none 0 0] 134)) a l [] none 0 :=
 ⟨aB _ rfl, World.ownsRow_nil _ _ _ _, bl1 w _⟩
theorem gS.later {V' : World} {a l : Int} (h : gS w V a l o x c) (hb : Below V.heap.size V V') : gS w V' a l o x c :=
 ⟨(hb.block _ (zG h.1)).trans h.1, QT (B := 0) () V V' none h.2.1 (jT hb) (fun r e => by cases e), h.2.2.trans (hb.mono h.2.2.size)⟩
theorem gS.append {w5 : World} {a l c : Int} (h : gS w V a l o x k)
  (hown : w5.ownsRow (w.heap.size + 1) 49 2 v' (o.length + 1) (wE o ++ [.int .i64 c, .int .i64 m])) (hg : (V.alloc (.cells #[.int .i64 c, .int .i64 m] 49)).grownBy w5 (Value.slice x o.length k).ownBlock) :
  ∃ x' k', v' = .slice x' (o.length + 1) k' ∧ w5.cell? ⟨w.heap.size, 2, none⟩ = some (.slice x o.length k) ∧ w5.frozen? ⟨w.heap.size, 2, none⟩ = false ∧ Below w.heap.size w w5 ∧
   gS w (w5.setCell ⟨w.heap.size, 2, none⟩ (.slice x' (o.length + 1) k')) a l (o ++ [(c, m)]) x' k' := by
 have hne : (Value.slice x o.length k).ownBlock ≠ some w.heap.size := fun e => by have := (h.2.1.lt _ e).1; omega
 have hlt : w.heap.size < V.heap.size := (zG h.1)
 have e5 : w5.heap[w.heap.size]? = some (.cells #[.int .i64 a, .int .i64 l, .slice x o.length k] 134) := (hg.block _ (by simp; omega) (fun e => hne e.symm)).trans (aF _ h.1)
 have hgs := hg.size
 rw [World.size_alloc] at hgs
 have hb5 : Below w.heap.size w w5 := ⟨hg.os.trans h.2.2.os, hg.tape.trans h.2.2.tape, hg.output.trans h.2.2.output, by omega, fun j hj =>
  ((hg.block j (by simp; omega) (fun e => by have := (h.2.1.lt _ e.symm).1; omega)).trans (Below.heap_alloc _ _ _ (by omega))).trans (h.2.2.block j hj)⟩
 have hv : v'.ownBlock ≠ some w.heap.size := fun e => by have := (hown.lt _ e).1; omega
 obtain ⟨x', k', rfl⟩ : ∃ x' k', v' = .slice x' (o.length + 1) k' := by
  rcases hown.2 with ⟨_, h0⟩ | ⟨g, cap, cur, rfl, _⟩
  ·omega
  ·exact ⟨_, _, rfl⟩
 refine ⟨x', k', rfl, (NB e5).2.2.1, (NB e5).2.2.2.2.2, hb5, ?_, ?_, hb5.setCell (p := ⟨w.heap.size, 2, none⟩) (zE) _⟩
 ·have := heap_setCell_same w5 w.heap.size 2 _ _ (.slice x' (o.length + 1) k') e5
  rw [List.length_append, List.length_singleton]
  simpa using this
 ·rw [List.length_append, List.length_singleton, EC]
  exact ownsRow_setCell_other hown hv _
theorem gS.ps {a l : Int} (h : gS w V a l o x c) : PS V x o.length o ∧ (∀ q, x = some q → w.heap.size + 1 ≤ q.block) := by
 obtain ⟨x', c', e, hps, hfr, _⟩ := PS.of_own h.2.1
 cases e
 exact ⟨hps, fun q hq => (hfr q hq).1⟩
structure Le where
 a : Int
 l : Int
 kd : Int
 ow : Int
 un : Int
def WA : Le := ⟨0, 0, 0, 0, 0⟩
structure Po where
 id : Int
 up : Int
 a : Int
 l : Int
 mn : Int
 mx : Int
 us : Int
 co : Int
 x : Option Addr
 n : Nat
 c : Nat
 ls : List Le
def WB : Po := ⟨0, 0, 0, 0, 0, 0, 0, 0, none, 0, 0, []⟩
def aO (ls : List Le) (i : Nat) : Le := ls.getD i WA
def poAt (ps : List Po) (i : Nat) : Po := ps.getD i WB
structure LS (w : World) (x : Option Addr) (n : Nat) (ls : List Le) : Prop where
 len : ls.length = n
 cells : ∀ i, i < n → ∃ b o, x = some ⟨b, o, none⟩ ∧ w.cell? ⟨b, o + i * 5, none⟩ = some (.int .i64 (aO ls i).a) ∧ w.cell? ⟨b, o + i * 5 + 1, none⟩ = some (.int .i64 (aO ls i).l) ∧
  w.cell? ⟨b, o + i * 5 + 2, none⟩ = some (.int .i64 (aO ls i).kd) ∧ w.cell? ⟨b, o + i * 5 + 3, none⟩ = some (.int .i64 (aO ls i).ow) ∧ w.cell? ⟨b, o + i * 5 + 4, none⟩ = some (.int .i64 (aO ls i).un)
theorem LS.later {ls : List Le} (h : LS w x n ls) (hb : Below w.heap.size w w') : LS w' x n ls where
 len := h.len
 cells := fun i hi => by
  obtain ⟨b, o, hx, c0, c1, c2, c3, c4⟩ := h.cells i hi
  exact ⟨b, o, hx, cell_later hb c0, cell_later hb c1, cell_later hb c2, cell_later hb c3, cell_later hb c4⟩
theorem LS.idx {ps : List Le} (h : LS w x n ps) : ∀ i, i < n → ∃ b o, x = some ⟨b, o, none⟩ ∧ ∀ q, q < 5 → w.cell? ⟨b, o + i * 5 + q, none⟩ = some ([.int .i64 (aO ps i).a, .int .i64 (aO ps i).l, .int .i64 (aO ps i).kd, .int .i64 (aO ps i).ow, .int .i64 (aO ps i).un].getD q (.bool true)) := fun i hi => by
 obtain ⟨b, o, hx, d0, d1, d2, d3, d4⟩ := h.cells i hi
 exact ⟨b, o, hx, by rintro (_ | _ | _ | _ | _ | q) hq <;> first | assumption | omega⟩
structure nW (w : World) (x : Option Addr) (n : Nat) (ps : List Po) : Prop where
 len : ps.length = n
 cells : ∀ i, i < n → ∃ b o, x = some ⟨b, o, none⟩ ∧ w.cell? ⟨b, o + i * 9, none⟩ = some (.int .i64 (poAt ps i).id) ∧ w.cell? ⟨b, o + i * 9 + 1, none⟩ = some (.int .i64 (poAt ps i).up) ∧
  w.cell? ⟨b, o + i * 9 + 2, none⟩ = some (.int .i64 (poAt ps i).a) ∧ w.cell? ⟨b, o + i * 9 + 3, none⟩ = some (.int .i64 (poAt ps i).l) ∧ w.cell? ⟨b, o + i * 9 + 4, none⟩ = some (.int .i64 (poAt ps i).mn) ∧
  w.cell? ⟨b, o + i * 9 + 5, none⟩ = some (.int .i64 (poAt ps i).mx) ∧ w.cell? ⟨b, o + i * 9 + 6, none⟩ = some (.int .i64 (poAt ps i).us) ∧ w.cell? ⟨b, o + i * 9 + 7, none⟩ = some (.int .i64 (poAt ps i).co) ∧
  w.cell? ⟨b, o + i * 9 + 8, none⟩ = some (.slice (poAt ps i).x (poAt ps i).n (poAt ps i).c)
 leases : ∀ i, i < n → (poAt ps i).n ≤ (poAt ps i).c ∧ (poAt ps i).n ≤ 1048576 ∧ LS w (poAt ps i).x (poAt ps i).n (poAt ps i).ls
theorem nW.later {ps : List Po} (h : nW w x n ps) (hb : Below w.heap.size w w') : nW w' x n ps where
 len := h.len
 cells := fun i hi => by
  obtain ⟨b, o, hx, c0, c1, c2, c3, c4, c5, c6, c7, c8⟩ := h.cells i hi
  exact ⟨b, o, hx, cell_later hb c0, cell_later hb c1, cell_later hb c2, cell_later hb c3, cell_later hb c4, cell_later hb c5, cell_later hb c6, cell_later hb c7, cell_later hb c8⟩
 leases := fun i hi => ⟨(h.leases i hi).1, (h.leases i hi).2.1, (h.leases i hi).2.2.later hb⟩
theorem nW.idx {ps : List Po} (h : nW w x n ps) : ∀ i, i < n → ∃ b o, x = some ⟨b, o, none⟩ ∧ ∀ q, q < 9 → w.cell? ⟨b, o + i * 9 + q, none⟩ = some ([.int .i64 (poAt ps i).id, .int .i64 (poAt ps i).up, .int .i64 (poAt ps i).a, .int .i64 (poAt ps i).l, .int .i64 (poAt ps i).mn, .int .i64 (poAt ps i).mx, .int .i64 (poAt ps i).us, .int .i64 (poAt ps i).co, .slice (poAt ps i).x (poAt ps i).n (poAt ps i).c].getD q (.bool true)) := fun i hi => by
 obtain ⟨b, o, hx, d0, d1, d2, d3, d4, d5, d6, d7, d8⟩ := h.cells i hi
 exact ⟨b, o, hx, by rintro (_ | _ | _ | _ | _ | _ | _ | _ | _ | q) hq <;> first | assumption | omega⟩
def aP (ps : List Po) (id : Int) : Int := match ps.findIdx? (fun p => p.id == id) with | some i => i | none => -1
theorem lO {ps : List Po} {id : Int} (hi : i < ps.length) (h : (poAt ps i).id = id) (hno : ∀ j, j < i → (poAt ps j).id ≠ id) : aP ps id = i := by
 unfold aP
 have hf : ps.findIdx? (fun p => p.id == id) = some i := by
  rw [List.findIdx?_eq_some_iff_getElem]
  refine ⟨hi, ?_, fun j hj => ?_⟩
  ·have : poAt ps i = ps[i] := by unfold poAt; simp [List.getD, hi]
   rw [← this]; simpa using h
  ·have : poAt ps j = ps[j] := by unfold poAt; simp [List.getD, Nat.lt_trans hj hi]
   rw [← this]; simpa using hno j hj
 rw [hf]
theorem pD {ps : List Po} {id : Int} (hno : ∀ j, j < ps.length → (poAt ps j).id ≠ id) : aP ps id = -1 := by
 unfold aP
 have hf : ps.findIdx? (fun p => p.id == id) = none := by
  rw [List.findIdx?_eq_none_iff]
  intro p hp
  obtain ⟨j, hj, rfl⟩ := List.getElem_of_mem hp
  have : poAt ps j = ps[j] := by unfold poAt; simp [List.getD, hj]
  rw [← this]; simpa using hno j hj
 rw [hf]
theorem isId_any (v : Int) (w : World) : Calls Tryz.prog 70 #[.int .i64 v] w fun e w' => e = .returned (.bool (dE v 1 65536)) ∧ w' = w := by
 unfold dE
 by_cases h : 1 ≤ v
 ·have hd : decide (1 ≤ v) = true := by simpa using h
  go_enter Tryz.func70, Tryz.ntmps70
  go_wp2
  go_ret
  exact ⟨by first | rfl | (rw [hd]; rfl), rfl⟩
 ·have hd : decide (1 ≤ v) = false := by simpa using h
  go_enter Tryz.func70, Tryz.ntmps70
  go_wp2
  go_ret
  exact ⟨by first | rfl | (rw [hd]; rfl), rfl⟩
def dF (mn mx us co l : Int) : Bool := decide (l ≤ mn) && decide (mn ≤ us) && decide (us ≤ mx) && decide (mx ≤ 16) && dE co 0 1024
theorem ND {l : Int} (h : ¬ l ≤ mn) : dF mn mx us co l = false := by unfold dF; simp [h]
theorem NE {l : Int} (h : ¬ mn ≤ us) : dF mn mx us co l = false := by unfold dF; simp [h]
theorem NF {l : Int} (h : ¬ us ≤ mx) : dF mn mx us co l = false := by unfold dF; simp [h]
theorem NG {l : Int} (h : ¬ mx ≤ 16) : dF mn mx us co l = false := by unfold dF; simp [h]
theorem NH {l : Int} (h : ¬ 0 ≤ co) : dF mn mx us co l = false := by unfold dF dE; simp [h]
theorem NI {l : Int} (h1 : l ≤ mn) (h2 : mn ≤ us) (h3 : us ≤ mx) (h4 : mx ≤ 16) : dF mn mx us co l = dE co 0 1024 := by unfold dF; simp [h1, h2, h3, h4]
theorem qG (mn mx us co a l : Int) (w : World) :
  Calls Tryz.prog 74 #[.agg #[.int .i64 mn, .int .i64 mx, .int .i64 us, .int .i64 co], .agg #[.int .i64 a, .int .i64 l]] w fun e w' => e = .returned (.bool (dF mn mx us co l)) ∧ Below w.heap.size w w' := by
 by_cases h1 : l ≤ mn
 ·by_cases h2 : mn ≤ us
  ·by_cases h3 : us ≤ mx
   ·by_cases h4 : mx ≤ 16
    ·by_cases h5 : 0 ≤ co
     ·have hy : dF mn mx us co l = decide (co ≤ 1024) := by rw [NI h1 h2 h3 h4]; unfold dE; simp [h5]
      rw [hy]
      go_enter Tryz.func74, Tryz.ntmps74
      go_wp2
      go_ret
      exact ⟨rfl, cC w _ _⟩
     ·rw [NH h5]
      go_enter Tryz.func74, Tryz.ntmps74
      go_wp2
      go_ret
      exact ⟨rfl, cC w _ _⟩
    ·rw [NG h4]
     go_enter Tryz.func74, Tryz.ntmps74
     go_wp2
     go_ret
     exact ⟨rfl, cC w _ _⟩
   ·rw [NF h3]
    go_enter Tryz.func74, Tryz.ntmps74
    go_wp2
    go_ret
    exact ⟨rfl, cC w _ _⟩
  ·rw [NE h2]
   go_enter Tryz.func74, Tryz.ntmps74
   go_wp2
   go_ret
   exact ⟨rfl, cC w _ _⟩
 ·rw [ND h1]
  go_enter Tryz.func74, Tryz.ntmps74
  go_wp2
  go_ret
  exact ⟨rfl, cC w _ _⟩
structure Fc where
 id : Int
 x : Option Addr
 n : Nat
 c : Nat
 ns : List Int
structure Sb where
 id : Int
 a : Int
 l : Int
 x : Option Addr
 n : Nat
 c : Nat
 fs : List Fc
structure Rg where
 a : Int
 l : Int
 p : Int
def WC : Fc := ⟨0, none, 0, 0, []⟩
def WD : Sb := ⟨0, 0, 0, none, 0, 0, []⟩
def WE : Rg := ⟨0, 0, 0⟩
def bP (ns : List Int) (i : Nat) : Int := ns.getD i 0
def fcAt (fs : List Fc) (i : Nat) : Fc := fs.getD i WC
def sbAt (ss : List Sb) (i : Nat) : Sb := ss.getD i WD
def aJ (rs : List Rg) (i : Nat) : Rg := rs.getD i WE
structure IS (w : World) (x : Option Addr) (n : Nat) (ns : List Int) : Prop where
 len : ns.length = n
 cells : ∀ i, i < n → ∃ b o, x = some ⟨b, o, none⟩ ∧ w.cell? ⟨b, o + i, none⟩ = some (.int .i64 (bP ns i))
theorem IS.later (h : IS w x n ns) (hb : Below w.heap.size w w') : IS w' x n ns where
 len := h.len
 cells := fun i hi => by
  obtain ⟨b, o, hx, h0⟩ := h.cells i hi
  exact ⟨b, o, hx, cell_later hb h0⟩
theorem IS.idx {ps : List Int} (h : IS w x n ps) : ∀ i, i < n → ∃ b o, x = some ⟨b, o, none⟩ ∧ ∀ q, q < 1 → w.cell? ⟨b, o + i * 1 + q, none⟩ = some ([.int .i64 (bP ps i)].getD q (.bool true)) := fun i hi => by
 obtain ⟨b, o, hx, d0⟩ := h.cells i hi
 exact ⟨b, o, hx, fun q hq => by obtain rfl : q = 0 := (by omega); rw [Nat.mul_one]; exact d0⟩
structure RS (w : World) (x : Option Addr) (n : Nat) (rs : List Rg) : Prop where
 len : rs.length = n
 cells : ∀ i, i < n → ∃ b o, x = some ⟨b, o, none⟩ ∧ w.cell? ⟨b, o + i * 3, none⟩ = some (.int .i64 (aJ rs i).a) ∧ w.cell? ⟨b, o + i * 3 + 1, none⟩ = some (.int .i64 (aJ rs i).l) ∧ w.cell? ⟨b, o + i * 3 + 2, none⟩ = some (.int .i64 (aJ rs i).p)
theorem RS.later {rs : List Rg} (h : RS w x n rs) (hb : Below w.heap.size w w') : RS w' x n rs where
 len := h.len
 cells := fun i hi => by
  obtain ⟨b, o, hx, h0, h1, h2⟩ := h.cells i hi
  exact ⟨b, o, hx, cell_later hb h0, cell_later hb h1, cell_later hb h2⟩
theorem RS.idx {ps : List Rg} (h : RS w x n ps) : ∀ i, i < n → ∃ b o, x = some ⟨b, o, none⟩ ∧ ∀ q, q < 3 → w.cell? ⟨b, o + i * 3 + q, none⟩ = some ([.int .i64 (aJ ps i).a, .int .i64 (aJ ps i).l, .int .i64 (aJ ps i).p].getD q (.bool true)) := fun i hi => by
 obtain ⟨b, o, hx, d0, d1, d2⟩ := h.cells i hi
 exact ⟨b, o, hx, by rintro (_ | _ | _ | q) hq <;> first | assumption | omega⟩
structure tL (w : World) (x : Option Addr) (n : Nat) (fs : List Fc) : Prop where
 len : fs.length = n
 cells : ∀ i, i < n → ∃ b o, x = some ⟨b, o, none⟩ ∧ w.cell? ⟨b, o + i * 2, none⟩ = some (.int .i64 (fcAt fs i).id) ∧ w.cell? ⟨b, o + i * 2 + 1, none⟩ = some (.slice (fcAt fs i).x (fcAt fs i).n (fcAt fs i).c)
 addrs : ∀ i, i < n → (fcAt fs i).n ≤ (fcAt fs i).c ∧ (fcAt fs i).n ≤ 9223372036854775807 ∧ IS w (fcAt fs i).x (fcAt fs i).n (fcAt fs i).ns
theorem tL.later {fs : List Fc} (h : tL w x n fs) (hb : Below w.heap.size w w') : tL w' x n fs where
 len := h.len
 cells := fun i hi => by
  obtain ⟨b, o, hx, h0, h1⟩ := h.cells i hi
  exact ⟨b, o, hx, cell_later hb h0, cell_later hb h1⟩
 addrs := fun i hi => by
  obtain ⟨h1, h2, h3⟩ := h.addrs i hi
  exact ⟨h1, h2, h3.later hb⟩
theorem tL.idx {ps : List Fc} (h : tL w x n ps) : ∀ i, i < n → ∃ b o, x = some ⟨b, o, none⟩ ∧ ∀ q, q < 2 → w.cell? ⟨b, o + i * 2 + q, none⟩ = some ([.int .i64 (fcAt ps i).id, .slice (fcAt ps i).x (fcAt ps i).n (fcAt ps i).c].getD q (.bool true)) := fun i hi => by
 obtain ⟨b, o, hx, d0, d1⟩ := h.cells i hi
 exact ⟨b, o, hx, by rintro (_ | _ | q) hq <;> first | assumption | omega⟩
structure SS (w : World) (x : Option Addr) (n : Nat) (ss : List Sb) : Prop where
 len : ss.length = n
 cells : ∀ i, i < n → ∃ b o, x = some ⟨b, o, none⟩ ∧ w.cell? ⟨b, o + i * 4, none⟩ = some (.int .i64 (sbAt ss i).id) ∧ w.cell? ⟨b, o + i * 4 + 1, none⟩ = some (.int .i64 (sbAt ss i).a) ∧ w.cell? ⟨b, o + i * 4 + 2, none⟩ = some (.int .i64 (sbAt ss i).l) ∧
  w.cell? ⟨b, o + i * 4 + 3, none⟩ = some (.slice (sbAt ss i).x (sbAt ss i).n (sbAt ss i).c)
 faces : ∀ i, i < n → (sbAt ss i).n ≤ (sbAt ss i).c ∧ (sbAt ss i).n ≤ 9223372036854775807 ∧ tL w (sbAt ss i).x (sbAt ss i).n (sbAt ss i).fs
theorem SS.later {ss : List Sb} (h : SS w x n ss) (hb : Below w.heap.size w w') : SS w' x n ss where
 len := h.len
 cells := fun i hi => by
  obtain ⟨b, o, hx, h0, h1, h2, h3⟩ := h.cells i hi
  exact ⟨b, o, hx, cell_later hb h0, cell_later hb h1, cell_later hb h2, cell_later hb h3⟩
 faces := fun i hi => by
  obtain ⟨h1, h2, h3⟩ := h.faces i hi
  exact ⟨h1, h2, h3.later hb⟩
theorem SS.idx {ps : List Sb} (h : SS w x n ps) : ∀ i, i < n → ∃ b o, x = some ⟨b, o, none⟩ ∧ ∀ q, q < 4 → w.cell? ⟨b, o + i * 4 + q, none⟩ = some ([.int .i64 (sbAt ps i).id, .int .i64 (sbAt ps i).a, .int .i64 (sbAt ps i).l, .slice (sbAt ps i).x (sbAt ps i).n (sbAt ps i).c].getD q (.bool true)) := fun i hi => by
 obtain ⟨b, o, hx, d0, d1, d2, d3⟩ := h.cells i hi
 exact ⟨b, o, hx, by rintro (_ | _ | _ | _ | q) hq <;> first | assumption | omega⟩
structure Vp (w : World) (rx : Option Addr) (rn rc : Nat) (rs : List Rg) (sx : Option Addr) (sn sc : Nat) (ss : List Sb) : Prop where
 rcap : rn ≤ rc
 scap : sn ≤ sc
 ranges : RS w rx rn rs
 subs : SS w sx sn ss
theorem Vp.later {rs : List Rg} {ss : List Sb} (h : Vp w rx rn rc rs sx sn sc ss) (hb : Below w.heap.size w w') : Vp w' rx rn rc rs sx sn sc ss :=
 ⟨h.rcap, h.scap, h.ranges.later hb, h.subs.later hb⟩
structure Vn where
 id : Int
 rx : Option Addr
 rn : Nat
 rc : Nat
 rs : List Rg
 sx : Option Addr
 sn : Nat
 sc : Nat
 ss : List Sb
def VK : Vn := ⟨0, none, 0, 0, [], none, 0, 0, []⟩
def aC (vs : List Vn) (i : Nat) : Vn := vs.getD i VK
structure VS (w : World) (x : Option Addr) (n : Nat) (vs : List Vn) : Prop where
 len : vs.length = n
 cells : ∀ i, i < n → ∃ b o, x = some ⟨b, o, none⟩ ∧ w.cell? ⟨b, o + i * 3, none⟩ = some (.int .i64 (aC vs i).id) ∧ w.cell? ⟨b, o + i * 3 + 1, none⟩ = some (.slice (aC vs i).rx (aC vs i).rn (aC vs i).rc) ∧ w.cell? ⟨b, o + i * 3 + 2, none⟩ = some (.slice (aC vs i).sx (aC vs i).sn (aC vs i).sc)
 vps : ∀ i, i < n → (aC vs i).rn ≤ 9223372036854775807 ∧ (aC vs i).sn ≤ 9223372036854775807 ∧ (aC vs i).rc ≤ 9223372036854775807 ∧ Vp w (aC vs i).rx (aC vs i).rn (aC vs i).rc (aC vs i).rs (aC vs i).sx (aC vs i).sn (aC vs i).sc (aC vs i).ss
theorem VS.later {vs : List Vn} (h : VS w x n vs) (hb : Below w.heap.size w w') : VS w' x n vs where
 len := h.len
 cells := fun i hi => by
  obtain ⟨b, o, hx, h0, h1, h2⟩ := h.cells i hi
  exact ⟨b, o, hx, cell_later hb h0, cell_later hb h1, cell_later hb h2⟩
 vps := fun i hi => by
  obtain ⟨h1, h2, h3, h4⟩ := h.vps i hi
  exact ⟨h1, h2, h3, h4.later hb⟩
theorem VS.idx {ps : List Vn} (h : VS w x n ps) : ∀ i, i < n → ∃ b o, x = some ⟨b, o, none⟩ ∧ ∀ q, q < 3 → w.cell? ⟨b, o + i * 3 + q, none⟩ = some ([.int .i64 (aC ps i).id, .slice (aC ps i).rx (aC ps i).rn (aC ps i).rc, .slice (aC ps i).sx (aC ps i).sn (aC ps i).sc].getD q (.bool true)) := fun i hi => by
 obtain ⟨b, o, hx, d0, d1, d2⟩ := h.cells i hi
 exact ⟨b, o, hx, by rintro (_ | _ | _ | q) hq <;> first | assumption | omega⟩
def NJ (o : Oper) : Bool := match o.op with
 | .move _ | .assign _ => true
 | .load _ _ => true
 | .fieldAddr _ _ _ => true
 | .indexAddr _ _ _ => true
 | .build _ _ => true
 | .binOp _ _ _ _ _ => true
 | .slice _ _ _ _ _ => true
 | .unOp _ _ _ => true
 | .extract _ _ => true
 | .nilCheck _ => true
 | _ => false
theorem dT {s : Result Value} {n : Next} (h : (s.andThen fun x w => Result.ok (Next.value x) w) = .ok n w') : ∃ u, n = .value u := by
 cases s with
 | ok x w => simp only [Result.andThen, Result.ok.injEq] at h; exact ⟨x, h.1.symm⟩
 | halt x w => simp [Result.andThen] at h
theorem tS {α : Type} {P : Program} {s : Sem α} {f : α → Sem Next} {w w' : World} {n : Next} (h : (s >>= f).run P w = .ok n w') : ∃ x w1, (f x).run P w1 = .ok n w' := by
 rw [Sem.run_bind] at h
 cases hs : s.run P w with
 | ok x w1 => rw [hs] at h; exact ⟨x, w1, h⟩
 | halt x w1 => rw [hs] at h; simp [Result.andThen] at h
theorem QV {o : Oper} {n : Next} (h : NJ o = true) (hr : (execOp a.eval o).run P w = .ok n w') : ∃ u, n = .value u := by
 unfold NJ at h
 unfold execOp at hr
 split at h
 ·rename_i x hop; rw [hop] at hr; simp only [Sem.run_pure, Result.ok.injEq] at hr; exact ⟨_, hr.1.symm⟩
 ·rename_i x hop; rw [hop] at hr; simp only [Sem.run_pure, Result.ok.injEq] at hr; exact ⟨_, hr.1.symm⟩
 ·rename_i x y hop; rw [hop] at hr; simp only [Sem.run_bind, Sem.run_pure] at hr; exact dT hr
 ·rename_i x y z hop; rw [hop] at hr; simp only [Sem.run_bind, Sem.run_pure] at hr; exact dT hr
 ·rename_i x y z hop; rw [hop] at hr; simp only [Sem.run_bind, Sem.run_pure] at hr; exact dT hr
 ·rename_i x y hop; rw [hop] at hr; simp only [Sem.run_bind, Sem.run_pure] at hr; exact dT hr
 ·rename_i hop; rw [hop] at hr; rw [Sem.run_bind] at hr; simp only [Sem.run_pure] at hr; exact dT hr
 ·rename_i hop; rw [hop] at hr; simp only [Sem.run_bind, Sem.run_pure] at hr; exact dT hr
 ·rename_i hop; rw [hop] at hr; simp only [Sem.run_bind, Sem.run_pure] at hr; exact dT hr
 ·rename_i hop; rw [hop] at hr; simp only [Sem.run_bind, Sem.run_pure] at hr; exact dT hr
 ·rename_i hop
  rw [hop] at hr
  simp only at hr
  repeat' split at hr
  all_goals first
   | (simp only [Sem.run_pure, Result.ok.injEq] at hr; exact ⟨_, hr.1.symm⟩)
   | (simp [runtimePanic] at hr; done)
   | skip
  obtain ⟨p, w1, hr⟩ := tS hr
  obtain ⟨q, w2, hr⟩ := tS hr
  split at hr
  ·obtain ⟨_, w3, hr⟩ := tS hr
   simp only [Sem.run_pure, Result.ok.injEq] at hr
   exact ⟨_, hr.1.symm⟩
  ·simp only [Sem.run_pure, Result.ok.injEq] at hr
   exact ⟨_, hr.1.symm⟩
 ·cases h
theorem qY {o : Oper} (hp : NJ o = true) (h : YieldsIn P ops C o v a) : YieldsIf P ops C o v a := by
 rcases h with ⟨h1, h2⟩ | h
 ·refine .inl ⟨h1, fun w hw => ?_⟩
  have h3 := h2 w hw
  unfold Oper.quietAt at h3
  cases hr : (execOp a.eval o).run P w with
  | ok n w' =>
   rw [hr] at h3
   obtain ⟨u, rfl⟩ := QV hp hr
   simp only [Oper.quietUpon] at h3
   rw [h3.1, h3.2]
  | halt x w' => rw [hr] at h3; simp [Oper.quietUpon] at h3
 ·exact .inr h
def nX (ops : Array Oper) (listed : Array Bool) : Prop := ∀ j oj, ops[j]? = some oj → listed.getD j false = true → ∀ e ∈ oj.after, Region.binds .any e = true → listed.getD e.on false = true
def BH (ops : Array Oper) (listed : Array Bool) : Bool := (List.range ops.size).all fun j => !(listed.getD j false) || match ops[j]? with | some oj => oj.after.all fun e => !(Region.binds .any e) || listed.getD e.on false | none => true
theorem mF (h : BH ops listed = true) : nX ops listed := fun j oj hj hl e he hb => by
 have h1 := List.all_eq_true.1 h j (List.mem_range.2 (zG hj))
 rw [hl, hj] at h1
 simp only [Bool.not_true, Bool.false_or] at h1
 obtain ⟨i, hi, rfl⟩ := Array.mem_iff_getElem.1 he
 have h2 := Array.all_eq_true.1 h1 i hi
 rw [hb] at h2
 simpa using h2
theorem nX.set (h : nX ops listed) (hi : i ∈ Region.ready .any ops listed) : nX ops (listed.setIfInBounds i true) := fun j oj hj hl e he hb => by
 obtain ⟨_, oi, hoi, hall⟩ := mem_ready.1 hi
 by_cases hij : i = j
 ·subst hij
  have : oj = oi := Option.some.inj (hj.symm.trans hoi)
  subst this
  exact getD_set_true (hall e he hb)
 ·rw [getD_set_ne false hij] at hl
  exact getD_set_true (h j oj hj hl e he hb)
def mG (ops : Array Oper) : Nat → Nat → Nat → Bool
 | 0, j, i => Region.waitsFor .any ops j i
 | f + 1, j, i => Region.waitsFor .any ops j i || (List.range ops.size).any fun k => Region.waitsFor .any ops j k && mG ops f k i
theorem nY (h : nX ops listed) : ∀ (f j i : Nat), mG ops f j i = true → (∀ oj, ops[j]? = some oj → ∀ e ∈ oj.after, Region.binds .any e = true → listed.getD e.on false = true) → listed.getD i false = true
 | 0, j, i, hr, hj => by
  obtain ⟨oj, hoj, e, he, hb, hon⟩ := Region.waitsFor_spec hr
  rw [← hon]
  exact hj oj hoj e he hb
 | f + 1, j, i, hr, hj => by
  unfold mG at hr
  rw [Bool.or_eq_true] at hr
  rcases hr with hr | hr
  ·obtain ⟨oj, hoj, e, he, hb, hon⟩ := Region.waitsFor_spec hr
   rw [← hon]
   exact hj oj hoj e he hb
  ·obtain ⟨k, -, hk⟩ := List.any_eq_true.1 hr
   rw [zH] at hk
   obtain ⟨oj, hoj, e, he, hb, hon⟩ := Region.waitsFor_spec hk.1
   have hkl : listed.getD k false = true := by rw [← hon]; exact hj oj hoj e he hb
   exact nY h f k i hk.2 (fun ok hok => h k ok hok hkl)
def qH (P : Program) (ops : Array Oper) (Q : Exit → Act → World → Prop) (S : World → Prop) (T : Nat → Bool) : Nat → Array Bool → Act → World → Prop
 | 0, listed, a, w => Region.ready .any ops listed = [] ∧ Q .normal a w
 | f + 1, listed, a, w => (Region.ready .any ops listed = [] → Q .normal a w) ∧ ∀ i ∈ Region.ready .any ops listed, wpOp P ops Q i (fun a' w' => (T i = true → S w') ∧ qH P ops Q S T f (listed.setIfInBounds i true) a' w') a w
theorem pF : ∀ (f : Nat) (listed : Array Bool) (a : Act) (w : World), qH P ops Q S T f listed a w → wpAny P .any ops Q f listed a w
 | 0, _, _, _, h => h
 | f + 1, _, _, _, h => ⟨h.1, fun i hi => wpOp_mono (fun a' w' h' => pF f _ a' w' h'.2) (h.2 i hi)⟩
theorem tT (hi : ops[i]? = some oi) (hsel : ∀ (j : Nat) (o : Oper) cs b, ops[j]? = some o → o.op ≠ .select cs b)
  (hQ : ∀ d v c a w, Q (.panic c) (Act.put a d v) w → Q (.panic c) a w) (hw : ∀ j, T j = false → j < ops.size → mG ops ops.size j i = true) :
  ∀ (f : Nat) (listed : Array Bool) (a : Act) (w : World), nX ops listed →
   (∀ j oj, ops[j]? = some oj → j ≠ i → listed.getD j true = false → (∀ e ∈ oj.after, Region.binds .any e = true → e.on ≠ i) → oi.apart ops oj = true) →
   i ∈ Region.ready .any ops listed → YieldsIf P ops S oi v a → S w →
   qH P ops Q S T f (listed.setIfInBounds i true) (a.put oi.dst v) w → qH P ops Q S T (f + 1) listed a w := by
 intro f
 induction f with
 | zero =>
  intro listed a w _ _ hr hy hS H
  refine ⟨fun h => (by rw [h] at hr; cases hr), fun j hj => ?_⟩
  by_cases hji : j = i
  ·subst hji; exact hy.wpOp hi hS ⟨fun _ => hS, H⟩
  ·have := ready_mono hj hji
   rw [H.1] at this
   cases this
 | succ f ih =>
  intro listed a w hsh hfree hr hy hS H
  refine ⟨fun h => (by rw [h] at hr; cases hr), fun j hj => ?_⟩
  by_cases hji : j = i
  ·subst hji; exact hy.wpOp hi hS ⟨fun _ => hS, H⟩
  ·have h1 := H.2 j (ready_mono hj hji)
   obtain ⟨hjun, oj, hoj, hall⟩ := mem_ready.1 hj
   have h0 := (mem_ready.1 hr).1
   have hnot : ∀ e ∈ oj.after, Region.binds .any e = true → e.on ≠ i := fun e he hb heq => by
    have h1 := hall e he hb
    rw [heq, getD_both h0] at h1
    cases h1
   have hjT : T j = true := by
    cases hT : T j with
    | true => rfl
    | false =>
     have h2 := nY hsh ops.size j i (hw j hT (zG hoj)) (fun ok hok e he hb => by
      have : ok = oj := Option.some.inj (hok.symm.trans hoj)
      subst this
      exact hall e he hb)
     rw [getD_both h0] at h2
     cases h2
   have h2 := wpOp_putIf hoj (hfree j oj hoj hji hjun hnot) (fun cs b => hsel i oi cs b hi) (fun cs b => hsel j oj cs b hoj) (fun c a w => hQ _ _ c a w) hy h1
   have hfree' : ∀ k ok, ops[k]? = some ok → k ≠ i → (listed.setIfInBounds j true).getD k true = false →
     (∀ e ∈ ok.after, Region.binds .any e = true → e.on ≠ i) → oi.apart ops ok = true := fun k ok hk hki hun hno => by
    refine hfree k ok hk hki ?_ hno
    by_cases hjk : j = k
    ·subst hjk; exact hjun
    ·rw [getD_set_ne true hjk] at hun; exact hun
   refine wpOp_mono (fun a' w' h3 => ⟨fun _ => h3.2.1 hjT, ih (listed.setIfInBounds j true) a' w' (hsh.set hj) hfree' (ready_mono hr (Ne.symm hji)) h3.1 (h3.2.1 hjT) ?_⟩) h2
   rw [Array.setIfInBounds_comm _ _ hji]
   exact h3.2.2
structure Wx : Type where
 val : World
@[simp] theorem Wx.all_const (p : Prop) : (Wx → p) ↔ p := ⟨fun h => h ⟨default⟩, fun h _ => h⟩
theorem G1 (hi : ops[i]? = some oi) (hsel : ∀ (j : Nat) (o : Oper) cs b, ops[j]? = some o → o.op ≠ .select cs b)
  (hQ : ∀ d v c a w, Q (.panic c) (Act.put a d v) w → Q (.panic c) a w) (hTi : T i = false) :
  ∀ (f : Nat) (listed : Array Bool) (a : Act) (w : World), nX ops listed →
   (∀ j oj, ops[j]? = some oj → j ≠ i → listed.getD j true = false → (∀ e ∈ oj.after, Region.binds .any e = true → e.on ≠ i) → oi.apart ops oj = true) →
   i ∈ Region.ready .any ops listed → YieldsIf P ops (fun w' => ∃ u : Wx, w' = u.val) oi v a →
   qH P ops Q S T f (listed.setIfInBounds i true) (a.put oi.dst v) w → qH P ops Q S T (f + 1) listed a w := by
 intro f
 induction f with
 | zero =>
  intro listed a w _ _ hr hy H
  refine ⟨fun h => (by rw [h] at hr; cases hr), fun j hj => ?_⟩
  by_cases hji : j = i
  ·subst hji; exact hy.wpOp hi ⟨⟨w⟩, rfl⟩ ⟨fun h => absurd (h.symm.trans hTi) (by decide), H⟩
  ·have := ready_mono hj hji
   rw [H.1] at this
   cases this
 | succ f ih =>
  intro listed a w hsh hfree hr hy H
  refine ⟨fun h => (by rw [h] at hr; cases hr), fun j hj => ?_⟩
  by_cases hji : j = i
  ·subst hji; exact hy.wpOp hi ⟨⟨w⟩, rfl⟩ ⟨fun h => absurd (h.symm.trans hTi) (by decide), H⟩
  ·have h1 := H.2 j (ready_mono hj hji)
   obtain ⟨hjun, oj, hoj, hall⟩ := mem_ready.1 hj
   have h0 := (mem_ready.1 hr).1
   have hnot : ∀ e ∈ oj.after, Region.binds .any e = true → e.on ≠ i := fun e he hb heq => by
    have h1 := hall e he hb
    rw [heq, getD_both h0] at h1
    cases h1
   have h2 := wpOp_putIf hoj (hfree j oj hoj hji hjun hnot) (fun cs b => hsel i oi cs b hi) (fun cs b => hsel j oj cs b hoj) (fun c a w => hQ _ _ c a w) hy h1
   have hfree' : ∀ k ok, ops[k]? = some ok → k ≠ i → (listed.setIfInBounds j true).getD k true = false →
     (∀ e ∈ ok.after, Region.binds .any e = true → e.on ≠ i) → oi.apart ops ok = true := fun k ok hk hki hun hno => by
    refine hfree k ok hk hki ?_ hno
    by_cases hjk : j = k
    ·subst hjk; exact hjun
    ·rw [getD_set_ne true hjk] at hun; exact hun
   refine wpOp_mono (fun a' w' h3 => ⟨h3.2.1, ih (listed.setIfInBounds j true) a' w' (hsh.set hj) hfree' (ready_mono hr (Ne.symm hji)) h3.1 ?_⟩) h2
   rw [Array.setIfInBounds_comm _ _ hji]
   exact h3.2.2
def pG : Oper := { dst := none, op := .move (.const (.bool false)), type := 0, pos := "", after := #[], guard := none }
def qZ (is : List Nat) (listed : Array Bool) : Array Bool := is.foldl (fun l i => l.setIfInBounds i true) listed
def wF (ops : Array Oper) : List Nat → Array Bool → Bool
 | [], _ => true
 | i :: is, listed => (Region.ready .any ops listed).contains i && Region.free .any ops listed i && wF ops is (listed.setIfInBounds i true)
def AQ (ops : Array Oper) : List Nat → Array Bool → Bool
 | [], listed => (Region.ready .any ops listed).isEmpty
 | i :: is, listed => decide (Region.ready .any ops listed = [i]) && AQ ops is (listed.setIfInBounds i true)
theorem lP (h : i < l.length) : l.toArray[i]? = some (l.getD i pG) := by
 simp [h]
theorem wX (hsel : Region.noSelect l.toArray = true)
  (hQ : ∀ d v c a w, Q (.panic c) (Act.put a d v) w → Q (.panic c) a w) (D : Array Bool) (hC : C w) :
  ∀ (hs : List Nat) (listed : Array Bool) (a : Act), (∀ i ∈ hs, i < l.length ∧ NJ (l.getD i pG) = true ∧ ∀ j, T j = false → j < l.toArray.size → mG l.toArray l.toArray.size j i = true) → nX l.toArray listed → wF l.toArray hs listed = true → qZ hs listed = D →
   wpQuiet P l.toArray C (fun a' => qH P l.toArray Q C T g D a' w) (hs.map fun i => l.getD i pG) a → qH P l.toArray Q C T (hs.length + g) listed a w
 | [], listed, a, _, hsh, _, hd, h => by
  rw [List.length_nil, Nat.zero_add]
  subst hd
  exact h
 | i :: is, listed, a, hh, hsh, hB, hd, h => by
  obtain ⟨hil, hpl, hwt⟩ := hh i (by simp)
  have h0 := lP hil
  simp only [wF, zH] at hB
  have hr : i ∈ Region.ready .any l.toArray listed := by simpa using hB.1.1
  have hq : qOp P l.toArray C i (wpQuiet P l.toArray C (fun a' => qH P l.toArray Q C T g D a' w) (is.map fun i => l.getD i pG)) a := by unfold qOp; simp only [h0]; exact h
  obtain ⟨v, hy, hKK⟩ := yieldsIn_of_qOp h0 hq
  rw [List.length_cons, show is.length + 1 + g = (is.length + g) + 1 by omega]
  refine tT h0 (Region.noSelect_spec hsel) hQ hwt (is.length + g) listed a w hsh (Region.free_spec h0 hB.1.2) hr (qY hpl hy) hC ?_
  exact wX hsel hQ D hC is _ _ (fun k hk => hh k (by simp [hk])) (hsh.set hr) hB.2 hd hKK
theorem EJ (hsel : Region.noSelect l.toArray = true)
  (hQ : ∀ d v c a w, Q (.panic c) (Act.put a d v) w → Q (.panic c) a w) (D : Array Bool) :
  ∀ (hs : List Nat) (listed : Array Bool) (a : Act), (∀ i ∈ hs, i < l.length ∧ NJ (l.getD i pG) = true ∧ T i = false) → nX l.toArray listed → wF l.toArray hs listed = true → qZ hs listed = D →
   wpQuiet P l.toArray (fun w' => ∃ u : Wx, w' = u.val) (fun a' => qH P l.toArray Q C T g D a' w) (hs.map fun i => l.getD i pG) a → qH P l.toArray Q C T (hs.length + g) listed a w
 | [], listed, a, _, hsh, _, hd, h => by
  rw [List.length_nil, Nat.zero_add]
  subst hd
  exact h
 | i :: is, listed, a, hh, hsh, hB, hd, h => by
  obtain ⟨hil, hpl, hwt⟩ := hh i (by simp)
  have h0 := lP hil
  simp only [wF, zH] at hB
  have hr : i ∈ Region.ready .any l.toArray listed := by simpa using hB.1.1
  have hq : qOp P l.toArray (fun w' => ∃ u : Wx, w' = u.val) i (wpQuiet P l.toArray (fun w' => ∃ u : Wx, w' = u.val) (fun a' => qH P l.toArray Q C T g D a' w) (is.map fun i => l.getD i pG)) a := by unfold qOp; simp only [h0]; exact h
  obtain ⟨v, hy, hKK⟩ := yieldsIn_of_qOp h0 hq
  rw [List.length_cons, show is.length + 1 + g = (is.length + g) + 1 by omega]
  refine G1 h0 (Region.noSelect_spec hsel) hQ hwt (is.length + g) listed a w hsh (Region.free_spec h0 hB.1.2) hr (qY hpl hy) ?_
  exact EJ hsel hQ D is _ _ (fun k hk => hh k (by simp [hk])) (hsh.set hr) hB.2 hd hKK
theorem fA (g : Nat) {f : Nat} {w : World} {listed : Array Bool} {a : Act} (hs : List Nat) (hf : hs.length + g = f) (D : Array Bool) (hD : qZ hs listed = D)
  (hB : (Region.noSelect l.toArray && (hs.all fun i => decide (i < l.length) && NJ (l.getD i pG) && !(T i)) && BH l.toArray listed && wF l.toArray hs listed) = true)
  (hQ : ∀ d v c a w, Q (.panic c) (Act.put a d v) w → Q (.panic c) a w) (h : wpQuiet P l.toArray (fun w' => ∃ u : Wx, w' = u.val) (fun a' => qH P l.toArray Q C T g D a' w) (hs.map fun i => l.getD i pG) a) : qH P l.toArray Q C T f listed a w := by
 subst hf
 simp only [zH] at hB
 obtain ⟨⟨⟨hsel, hhs⟩, hsh⟩, hlex⟩ := hB
 refine EJ hsel hQ D hs listed a (fun i hi => ?_) (mF hsh) hlex hD h
 have h1 := List.all_eq_true.1 hhs i hi
 simp only [zH, decide_eq_true_eq, Bool.not_eq_true'] at h1
 exact ⟨h1.1.1, h1.1.2, h1.2⟩
def G2 (l : List Oper) (T : Nat → Bool) (hs : List Nat) (listed : Array Bool) : Bool :=
 Region.noSelect l.toArray && (hs.all fun i => decide (i < l.length) && NJ (l.getD i pG) && (List.range l.toArray.size).all fun j => T j || mG l.toArray l.toArray.size j i) && BH l.toArray listed && wF l.toArray hs listed
theorem aY (g : Nat) {f : Nat} {w : World} {listed : Array Bool} {a : Act} (hs : List Nat) (hf : hs.length + g = f) (D : Array Bool) (hD : qZ hs listed = D) (hB : G2 l T hs listed = true)
  (hQ : ∀ d v c a w, Q (.panic c) (Act.put a d v) w → Q (.panic c) a w) (hC : C w) (h : wpQuiet P l.toArray C (fun a' => qH P l.toArray Q C T g D a' w) (hs.map fun i => l.getD i pG) a) : qH P l.toArray Q C T f listed a w := by
 subst hf
 simp only [G2, zH] at hB
 obtain ⟨⟨⟨hsel, hhs⟩, hsh⟩, hlex⟩ := hB
 refine wX hsel hQ D hC hs listed a (fun i hi => ?_) (mF hsh) hlex hD h
 have h1 := List.all_eq_true.1 hhs i hi
 simp only [zH, decide_eq_true_eq] at h1
 refine ⟨h1.1.1, h1.1.2, fun j hj hjs => ?_⟩
 have h2 := List.all_eq_true.1 h1.2 j (List.mem_range.2 hjs)
 rw [hj, Bool.false_or] at h2
 exact h2
def qI (K : Act → World → Prop) (Q : Exit → Act → World → Prop) : Exit → Act → World → Prop
 | .normal, a, w => K a w
 | .exit i, a, w => Q (.exit i) a w
 | .goto i, a, w => Q (.goto i) a w
 | .ret, a, w => Q .ret a w
 | .panic c, a, w => Q (.panic c) a w
 | .outgrown, a, w => Q .outgrown a w
theorem aD {K : Act → World → Prop} (h : K a w) : qI K Q .normal a w := h
theorem G3 {K' : Act → World → Prop} {o : Oper} {K : Act → World → Prop} (h : o.wp P a w K (qI K' Q)) : o.wp P a w K Q := by
 unfold Oper.wp at *
 generalize (execOp a.eval o).run P w = r at *
 cases r with
 | ok n w' =>
  cases n <;> simp only [Oper.upon] at h ⊢ <;>
   first
    | exact h
    | exact Calls.mono h (fun e w'' he => by cases e <;> exact he)
 | halt x w' => cases x <;> simp only [Oper.upon] at h ⊢ <;> exact h
theorem fM {K : Act → World → Prop} (hi : i < l.length) (h : wpList P l.toArray (qI K Q) [l.getD i pG] a w) : wpOp P l.toArray Q i K a w := by
 have hop := lP hi
 unfold wpOp
 simp only [hop]
 unfold wpList at h
 by_cases hg : Region.wanted (l.getD i pG) (yielded l.toArray a.tmps) = true
 ·rw [if_pos hg] at h ⊢
  exact h.imp (fun h2 => Oper.wp_mono (fun a'' w'' h3 => h3) (G3 h2)) (fun h => h)
 ·rw [if_neg hg] at h ⊢
  exact h
structure BI (P : Program) (l : List Oper) (Q : Exit → Act → World → Prop) (S : World → Prop) (T : Nat → Bool) (f i : Nat) (D : Array Bool) (K : Act → World → Prop) : Prop where
 out : ∀ a' w', S w' → qH P l.toArray Q S T f D a' w' → K a' w'
theorem aS (i : Nat) (o : Oper) (D : Array Bool) (hr : Region.ready .any l.toArray listed = [i]) (hi : decide (i < l.length) = true) (ho : l.getD i pG = o) (hD : listed.setIfInBounds i true = D)
  (h : ∀ K, BI P l Q S T f i D K → wpList P l.toArray (qI K Q) [o] a w) : qH P l.toArray Q S T (f + 1) listed a w := by
 subst ho
 subst hD
 refine ⟨fun h1 => (by rw [hr] at h1; cases h1), fun j hj => ?_⟩
 rw [hr] at hj
 obtain rfl : j = i := by simpa using hj
 exact fM (of_decide_eq_true hi) (h _ ⟨fun _ _ h1 h2 => ⟨fun _ => h1, h2⟩⟩)
theorem dU (i k : Nat) (o ok : Oper) (D Dk : Array Bool) (hr : Region.ready .any l.toArray listed = [i, k]) (hi : decide (i < l.length ∧ k < l.length) = true) (ho : l.getD i pG = o) (hok : l.getD k pG = ok)
  (hD : listed.setIfInBounds i true = D) (hDk : listed.setIfInBounds k true = Dk)
  (h1 : ∀ K, BI P l Q S T f i D K → wpList P l.toArray (qI K Q) [o] a w) (h2 : ∀ K, BI P l Q S T f k Dk K → wpList P l.toArray (qI K Q) [ok] a w) : qH P l.toArray Q S T (f + 1) listed a w := by
 subst ho
 subst hok
 subst hD
 subst hDk
 refine ⟨fun h1 => (by rw [hr] at h1; cases h1), fun j hj => ?_⟩
 rw [hr] at hj
 have hj' : j = i ∨ j = k := by simpa using hj
 rcases hj' with rfl | rfl
 ·exact fM (of_decide_eq_true hi).1 (h1 _ ⟨fun _ _ h1 h2 => ⟨fun _ => h1, h2⟩⟩)
 ·exact fM (of_decide_eq_true hi).2 (h2 _ ⟨fun _ _ h1 h2 => ⟨fun _ => h1, h2⟩⟩)
theorem BJ : ∀ (ts : List Nat) (listed : Array Bool) (a : Act) (w : World), (∀ i ∈ ts, i < l.length ∧ T i = false) →
  AQ l.toArray ts listed = true → wpList P l.toArray Q (ts.map fun i => l.getD i pG) a w → qH P l.toArray Q S T ts.length listed a w
 | [], _, _, _, _, hB, h => ⟨by simpa [AQ] using hB, h⟩
 | i :: ts, listed, a, w, hh, hB, h => by
  obtain ⟨hil, hT⟩ := hh i (by simp)
  have h0 := lP hil
  simp only [AQ, zH, decide_eq_true_eq] at hB
  refine ⟨fun h1 => (by rw [hB.1] at h1; cases h1), fun k hk => ?_⟩
  rw [hB.1] at hk
  have hik : k = i := by simpa using hk
  subst hik
  have hw : wpOp P l.toArray Q k (wpList P l.toArray Q (ts.map fun i => l.getD i pG)) a w := by unfold wpOp; simp only [h0]; exact h
  exact wpOp_mono (fun a' w' h' => ⟨fun h => absurd h (by rw [hT]; decide), BJ ts _ a' w' (fun i hi => hh i (by simp [hi])) hB.2 h'⟩) hw
theorem aU (ts : List Nat) (hf : ts.length = f) (hB : (AQ l.toArray ts listed && ts.all fun i => decide (i < l.length) && !(T i)) = true) (h : wpList P l.toArray Q (ts.map fun i => l.getD i pG) a w) : qH P l.toArray Q S T f listed a w := by
 subst hf
 rw [zH] at hB
 refine BJ ts listed a w (fun i hi => ?_) hB.1 h
 have h1 := List.all_eq_true.1 hB.2 i hi
 simpa using h1
theorem bG {id : Nat} (C : World → Prop) (T : Nat → Bool) (n : Nat) (D : Array Bool) (hm : P.follows .mixedOrders = true) (hn : l.toArray.size = n) (hD : Array.replicate n false = D)
  (h : qH P l.toArray Q C T n D a w.drew) : (Code.region id l.toArray true).wp P Q a w := by
 subst hn
 subst hD
 exact wp_region_any hm (pF _ _ _ _ h)
theorem gB {Q Q' : Act → Prop} (h : ∀ a, Q a → Q' a) : ∀ (l : List Oper) (a : Act), wpQuiet P ops C Q l a → wpQuiet P ops C Q' l a
 | [], a, g => h a g
 | o :: l, a, g => by
  unfold wpQuiet at g ⊢
  split
  ·rename_i hw
   rw [if_pos hw] at g
   exact Oper.quiet_mono (gB h l) g
  ·rename_i hw
   rw [if_neg hw] at g
   exact gB h l _ g
def CP (ps ts : List Nat) (j : Nat) : Bool := !(ps.contains j || ts.contains j)
def WI (l : List Oper) (hs : List Nat) (c : Nat) (ps ts : List Nat) : Bool :=
 G2 l (CP ps ts) hs (Array.replicate l.toArray.size false) && decide (Region.ready .any l.toArray (qZ hs (Array.replicate l.toArray.size false)) = [c]) && decide (c < l.length) &&
 (Region.noSelect l.toArray && (ps.all fun i => decide (i < l.length) && NJ (l.getD i pG) && !(CP ps ts i)) && BH l.toArray ((qZ hs (Array.replicate l.toArray.size false)).setIfInBounds c true) && wF l.toArray ps ((qZ hs (Array.replicate l.toArray.size false)).setIfInBounds c true)) &&
 (AQ l.toArray ts (qZ ps ((qZ hs (Array.replicate l.toArray.size false)).setIfInBounds c true)) && ts.all fun i => decide (i < l.length) && !(CP ps ts i)) && decide (hs.length + (ps.length + ts.length + 1) = l.toArray.size)
structure S8 (P : Program) (l : List Oper) (Q : Exit → Act → World → Prop) (w : World) (ps ts : List Oper) (K : Act → World → Prop) : Prop where
 out : ∀ a' w', Below w.heap.size w w' → wpQuiet P l.toArray (fun w' => ∃ u : Wx, w' = u.val) (fun a'' => wpList P l.toArray Q ts a'' w') ps a' → K a' w'
end Go.Proofs.YtndpilfpejfloaaGreat
