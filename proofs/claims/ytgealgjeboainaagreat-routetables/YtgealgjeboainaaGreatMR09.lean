/- What slices.Clone at ranges, subnets and faces comes to. -/
import Derived.Test.YtgealgjeboainaaGreatMR08
import Derived.Lib.SliceRun
import Derived.Lib.AppendZerosOnto
import Derived.Lib.AppendZeros
import Derived.Deep.RegionHeld3
namespace Go.Proofs.YtgealgjeboainaaGreat
open Go.RowKit Go.Shelf

theorem below_grownr {w V V' : World} {r : Option Nat} (h : Below w.heap.size w V) (g : V.grownBy V' r) (hr : ∀ k, r = some k → w.heap.size ≤ k) : Below w.heap.size w V' :=
  ⟨g.os.trans h.os, g.tape.trans h.tape, g.output.trans h.output, Nat.le_trans h.size g.size, fun j hj => (g.block j (Nat.lt_of_lt_of_le hj h.size) (fun e => by have := hr j e.symm; omega)).trans (h.block j hj)⟩
theorem cell_later_add {w w' : World} {a : Addr} {v : Value} (hb : Below w.heap.size w w') (h : w.cell? a = some v) : w'.cell? a = some v :=
  (hb.cell (World.block_lt_of_cell? w a h)).trans h

end Go.Proofs.YtgealgjeboainaaGreat
/- compare, Grow, Concat and Put at ranges. -/
namespace Go.Proofs.YtgealgjeboainaaGreat
open Go.RowKit Go.Shelf

theorem rangeAt_any (p : Rg) (w : World) :
    Calls Tryz.prog 99 #[.agg #[.int .i64 p.a, .int .i64 p.l, .int .i64 p.p]] w fun e w' => e = .returned (.int .i64 p.a) ∧ Below w.heap.size w w' := by
  go_enter Tryz.func99, Tryz.ntmps99
  go_wp2
  go_ret
  exact ⟨rfl, bl1 _ _⟩
theorem call_rangeAt (args : Array Value) (W : World) : (callFunc 99 args).run Tryz.prog W = .ok (.enter 99 args) W := by simp [go_sem]

set_option maxRecDepth 100000 in
set_option maxHeartbeats 1600000 in
theorem compareR_is (p r : Rg) (v : Int) (hv : Cmp p.a r.a v) (bb kk : Nat) (w : World) (hby : w.cell? ⟨bb, 0, none⟩ = some (.func (.func 99) #[] #[])) :
    Calls Tryz.prog 111 #[.agg #[.int .i64 p.a, .int .i64 p.l, .int .i64 p.p], .agg #[.int .i64 r.a, .int .i64 r.l, .int .i64 r.p], .slice (some ⟨bb, 0, none⟩) 1 kk] w fun e w' => e = .returned (.int .i64 v) ∧ Below w.heap.size w w' := by
  have hcall := call_rangeAt
  go_enter Tryz.func111, Tryz.ntmps111
  go_wp2
  go_loopw [12] (fun i wr => ∃ j : Nat, (j = 0 ∨ (j = 1 ∧ v = 0)) ∧ i = .int .i64 j ∧ Below (w.heap.size + 1 + 1) ((w.alloc (.cells #[.int .i64 p.a, .int .i64 p.l, .int .i64 p.p] 48)).alloc (.cells #[.int .i64 r.a, .int .i64 r.l, .int .i64 r.p] 48)) wr) (fun i _ => 1 - (intOf i).toNat)
  case atStart => exact ⟨0, .inl rfl, rfl, Below.refl _ _⟩
  case round =>
    obtain ⟨j, hj, rfl, hB⟩ := hrel
    rcases hj with rfl | ⟨rfl, hv0⟩
    · have hz := hB.size
      simp only [World.size_alloc] at hz
      have hbl : bb < w.heap.size := block_lt_of_cell hby
      have e0 : wr.cell? ⟨w.heap.size, 0, none⟩ = some (.int .i64 p.a) := (hB.cell (p := ⟨w.heap.size, 0, none⟩) (by show w.heap.size < _; omega)).trans (by simp)
      have f0 : wr.cell? ⟨w.heap.size + 1, 0, none⟩ = some (.int .i64 r.a) := (hB.cell (p := ⟨w.heap.size + 1, 0, none⟩) (by show w.heap.size + 1 < _; omega)).trans (by simp)
      have e1 : wr.cell? ⟨w.heap.size, 1, none⟩ = some (.int .i64 p.l) := (hB.cell (p := ⟨w.heap.size, 1, none⟩) (by show w.heap.size < _; omega)).trans (by simp)
      have f1 : wr.cell? ⟨w.heap.size + 1, 1, none⟩ = some (.int .i64 r.l) := (hB.cell (p := ⟨w.heap.size + 1, 1, none⟩) (by show w.heap.size + 1 < _; omega)).trans (by simp)
      have e2 : wr.cell? ⟨w.heap.size, 2, none⟩ = some (.int .i64 p.p) := (hB.cell (p := ⟨w.heap.size, 2, none⟩) (by show w.heap.size < _; omega)).trans (by simp)
      have f2 : wr.cell? ⟨w.heap.size + 1, 2, none⟩ = some (.int .i64 r.p) := (hB.cell (p := ⟨w.heap.size + 1, 2, none⟩) (by show w.heap.size + 1 < _; omega)).trans (by simp)
      have e9 : wr.cell? ⟨bb, 0, none⟩ = some (.func (.func 99) #[] #[]) := (hB.cell (p := ⟨bb, 0, none⟩) (by show bb < _; omega)).trans (cell_later (bl2 w _ _) hby)
      have g0 := Ws.here e0
      have k0 := Ws.here f0
      have g1 := Ws.here e1
      have k1 := Ws.here f1
      have g2 := Ws.here e2
      have k2 := Ws.here f2
      go_upto_region 4 with fail
      clear e0 f0 e1 f1 e2 f2 e9
      refine wp_region_ws wr.heap.size (by kernel_rfl) (by kernel_rfl) ?_
      repeat (go_big_quiet_step (first | (go_at_call 99; exact Calls.in_ws (Nat.le_refl _) (rangeAt_any _ _)) | (go_at_call 17; exact Calls.in_ws_same (cmp_is _ _ _ hv _))))
      refine wpQuiet_nil ?_
      rintro _ ⟨u, rfl⟩
      have hu := hB.trans (u.property.mono hz)
      generalize u.val = wu at hu ⊢
      clear u g0 k0 g1 k1 g2 k2
      rcases hv with ⟨h, rfl⟩ | ⟨h, rfl⟩ | ⟨h, rfl⟩
      · go_wp2
        go_ret
        exact ⟨rfl, (bl2 w _ _).trans (hu.mono (by omega))⟩
      · go_wp2
        go_roundw
        case rel => exact ⟨1, .inr ⟨rfl, trivial⟩, by go_num, hu⟩
        case measure => simp [intOf]
      · go_wp2
        go_ret
        exact ⟨rfl, (bl2 w _ _).trans (hu.mono (by omega))⟩
    · subst hv0
      go_wp2
      go_ret
      exact ⟨rfl, (bl2 w _ _).trans (hB.mono (by omega))⟩
/-- These lie one behind the other from there on. -/
def RunR (w : World) (x : Option Addr) (n : Nat) (es : List Rg) : Prop := es.length = n ∧ (0 < n → x ≠ none) ∧ ∀ ad, x = some ad → ∀ j u, (flatR es)[j]? = some u → w.cell? (ad.add j) = some u
theorem RunR.later {w w' : World} {x : Option Addr} {n : Nat} {es : List Rg} (h : RunR w x n es) (hb : Below w.heap.size w w') : RunR w' x n es :=
  ⟨h.1, h.2.1, fun ad hx j u hj => cell_later_add hb (h.2.2 ad hx j u hj)⟩
theorem RunR.empty (w : World) (x : Option Addr) : RunR w x 0 [] := ⟨rfl, fun h => by omega, fun _ _ j u hj => by simp [flatR] at hj⟩
theorem RS.run {w : World} {x : Option Addr} {n : Nat} {es : List Rg} (h : RS w x n es) : RunR w x n es :=
  ⟨h.len, (fun h0 e => by obtain ⟨b, o, hx, -⟩ := h.cells 0 h0; rw [e] at hx; cases hx), fun ad hx => by subst hx; exact h.flat_cells⟩
theorem RunR.take {w : World} {x : Option Addr} {n i : Nat} {es : List Rg} (h : RunR w x n es) (hi : i ≤ n) : RunR w x i (es.take i) := by
  refine ⟨by rw [List.length_take, h.1]; omega, fun h0 => h.2.1 (by omega), fun ad hx j u hj => h.2.2 ad hx j u ?_⟩
  conv => lhs; rw [← List.take_append_drop i es]
  rw [flatR_app, List.getElem?_append_left (List.getElem?_eq_some_iff.1 hj).1]
  exact hj
theorem RunR.drop {w : World} {b o n i c : Nat} {es : List Rg} (h : RunR w (some ⟨b, o, none⟩) n es) (hi : i ≤ n) (hnc : n ≤ c) : RunR w (if c = i then some ⟨b, o, none⟩ else some ⟨b, o + i * 3, none⟩) (n - i) (es.drop i) := by
  refine ⟨by rw [List.length_drop, h.1], fun _ => by split <;> simp, fun ad hx j u hj => ?_⟩
  have hlt : i < n := by
    by_cases e : i < n
    · exact e
    · rw [List.drop_eq_nil_of_le (by rw [h.1]; omega)] at hj
      simp [flatR] at hj
  rw [if_neg (by omega)] at hx
  cases hx
  have h2 := h.2.2 _ rfl (i * 3 + j) u (by
    conv => lhs; rw [← List.take_append_drop i es]
    have hm : (flatR (es.take i)).length = i * 3 := by rw [flatR_len, List.length_take, h.1, show min i n = i by omega]
    rw [flatR_app, List.getElem?_append_right (by rw [hm]; omega), hm, show i * 3 + j - i * 3 = j by omega]
    exact hj)
  rw [addr_add] at h2 ⊢
  rw [show o + i * 3 + j = o + (i * 3 + j) by omega]
  exact h2

def catRTo (ql : Nat → List Rg) : Nat → List Rg
  | 0 => []
  | j + 1 => catRTo ql j ++ ql j

/-- What Put answers: it stands ahead of the first one whose number is greater. -/
def PutRPost (e : Rg) (n : Nat) (ps : List Rg) (w : World) (r : Ending) (w' : World) : Prop :=
  ∃ v, r = .returned v ∧ Below w.heap.size w w' ∧ ∃ i, i ≤ n ∧ (∀ j, j < i → ¬ e.a < (rgAt ps j).a) ∧ (i < n → e.a < (rgAt ps i).a) ∧ OwnR w' w.heap.size v (ps.take i ++ [e] ++ ps.drop i)

end Go.Proofs.YtgealgjeboainaaGreat
/- compare, Grow, Concat and Put at subs. -/
namespace Go.Proofs.YtgealgjeboainaaGreat
open Go.RowKit Go.Shelf

theorem subId_any (p : Sb) (w : World) :
    Calls Tryz.prog 104 #[.agg #[.int .i64 p.id, .int .i64 p.a, .int .i64 p.l, .slice p.x p.n p.c]] w fun e w' => e = .returned (.int .i64 p.id) ∧ Below w.heap.size w w' := by
  go_enter Tryz.func104, Tryz.ntmps104
  go_wp2
  go_ret
  exact ⟨rfl, bl1 _ _⟩
theorem call_subId (args : Array Value) (W : World) : (callFunc 104 args).run Tryz.prog W = .ok (.enter 104 args) W := by simp [go_sem]

set_option maxRecDepth 100000 in
set_option maxHeartbeats 1600000 in
theorem compareS_is (p r : Sb) (v : Int) (hv : Cmp p.id r.id v) (bb kk : Nat) (w : World) (hby : w.cell? ⟨bb, 0, none⟩ = some (.func (.func 104) #[] #[])) :
    Calls Tryz.prog 119 #[.agg #[.int .i64 p.id, .int .i64 p.a, .int .i64 p.l, .slice p.x p.n p.c], .agg #[.int .i64 r.id, .int .i64 r.a, .int .i64 r.l, .slice r.x r.n r.c], .slice (some ⟨bb, 0, none⟩) 1 kk] w fun e w' => e = .returned (.int .i64 v) ∧ Below w.heap.size w w' := by
  have hcall := call_subId
  go_enter Tryz.func119, Tryz.ntmps119
  go_wp2
  go_loopw [12] (fun i wr => ∃ j : Nat, (j = 0 ∨ (j = 1 ∧ v = 0)) ∧ i = .int .i64 j ∧ Below (w.heap.size + 1 + 1) ((w.alloc (.cells #[.int .i64 p.id, .int .i64 p.a, .int .i64 p.l, .slice p.x p.n p.c] 78)).alloc (.cells #[.int .i64 r.id, .int .i64 r.a, .int .i64 r.l, .slice r.x r.n r.c] 78)) wr) (fun i _ => 1 - (intOf i).toNat)
  case atStart => exact ⟨0, .inl rfl, rfl, Below.refl _ _⟩
  case round =>
    obtain ⟨j, hj, rfl, hB⟩ := hrel
    rcases hj with rfl | ⟨rfl, hv0⟩
    · have hz := hB.size
      simp only [World.size_alloc] at hz
      have hbl : bb < w.heap.size := block_lt_of_cell hby
      have e0 : wr.cell? ⟨w.heap.size, 0, none⟩ = some (.int .i64 p.id) := (hB.cell (p := ⟨w.heap.size, 0, none⟩) (by show w.heap.size < _; omega)).trans (by simp)
      have f0 : wr.cell? ⟨w.heap.size + 1, 0, none⟩ = some (.int .i64 r.id) := (hB.cell (p := ⟨w.heap.size + 1, 0, none⟩) (by show w.heap.size + 1 < _; omega)).trans (by simp)
      have e1 : wr.cell? ⟨w.heap.size, 1, none⟩ = some (.int .i64 p.a) := (hB.cell (p := ⟨w.heap.size, 1, none⟩) (by show w.heap.size < _; omega)).trans (by simp)
      have f1 : wr.cell? ⟨w.heap.size + 1, 1, none⟩ = some (.int .i64 r.a) := (hB.cell (p := ⟨w.heap.size + 1, 1, none⟩) (by show w.heap.size + 1 < _; omega)).trans (by simp)
      have e2 : wr.cell? ⟨w.heap.size, 2, none⟩ = some (.int .i64 p.l) := (hB.cell (p := ⟨w.heap.size, 2, none⟩) (by show w.heap.size < _; omega)).trans (by simp)
      have f2 : wr.cell? ⟨w.heap.size + 1, 2, none⟩ = some (.int .i64 r.l) := (hB.cell (p := ⟨w.heap.size + 1, 2, none⟩) (by show w.heap.size + 1 < _; omega)).trans (by simp)
      have e3 : wr.cell? ⟨w.heap.size, 3, none⟩ = some (.slice p.x p.n p.c) := (hB.cell (p := ⟨w.heap.size, 3, none⟩) (by show w.heap.size < _; omega)).trans (by simp)
      have f3 : wr.cell? ⟨w.heap.size + 1, 3, none⟩ = some (.slice r.x r.n r.c) := (hB.cell (p := ⟨w.heap.size + 1, 3, none⟩) (by show w.heap.size + 1 < _; omega)).trans (by simp)
      have e9 : wr.cell? ⟨bb, 0, none⟩ = some (.func (.func 104) #[] #[]) := (hB.cell (p := ⟨bb, 0, none⟩) (by show bb < _; omega)).trans (cell_later (bl2 w _ _) hby)
      have g0 := Ws.here e0
      have k0 := Ws.here f0
      have g1 := Ws.here e1
      have k1 := Ws.here f1
      have g2 := Ws.here e2
      have k2 := Ws.here f2
      have g3 := Ws.here e3
      have k3 := Ws.here f3
      go_upto_region 4 with fail
      clear e0 f0 e1 f1 e2 f2 e3 f3 e9
      refine wp_region_ws wr.heap.size (by kernel_rfl) (by kernel_rfl) ?_
      repeat (go_big_quiet_step (first | (go_at_call 104; exact Calls.in_ws (Nat.le_refl _) (subId_any _ _)) | (go_at_call 17; exact Calls.in_ws_same (cmp_is _ _ _ hv _))))
      refine wpQuiet_nil ?_
      rintro _ ⟨u, rfl⟩
      have hu := hB.trans (u.property.mono hz)
      generalize u.val = wu at hu ⊢
      clear u g0 k0 g1 k1 g2 k2 g3 k3
      rcases hv with ⟨h, rfl⟩ | ⟨h, rfl⟩ | ⟨h, rfl⟩
      · go_wp2
        go_ret
        exact ⟨rfl, (bl2 w _ _).trans (hu.mono (by omega))⟩
      · go_wp2
        go_roundw
        case rel => exact ⟨1, .inr ⟨rfl, trivial⟩, by go_num, hu⟩
        case measure => simp [intOf]
      · go_wp2
        go_ret
        exact ⟨rfl, (bl2 w _ _).trans (hu.mono (by omega))⟩
    · subst hv0
      go_wp2
      go_ret
      exact ⟨rfl, (bl2 w _ _).trans (hB.mono (by omega))⟩
/-- These lie one behind the other from there on. -/
def RunS (w : World) (x : Option Addr) (n : Nat) (es : List Sb) : Prop := es.length = n ∧ (0 < n → x ≠ none) ∧ ∀ ad, x = some ad → ∀ j u, (flatS es)[j]? = some u → w.cell? (ad.add j) = some u
theorem RunS.later {w w' : World} {x : Option Addr} {n : Nat} {es : List Sb} (h : RunS w x n es) (hb : Below w.heap.size w w') : RunS w' x n es :=
  ⟨h.1, h.2.1, fun ad hx j u hj => cell_later_add hb (h.2.2 ad hx j u hj)⟩
theorem RunS.empty (w : World) (x : Option Addr) : RunS w x 0 [] := ⟨rfl, fun h => by omega, fun _ _ j u hj => by simp [flatS] at hj⟩
theorem SS.run {w : World} {x : Option Addr} {n : Nat} {es : List Sb} (h : SS w x n es) : RunS w x n es :=
  ⟨h.len, (fun h0 e => by obtain ⟨b, o, hx, -⟩ := h.cells 0 h0; rw [e] at hx; cases hx), fun ad hx => by subst hx; exact h.flat_cells⟩
theorem RunS.take {w : World} {x : Option Addr} {n i : Nat} {es : List Sb} (h : RunS w x n es) (hi : i ≤ n) : RunS w x i (es.take i) := by
  refine ⟨by rw [List.length_take, h.1]; omega, fun h0 => h.2.1 (by omega), fun ad hx j u hj => h.2.2 ad hx j u ?_⟩
  conv => lhs; rw [← List.take_append_drop i es]
  rw [flatS_app, List.getElem?_append_left (List.getElem?_eq_some_iff.1 hj).1]
  exact hj
theorem RunS.drop {w : World} {b o n i c : Nat} {es : List Sb} (h : RunS w (some ⟨b, o, none⟩) n es) (hi : i ≤ n) (hnc : n ≤ c) : RunS w (if c = i then some ⟨b, o, none⟩ else some ⟨b, o + i * 4, none⟩) (n - i) (es.drop i) := by
  refine ⟨by rw [List.length_drop, h.1], fun _ => by split <;> simp, fun ad hx j u hj => ?_⟩
  have hlt : i < n := by
    by_cases e : i < n
    · exact e
    · rw [List.drop_eq_nil_of_le (by rw [h.1]; omega)] at hj
      simp [flatS] at hj
  rw [if_neg (by omega)] at hx
  cases hx
  have h2 := h.2.2 _ rfl (i * 4 + j) u (by
    conv => lhs; rw [← List.take_append_drop i es]
    have hm : (flatS (es.take i)).length = i * 4 := by rw [flatS_len, List.length_take, h.1, show min i n = i by omega]
    rw [flatS_app, List.getElem?_append_right (by rw [hm]; omega), hm, show i * 4 + j - i * 4 = j by omega]
    exact hj)
  rw [addr_add] at h2 ⊢
  rw [show o + i * 4 + j = o + (i * 4 + j) by omega]
  exact h2

def catSTo (ql : Nat → List Sb) : Nat → List Sb
  | 0 => []
  | j + 1 => catSTo ql j ++ ql j

/-- What Put answers: it stands ahead of the first one whose number is greater. -/
def PutSPost (e : Sb) (n : Nat) (ps : List Sb) (w : World) (r : Ending) (w' : World) : Prop :=
  ∃ v, r = .returned v ∧ Below w.heap.size w w' ∧ ∃ i, i ≤ n ∧ (∀ j, j < i → ¬ e.id < (sbAt ps j).id) ∧ (i < n → e.id < (sbAt ps i).id) ∧ OwnS w' w.heap.size v (ps.take i ++ [e] ++ ps.drop i)

end Go.Proofs.YtgealgjeboainaaGreat
/- compare, Grow, Concat and Put at faces. -/
namespace Go.Proofs.YtgealgjeboainaaGreat
open Go.RowKit Go.Shelf

theorem faceId_any (p : Fc) (w : World) :
    Calls Tryz.prog 116 #[.agg #[.int .i64 p.id, .slice p.x p.n p.c]] w fun e w' => e = .returned (.int .i64 p.id) ∧ Below w.heap.size w w' := by
  go_enter Tryz.func116, Tryz.ntmps116
  go_wp2
  go_ret
  exact ⟨rfl, bl1 _ _⟩
theorem call_faceId (args : Array Value) (W : World) : (callFunc 116 args).run Tryz.prog W = .ok (.enter 116 args) W := by simp [go_sem]

set_option maxRecDepth 100000 in
set_option maxHeartbeats 1600000 in
theorem compareF_is (p r : Fc) (v : Int) (hv : Cmp p.id r.id v) (bb kk : Nat) (w : World) (hby : w.cell? ⟨bb, 0, none⟩ = some (.func (.func 116) #[] #[])) :
    Calls Tryz.prog 126 #[.agg #[.int .i64 p.id, .slice p.x p.n p.c], .agg #[.int .i64 r.id, .slice r.x r.n r.c], .slice (some ⟨bb, 0, none⟩) 1 kk] w fun e w' => e = .returned (.int .i64 v) ∧ Below w.heap.size w w' := by
  have hcall := call_faceId
  go_enter Tryz.func126, Tryz.ntmps126
  go_wp2
  go_loopw [12] (fun i wr => ∃ j : Nat, (j = 0 ∨ (j = 1 ∧ v = 0)) ∧ i = .int .i64 j ∧ Below (w.heap.size + 1 + 1) ((w.alloc (.cells #[.int .i64 p.id, .slice p.x p.n p.c] 83)).alloc (.cells #[.int .i64 r.id, .slice r.x r.n r.c] 83)) wr) (fun i _ => 1 - (intOf i).toNat)
  case atStart => exact ⟨0, .inl rfl, rfl, Below.refl _ _⟩
  case round =>
    obtain ⟨j, hj, rfl, hB⟩ := hrel
    rcases hj with rfl | ⟨rfl, hv0⟩
    · have hz := hB.size
      simp only [World.size_alloc] at hz
      have hbl : bb < w.heap.size := block_lt_of_cell hby
      have e0 : wr.cell? ⟨w.heap.size, 0, none⟩ = some (.int .i64 p.id) := (hB.cell (p := ⟨w.heap.size, 0, none⟩) (by show w.heap.size < _; omega)).trans (by simp)
      have f0 : wr.cell? ⟨w.heap.size + 1, 0, none⟩ = some (.int .i64 r.id) := (hB.cell (p := ⟨w.heap.size + 1, 0, none⟩) (by show w.heap.size + 1 < _; omega)).trans (by simp)
      have e1 : wr.cell? ⟨w.heap.size, 1, none⟩ = some (.slice p.x p.n p.c) := (hB.cell (p := ⟨w.heap.size, 1, none⟩) (by show w.heap.size < _; omega)).trans (by simp)
      have f1 : wr.cell? ⟨w.heap.size + 1, 1, none⟩ = some (.slice r.x r.n r.c) := (hB.cell (p := ⟨w.heap.size + 1, 1, none⟩) (by show w.heap.size + 1 < _; omega)).trans (by simp)
      have e9 : wr.cell? ⟨bb, 0, none⟩ = some (.func (.func 116) #[] #[]) := (hB.cell (p := ⟨bb, 0, none⟩) (by show bb < _; omega)).trans (cell_later (bl2 w _ _) hby)
      have g0 := Ws.here e0
      have k0 := Ws.here f0
      have g1 := Ws.here e1
      have k1 := Ws.here f1
      go_upto_region 4 with fail
      clear e0 f0 e1 f1 e9
      refine wp_region_ws wr.heap.size (by kernel_rfl) (by kernel_rfl) ?_
      repeat (go_big_quiet_step (first | (go_at_call 116; exact Calls.in_ws (Nat.le_refl _) (faceId_any _ _)) | (go_at_call 17; exact Calls.in_ws_same (cmp_is _ _ _ hv _))))
      refine wpQuiet_nil ?_
      rintro _ ⟨u, rfl⟩
      have hu := hB.trans (u.property.mono hz)
      generalize u.val = wu at hu ⊢
      clear u g0 k0 g1 k1
      rcases hv with ⟨h, rfl⟩ | ⟨h, rfl⟩ | ⟨h, rfl⟩
      · go_wp2
        go_ret
        exact ⟨rfl, (bl2 w _ _).trans (hu.mono (by omega))⟩
      · go_wp2
        go_roundw
        case rel => exact ⟨1, .inr ⟨rfl, trivial⟩, by go_num, hu⟩
        case measure => simp [intOf]
      · go_wp2
        go_ret
        exact ⟨rfl, (bl2 w _ _).trans (hu.mono (by omega))⟩
    · subst hv0
      go_wp2
      go_ret
      exact ⟨rfl, (bl2 w _ _).trans (hB.mono (by omega))⟩
/-- These lie one behind the other from there on. -/
def RunF (w : World) (x : Option Addr) (n : Nat) (es : List Fc) : Prop := es.length = n ∧ (0 < n → x ≠ none) ∧ ∀ ad, x = some ad → ∀ j u, (flatF es)[j]? = some u → w.cell? (ad.add j) = some u
theorem RunF.later {w w' : World} {x : Option Addr} {n : Nat} {es : List Fc} (h : RunF w x n es) (hb : Below w.heap.size w w') : RunF w' x n es :=
  ⟨h.1, h.2.1, fun ad hx j u hj => cell_later_add hb (h.2.2 ad hx j u hj)⟩
theorem RunF.empty (w : World) (x : Option Addr) : RunF w x 0 [] := ⟨rfl, fun h => by omega, fun _ _ j u hj => by simp [flatF] at hj⟩
theorem FcS.run {w : World} {x : Option Addr} {n : Nat} {es : List Fc} (h : FcS w x n es) : RunF w x n es :=
  ⟨h.len, (fun h0 e => by obtain ⟨b, o, hx, -⟩ := h.cells 0 h0; rw [e] at hx; cases hx), fun ad hx => by subst hx; exact h.flat_cells⟩
theorem RunF.take {w : World} {x : Option Addr} {n i : Nat} {es : List Fc} (h : RunF w x n es) (hi : i ≤ n) : RunF w x i (es.take i) := by
  refine ⟨by rw [List.length_take, h.1]; omega, fun h0 => h.2.1 (by omega), fun ad hx j u hj => h.2.2 ad hx j u ?_⟩
  conv => lhs; rw [← List.take_append_drop i es]
  rw [flatF_app, List.getElem?_append_left (List.getElem?_eq_some_iff.1 hj).1]
  exact hj
theorem RunF.drop {w : World} {b o n i c : Nat} {es : List Fc} (h : RunF w (some ⟨b, o, none⟩) n es) (hi : i ≤ n) (hnc : n ≤ c) : RunF w (if c = i then some ⟨b, o, none⟩ else some ⟨b, o + i * 2, none⟩) (n - i) (es.drop i) := by
  refine ⟨by rw [List.length_drop, h.1], fun _ => by split <;> simp, fun ad hx j u hj => ?_⟩
  have hlt : i < n := by
    by_cases e : i < n
    · exact e
    · rw [List.drop_eq_nil_of_le (by rw [h.1]; omega)] at hj
      simp [flatF] at hj
  rw [if_neg (by omega)] at hx
  cases hx
  have h2 := h.2.2 _ rfl (i * 2 + j) u (by
    conv => lhs; rw [← List.take_append_drop i es]
    have hm : (flatF (es.take i)).length = i * 2 := by rw [flatF_len, List.length_take, h.1, show min i n = i by omega]
    rw [flatF_app, List.getElem?_append_right (by rw [hm]; omega), hm, show i * 2 + j - i * 2 = j by omega]
    exact hj)
  rw [addr_add] at h2 ⊢
  rw [show o + i * 2 + j = o + (i * 2 + j) by omega]
  exact h2

def catFTo (ql : Nat → List Fc) : Nat → List Fc
  | 0 => []
  | j + 1 => catFTo ql j ++ ql j

/-- What Put answers: it stands ahead of the first one whose number is greater. -/
def PutFPost (e : Fc) (n : Nat) (ps : List Fc) (w : World) (r : Ending) (w' : World) : Prop :=
  ∃ v, r = .returned v ∧ Below w.heap.size w w' ∧ ∃ i, i ≤ n ∧ (∀ j, j < i → ¬ e.id < (fcAt ps j).id) ∧ (i < n → e.id < (fcAt ps i).id) ∧ OwnF w' w.heap.size v (ps.take i ++ [e] ++ ps.drop i)

end Go.Proofs.YtgealgjeboainaaGreat
