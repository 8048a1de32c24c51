/- What slices.Clone at ranges, subnets and faces comes to. -/
import Derived.Test.YtlalgkjollgcbaaGreatMN08
import Derived.Lib.SliceRun
import Derived.Lib.AppendZerosOnto
import Derived.Lib.AppendZeros
import Derived.Deep.RegionHeld3
namespace Go.Proofs.YtlalgkjollgcbaaGreat
open Go.RowKit Go.Shelf

theorem below_grownr {w V V' : World} {r : Option Nat} (h : Below w.heap.size w V) (g : V.grownBy V' r) (hr : ∀ k, r = some k → w.heap.size ≤ k) : Below w.heap.size w V' :=
  ⟨g.os.trans h.os, g.tape.trans h.tape, g.output.trans h.output, Nat.le_trans h.size g.size, fun j hj => (g.block j (Nat.lt_of_lt_of_le hj h.size) (fun e => by have := hr j e.symm; omega)).trans (h.block j hj)⟩
theorem cell_later_add {w w' : World} {a : Addr} {v : Value} (hb : Below w.heap.size w w') (h : w.cell? a = some v) : w'.cell? a = some v :=
  (hb.cell (World.block_lt_of_cell? w a h)).trans h

set_option maxRecDepth 20000 in
set_option maxHeartbeats 800000 in
theorem cloneR_any (x : Option Addr) (n c : Nat) (es : List Rg) (w : World) (hl : RS w x n es) (hn : n ≤ 1048576) :
    Calls Tryz.prog 77 #[.slice x n c] w fun e w' => ∃ v, e = .returned v ∧ OwnR w' w.heap.size v es ∧ Below w.heap.size w w' := by
  have hq := fun W => Lib.run_eql_slice_nil (P := Tryz.prog) W 49 29 x n c 0 0 under_R
  cases x with
  | none =>
    have h0 : n = 0 := by
      rcases Nat.eq_zero_or_pos n with h | h
      · exact h
      · obtain ⟨b, o, h, -⟩ := hl.cells 0 h
        cases h
    obtain rfl : es = [] := List.eq_nil_of_length_eq_zero (by rw [hl.len, h0])
    subst h0
    simp only [Option.isNone_none] at hq
    go_enter Tryz.func77, Tryz.ntmps77
    go_wp2
    go_ret
    exact ⟨_, rfl, World.ownsRow_nil _ _ _ _, Below.refl _ _⟩
  | some ad =>
    simp only [Option.isNone_some] at hq
    have hlen := hl.len
    go_enter Tryz.func77, Tryz.ntmps77
    go_wp2_with (at_builtin; refine Hid.out ?_)
    unfold Hid
    have hO : OwnR (w.alloc (.cells #[] 29)) w.heap.size (.slice (some ⟨w.heap.size, 0, none⟩) 0 0) [] := ⟨rfl, .inr ⟨w.heap.size, 0, #[], rfl, Nat.le_refl _, heap_new _ rfl, by simp, by unfold maxLen; omega, by simp, rfl⟩⟩
    refine wpList_append_R rfl _ _ rfl w.heap.size _ [] rfl hO ad n c es rfl hlen (fun j u hj => cell_later_add (bl1 w _) (hl.flat_cells j u hj)) (by simp; omega) (by simp) ?_
    intro v' w' hO' hg
    have hB := below_grownr (bl1 w _) hg (fun k e => (hO.lt k e).1)
    go_wp2
    go_ret
    exact ⟨_, rfl, hO', hB⟩

set_option maxRecDepth 20000 in
set_option maxHeartbeats 800000 in
theorem cloneS_any (x : Option Addr) (n c : Nat) (es : List Sb) (w : World) (hl : SS w x n es) (hn : n ≤ 1048576) :
    Calls Tryz.prog 78 #[.slice x n c] w fun e w' => ∃ v, e = .returned v ∧ OwnS w' w.heap.size v es ∧ Below w.heap.size w w' := by
  have hq := fun W => Lib.run_eql_slice_nil (P := Tryz.prog) W 50 90 x n c 0 0 under_S
  cases x with
  | none =>
    have h0 : n = 0 := by
      rcases Nat.eq_zero_or_pos n with h | h
      · exact h
      · obtain ⟨b, o, h, -⟩ := hl.cells 0 h
        cases h
    obtain rfl : es = [] := List.eq_nil_of_length_eq_zero (by rw [hl.len, h0])
    subst h0
    simp only [Option.isNone_none] at hq
    go_enter Tryz.func78, Tryz.ntmps78
    go_wp2
    go_ret
    exact ⟨_, rfl, World.ownsRow_nil _ _ _ _, Below.refl _ _⟩
  | some ad =>
    simp only [Option.isNone_some] at hq
    have hlen := hl.len
    go_enter Tryz.func78, Tryz.ntmps78
    go_wp2_with (at_builtin; refine Hid.out ?_)
    unfold Hid
    have hO : OwnS (w.alloc (.cells #[] 90)) w.heap.size (.slice (some ⟨w.heap.size, 0, none⟩) 0 0) [] := ⟨rfl, .inr ⟨w.heap.size, 0, #[], rfl, Nat.le_refl _, heap_new _ rfl, by simp, by unfold maxLen; omega, by simp, rfl⟩⟩
    refine wpList_append_S rfl _ _ rfl w.heap.size _ [] rfl hO ad n c es rfl hlen (fun j u hj => cell_later_add (bl1 w _) (hl.flat_cells j u hj)) (by simp; omega) (by simp) ?_
    intro v' w' hO' hg
    have hB := below_grownr (bl1 w _) hg (fun k e => (hO.lt k e).1)
    go_wp2
    go_ret
    exact ⟨_, rfl, hO', hB⟩

set_option maxRecDepth 20000 in
set_option maxHeartbeats 800000 in
theorem cloneF_any (x : Option Addr) (n c : Nat) (es : List Fc) (w : World) (hl : FcS w x n es) (hn : n ≤ 1048576) :
    Calls Tryz.prog 100 #[.slice x n c] w fun e w' => ∃ v, e = .returned v ∧ OwnF w' w.heap.size v es ∧ Below w.heap.size w w' := by
  have hq := fun W => Lib.run_eql_slice_nil (P := Tryz.prog) W 88 99 x n c 0 0 under_F
  cases x with
  | none =>
    have h0 : n = 0 := by
      rcases Nat.eq_zero_or_pos n with h | h
      · exact h
      · obtain ⟨b, o, h, -⟩ := hl.cells 0 h
        cases h
    obtain rfl : es = [] := List.eq_nil_of_length_eq_zero (by rw [hl.len, h0])
    subst h0
    simp only [Option.isNone_none] at hq
    go_enter Tryz.func100, Tryz.ntmps100
    go_wp2
    go_ret
    exact ⟨_, rfl, World.ownsRow_nil _ _ _ _, Below.refl _ _⟩
  | some ad =>
    simp only [Option.isNone_some] at hq
    have hlen := hl.len
    go_enter Tryz.func100, Tryz.ntmps100
    go_wp2_with (at_builtin; refine Hid.out ?_)
    unfold Hid
    have hO : OwnF (w.alloc (.cells #[] 99)) w.heap.size (.slice (some ⟨w.heap.size, 0, none⟩) 0 0) [] := ⟨rfl, .inr ⟨w.heap.size, 0, #[], rfl, Nat.le_refl _, heap_new _ rfl, by simp, by unfold maxLen; omega, by simp, rfl⟩⟩
    refine wpList_append_F rfl _ _ rfl w.heap.size _ [] rfl hO ad n c es rfl hlen (fun j u hj => cell_later_add (bl1 w _) (hl.flat_cells j u hj)) (by simp; omega) (by simp) ?_
    intro v' w' hO' hg
    have hB := below_grownr (bl1 w _) hg (fun k e => (hO.lt k e).1)
    go_wp2
    go_ret
    exact ⟨_, rfl, hO', hB⟩

end Go.Proofs.YtlalgkjollgcbaaGreat
/- compare, Grow, Concat and Put at ranges. -/
namespace Go.Proofs.YtlalgkjollgcbaaGreat
open Go.RowKit Go.Shelf

theorem rangeAt_any (p : Rg) (w : World) :
    Calls Tryz.prog 59 #[.agg #[.int .i64 p.a, .int .i64 p.l, .int .i64 p.p]] w fun e w' => e = .returned (.int .i64 p.a) ∧ Below w.heap.size w w' := by
  go_enter Tryz.func59, Tryz.ntmps59
  go_wp2
  go_ret
  exact ⟨rfl, bl1 _ _⟩
theorem call_rangeAt (args : Array Value) (W : World) : (callFunc 59 args).run Tryz.prog W = .ok (.enter 59 args) W := by simp [go_sem]

set_option maxRecDepth 100000 in
set_option maxHeartbeats 1600000 in
theorem compareR_is (p r : Rg) (v : Int) (hv : Cmp p.a r.a v) (bb kk : Nat) (w : World) (hby : w.cell? ⟨bb, 0, none⟩ = some (.func (.func 59) #[] #[])) :
    Calls Tryz.prog 91 #[.agg #[.int .i64 p.a, .int .i64 p.l, .int .i64 p.p], .agg #[.int .i64 r.a, .int .i64 r.l, .int .i64 r.p], .slice (some ⟨bb, 0, none⟩) 1 kk] w fun e w' => e = .returned (.int .i64 v) ∧ Below w.heap.size w w' := by
  have hcall := call_rangeAt
  go_enter Tryz.func91, Tryz.ntmps91
  go_wp2
  go_loopw [12] (fun i wr => ∃ j : Nat, (j = 0 ∨ (j = 1 ∧ v = 0)) ∧ i = .int .i64 j ∧ Below (w.heap.size + 1 + 1) ((w.alloc (.cells #[.int .i64 p.a, .int .i64 p.l, .int .i64 p.p] 29)).alloc (.cells #[.int .i64 r.a, .int .i64 r.l, .int .i64 r.p] 29)) wr) (fun i _ => 1 - (intOf i).toNat)
  case atStart => exact ⟨0, .inl rfl, rfl, Below.refl _ _⟩
  case round =>
    obtain ⟨j, hj, rfl, hB⟩ := hrel
    rcases hj with rfl | ⟨rfl, hv0⟩
    · have hz := hB.size
      simp only [World.size_alloc] at hz
      have hbl : bb < w.heap.size := block_lt_of_cell hby
      have e0 : wr.cell? ⟨w.heap.size, 0, none⟩ = some (.int .i64 p.a) := (hB.cell (p := ⟨w.heap.size, 0, none⟩) (by show w.heap.size < _; omega)).trans (by simp)
      have f0 : wr.cell? ⟨w.heap.size + 1, 0, none⟩ = some (.int .i64 r.a) := (hB.cell (p := ⟨w.heap.size + 1, 0, none⟩) (by show w.heap.size + 1 < _; omega)).trans (by simp)
      have e1 : wr.cell? ⟨w.heap.size, 1, none⟩ = some (.int .i64 p.l) := (hB.cell (p := ⟨w.heap.size, 1, none⟩) (by show w.heap.size < _; omega)).trans (by simp)
      have f1 : wr.cell? ⟨w.heap.size + 1, 1, none⟩ = some (.int .i64 r.l) := (hB.cell (p := ⟨w.heap.size + 1, 1, none⟩) (by show w.heap.size + 1 < _; omega)).trans (by simp)
      have e2 : wr.cell? ⟨w.heap.size, 2, none⟩ = some (.int .i64 p.p) := (hB.cell (p := ⟨w.heap.size, 2, none⟩) (by show w.heap.size < _; omega)).trans (by simp)
      have f2 : wr.cell? ⟨w.heap.size + 1, 2, none⟩ = some (.int .i64 r.p) := (hB.cell (p := ⟨w.heap.size + 1, 2, none⟩) (by show w.heap.size + 1 < _; omega)).trans (by simp)
      have e9 : wr.cell? ⟨bb, 0, none⟩ = some (.func (.func 59) #[] #[]) := (hB.cell (p := ⟨bb, 0, none⟩) (by show bb < _; omega)).trans (cell_later (bl2 w _ _) hby)
      have g0 := Ws.here e0
      have k0 := Ws.here f0
      have g1 := Ws.here e1
      have k1 := Ws.here f1
      have g2 := Ws.here e2
      have k2 := Ws.here f2
      go_upto_region 4 with fail
      clear e0 f0 e1 f1 e2 f2 e9
      refine wp_region_ws wr.heap.size (by kernel_rfl) (by kernel_rfl) ?_
      repeat (go_big_quiet_step (first | (go_at_call 59; exact Calls.in_ws (Nat.le_refl _) (rangeAt_any _ _)) | (go_at_call 80; exact Calls.in_ws_same (cmp_is _ _ _ hv _))))
      refine wpQuiet_nil ?_
      rintro _ ⟨u, rfl⟩
      have hu := hB.trans (u.property.mono hz)
      generalize u.val = wu at hu ⊢
      clear u g0 k0 g1 k1 g2 k2
      rcases hv with ⟨h, rfl⟩ | ⟨h, rfl⟩ | ⟨h, rfl⟩
      · go_wp2
        go_ret
        exact ⟨rfl, (bl2 w _ _).trans (hu.mono (by omega))⟩
      · go_wp2
        go_roundw
        case rel => exact ⟨1, .inr ⟨rfl, trivial⟩, by go_num, hu⟩
        case measure => simp [intOf]
      · go_wp2
        go_ret
        exact ⟨rfl, (bl2 w _ _).trans (hu.mono (by omega))⟩
    · subst hv0
      go_wp2
      go_ret
      exact ⟨rfl, (bl2 w _ _).trans (hB.mono (by omega))⟩
/-- These lie one behind the other from there on. -/
def RunR (w : World) (x : Option Addr) (n : Nat) (es : List Rg) : Prop := es.length = n ∧ (0 < n → x ≠ none) ∧ ∀ ad, x = some ad → ∀ j u, (flatR es)[j]? = some u → w.cell? (ad.add j) = some u
theorem RunR.later {w w' : World} {x : Option Addr} {n : Nat} {es : List Rg} (h : RunR w x n es) (hb : Below w.heap.size w w') : RunR w' x n es :=
  ⟨h.1, h.2.1, fun ad hx j u hj => cell_later_add hb (h.2.2 ad hx j u hj)⟩
theorem RunR.empty (w : World) (x : Option Addr) : RunR w x 0 [] := ⟨rfl, fun h => by omega, fun _ _ j u hj => by simp [flatR] at hj⟩
theorem RS.run {w : World} {x : Option Addr} {n : Nat} {es : List Rg} (h : RS w x n es) : RunR w x n es :=
  ⟨h.len, (fun h0 e => by obtain ⟨b, o, hx, -⟩ := h.cells 0 h0; rw [e] at hx; cases hx), fun ad hx => by subst hx; exact h.flat_cells⟩
theorem RunR.take {w : World} {x : Option Addr} {n i : Nat} {es : List Rg} (h : RunR w x n es) (hi : i ≤ n) : RunR w x i (es.take i) := by
  refine ⟨by rw [List.length_take, h.1]; omega, fun h0 => h.2.1 (by omega), fun ad hx j u hj => h.2.2 ad hx j u ?_⟩
  conv => lhs; rw [← List.take_append_drop i es]
  rw [flatR_app, List.getElem?_append_left (List.getElem?_eq_some_iff.1 hj).1]
  exact hj
theorem RunR.drop {w : World} {b o n i c : Nat} {es : List Rg} (h : RunR w (some ⟨b, o, none⟩) n es) (hi : i ≤ n) (hnc : n ≤ c) : RunR w (if c = i then some ⟨b, o, none⟩ else some ⟨b, o + i * 3, none⟩) (n - i) (es.drop i) := by
  refine ⟨by rw [List.length_drop, h.1], fun _ => by split <;> simp, fun ad hx j u hj => ?_⟩
  have hlt : i < n := by
    by_cases e : i < n
    · exact e
    · rw [List.drop_eq_nil_of_le (by rw [h.1]; omega)] at hj
      simp [flatR] at hj
  rw [if_neg (by omega)] at hx
  cases hx
  have h2 := h.2.2 _ rfl (i * 3 + j) u (by
    conv => lhs; rw [← List.take_append_drop i es]
    have hm : (flatR (es.take i)).length = i * 3 := by rw [flatR_len, List.length_take, h.1, show min i n = i by omega]
    rw [flatR_app, List.getElem?_append_right (by rw [hm]; omega), hm, show i * 3 + j - i * 3 = j by omega]
    exact hj)
  rw [addr_add] at h2 ⊢
  rw [show o + i * 3 + j = o + (i * 3 + j) by omega]
  exact h2

set_option maxRecDepth 20000 in
set_option maxHeartbeats 800000 in
theorem growR_nil (n : Nat) (w : World) (h0 : 0 < n) (hn : n ≤ 1000) :
    Calls Tryz.prog 113 #[.slice none 0 0, .int .i64 n] w fun e w' => ∃ v, e = .returned v ∧ Below w.heap.size w w' ∧ OwnR w' w.heap.size v [] := by
  obtain ⟨i0, hi, hz0, hz1, hz2⟩ := info_R'
  have hold : (Builtin.firstCells i0.size 0 (.slice none 0 0)).run Tryz.prog w.drew = .ok ([] : List Value).toArray w.drew := run_firstCells_none w.drew i0.size 0 0 0
  have hrz : ∀ ty, (Builtin.append_ #[49, 3] ty #[.slice none 0 0, .int .i64 (n : Int)]).run Tryz.prog w = _ := fun ty =>
    Lib.run_append_grow_zeros w 49 3 ty 29 i0 _ .i64 .i64 under_R under_int hi hz0 none 0 0 [] hold n (by omega) (by omega) (by omega) (by omega) (by rw [hz2]; omega) (by rw [hz2]; exact growslice_fits (by omega) (by omega))
  have hG := grownCap_le_maxLen w (0 + n) 0 29 (by unfold maxLen; omega)
  have hGn := grownCap_ge w (0 + n) 0 29
  generalize grownCap w (0 + n) 0 29 = G at hrz hG hGn
  have h1 : ¬ ((n : Int) < 0) := by omega
  have h4 : (n : Int) > 0 := by omega
  have hG63 : G ≤ 9223372036854775807 := by unfold maxLen at hG; omega
  go_enter Tryz.func113, Tryz.ntmps113
  go_wp2_with (at_builtin; refine Lib.wpList_append_run _ rfl _ _ _ _ rfl _ _ rfl rfl _ _ (hrz _) ?_)
  go_ret
  refine ⟨_, rfl, (bl1 w _).drew, (World.ownsRow_made w _ G (Nat.le_refl _) hG ?_).drew⟩
  simp only [Array.size_append, size_zeroCells, List.size_toArray, List.length_cons, List.length_nil]
  omega
theorem growR_zero (w : World) :
    Calls Tryz.prog 113 #[.slice none 0 0, .int .i64 0] w fun e w' => e = .returned (.slice none 0 0) ∧ w' = w := by
  go_enter Tryz.func113, Tryz.ntmps113
  go_wp2
  go_ret
  exact ⟨rfl, rfl⟩
theorem growR_any (n : Nat) (w : World) (hn : n ≤ 1000) :
    Calls Tryz.prog 113 #[.slice none 0 0, .int .i64 n] w fun e w' => ∃ v, e = .returned v ∧ Below w.heap.size w w' ∧ OwnR w' w.heap.size v [] := by
  by_cases h : n = 0
  · subst h
    exact (growR_zero w).mono fun _ _ ⟨he, hw⟩ => ⟨_, he, by rw [hw]; exact Below.refl _ _, World.ownsRow_nil _ _ _ _⟩
  · exact growR_nil n w (by omega) hn
def catRTo (ql : Nat → List Rg) : Nat → List Rg
  | 0 => []
  | j + 1 => catRTo ql j ++ ql j

set_option maxRecDepth 20000 in
set_option maxHeartbeats 1600000 in
theorem concatR_any (B k k' : Nat) (xl : Nat → Option Addr) (nl cl : Nat → Nat) (ql : Nat → List Rg) (w : World) (hk : k ≤ 3)
    (hc : ∀ j, j < k → w.cell? ⟨B, j, none⟩ = some (.slice (xl j) (nl j) (cl j))) (hp : ∀ j, j < k → RunR w (xl j) (nl j) (ql j)) (hn : ∀ j, j < k → nl j ≤ 64) (h0 : ∀ j, j < k → xl j = none → nl j = 0 ∧ cl j = 0) :
    Calls Tryz.prog 92 #[.slice (some ⟨B, 0, none⟩) k k'] w fun e w' => ∃ v, e = .returned v ∧ Below w.heap.size w w' ∧ OwnR w' w.heap.size v (catRTo ql k) := by
  obtain ⟨i0, hi, hz0, hz1, hz2⟩ := info_R'
  have hlen : ∀ j, j ≤ k → (catRTo ql j).length ≤ 64 * j := by
    intro j
    induction j with
    | zero => intro _; simp [catRTo]
    | succ j ih =>
      intro hj
      have h1 := ih (by omega)
      have h2 := (hp j (by omega)).1
      have h3 := hn j (by omega)
      simp only [catRTo, List.length_append]
      omega
  go_enter Tryz.func92, Tryz.ntmps92
  go_wp2
  go_loopw [11, 3] (fun i t wr => ∃ j : Nat, j ≤ k ∧ i = .int .i64 j ∧ t = .int .i64 ((catRTo ql j).length : Nat) ∧ wr = w) (fun i _ _ => k - (intOf i).toNat)
  case atStart => exact ⟨0, by omega, rfl, rfl, rfl⟩
  case round =>
    obtain ⟨j, hj, rfl, rfl, hw⟩ := hrel
    have hw' := hw.symm
    subst hw'
    clear hw
    have hl := hlen j hj
    by_cases hlt : j < k
    · have hcj := hc j hlt
      have hl2 := hlen (j + 1) hlt
      have hpl := (hp j hlt).1
      have hnj := hn j hlt
      have hlt' := hlt
      have hcat : (catRTo ql (j + 1)).length = (catRTo ql j).length + nl j := by simp only [catRTo, List.length_append, hpl]
      have hneg : ¬ (((catRTo ql j).length : Int) + (nl j : Int) < 0) := by omega
      go_wp2
      go_roundw
      case rel => exact ⟨j + 1, hlt', by go_num, by rw [hcat]; go_num, trivial⟩
      case measure => simp [intOf]; omega
    · obtain rfl : j = k := by omega
      go_wp2_with fail
      refine (growR_any _ w (by omega)).mono ?_
      rintro e w1 ⟨v0, rfl, hb1, hown1⟩
      go_wp2
      go_loopw [27, 6] (fun i v wq => ∃ q : Nat, q ≤ j ∧ i = .int .i64 q ∧ Below w.heap.size w wq ∧ OwnR wq w.heap.size v (catRTo ql q)) (fun i _ _ => j - (intOf i).toNat)
      case atStart => exact ⟨0, by omega, rfl, hb1, hown1⟩
      case round =>
        obtain ⟨q, hq, rfl, hB, hown⟩ := hrel
        by_cases hlt2 : q < j
        · have hcq := cell_later hB (hc q hlt2)
          have hpq := (hp q hlt2).later hB
          have hlq := hlen q hq
          have hnq := hn q hlt2
          have hlt3 := hlt2
          have hsz := hB.size
          cases hxq : xl q with
          | none =>
            obtain ⟨hn0, hc0⟩ := h0 q hlt2 hxq
            rw [hxq, hn0, hc0] at hcq
            have hq0 : ql q = [] := List.eq_nil_of_length_eq_zero (by rw [hpq.1]; exact hn0)
            go_wp2_with (at_builtin; refine wpList_append_own_none rfl _ _ 49 rfl w.heap.size 29 i0 3 under_R hi _ _ _ rfl hown rfl ?_)
            go_roundw
            case rel => exact ⟨q + 1, hlt3, by go_num, hB, by simp only [catRTo, hq0, List.append_nil]; exact hown⟩
            case measure => simp [intOf]; omega
          | some ad =>
            rw [hxq] at hcq hpq
            go_wp2_with (at_builtin; refine Hid.out ?_)
            unfold Hid
            refine wpList_append_R rfl _ _ rfl w.heap.size _ _ rfl hown ad (nl q) (cl q) (ql q) rfl hpq.1 (hpq.2.2 ad rfl) (by omega) (by omega) ?_
            intro v' w2 hown2 hgrow'
            have hgrow : wr.grownBy w2 u6.ownBlock := hgrow'
            clear hgrow'
            have hB2 : Below w.heap.size w w2 := ⟨hgrow.os.trans hB.os, hgrow.tape.trans hB.tape, hgrow.output.trans hB.output, Nat.le_trans hsz hgrow.size, fun k hk => (hgrow.block k (by omega) (fun e => by have := (hown.lt _ e.symm).1; omega)).trans (hB.block k hk)⟩
            have hown3 : OwnR w2 w.heap.size v' (catRTo ql (q + 1)) := hown2
            clear hown2
            go_wp2
            go_roundw
            case rel => exact ⟨q + 1, hlt3, by go_num, hB2, hown3⟩
            case measure => simp [intOf]; omega
        · obtain rfl : q = j := by omega
          go_wp2
          go_ret
          exact ⟨_, rfl, hB, hown⟩
set_option maxRecDepth 20000 in
set_option maxHeartbeats 800000 in
theorem put1R_any (p r : Rg) (bp bb bf k : Nat) (w : World) (h10 : w.cell? ⟨bp, 0, none⟩ = some (.int .i64 p.a)) (h11 : w.cell? ⟨bp, 1, none⟩ = some (.int .i64 p.l)) (h12 : w.cell? ⟨bp, 2, none⟩ = some (.int .i64 p.p))
    (h2 : w.cell? ⟨bb, 0, none⟩ = some (.slice (some ⟨bf, 0, none⟩) 1 k)) (h3 : w.cell? ⟨bf, 0, none⟩ = some (.func (.func 59) #[] #[])) :
    Calls Tryz.prog 90 #[.agg #[.int .i64 r.a, .int .i64 r.l, .int .i64 r.p], .pointer (some ⟨bp, 0, none⟩), .pointer (some ⟨bb, 0, none⟩)] w fun e w' => e = .returned (.bool (decide (p.a < r.a))) ∧ Below w.heap.size w w' := by
  have k10 : ∀ q, (w.alloc q).cell? ⟨bp, 0, none⟩ = some (.int .i64 p.a) := fun q => cell_later (bl1 w q) h10
  have k11 : ∀ q, (w.alloc q).cell? ⟨bp, 1, none⟩ = some (.int .i64 p.l) := fun q => cell_later (bl1 w q) h11
  have k12 : ∀ q, (w.alloc q).cell? ⟨bp, 2, none⟩ = some (.int .i64 p.p) := fun q => cell_later (bl1 w q) h12
  have k2 : ∀ q, (w.alloc q).cell? ⟨bb, 0, none⟩ = some (.slice (some ⟨bf, 0, none⟩) 1 k) := fun q => cell_later (bl1 w q) h2
  have hv : ∃ v, Cmp p.a r.a v ∧ (decide (p.a < r.a) = decide (v < 0)) := by
    rcases Int.lt_trichotomy p.a r.a with h | h | h
    · exact ⟨-1, .inl ⟨h, rfl⟩, by simp [h]⟩
    · exact ⟨0, .inr (.inl ⟨h, rfl⟩), by simp [h]⟩
    · exact ⟨1, .inr (.inr ⟨h, rfl⟩), by simp; omega⟩
  obtain ⟨v, hv, hd⟩ := hv
  rw [hd]
  go_enter Tryz.func90, Tryz.ntmps90
  go_wp2_with (go_at_call 91; refine (compareR_is p r v hv bf k _ (cell_later (bl1 w _) h3)).mono ?_; rintro e w1 ⟨rfl, hb1⟩)
  go_ret
  exact ⟨rfl, (bl1 w _).trans (hb1.mono (by simp))⟩
theorem call_put1R (args : Array Value) (W : World) : (callFunc 90 args).run Tryz.prog W = .ok (.enter 90 args) W := by simp [go_sem]

set_option maxHeartbeats 800000 in
theorem concatR3 (x1 x3 : Option Addr) (n1 c1 n3 c3 : Nat) (q1 q3 : List Rg) (e : Rg) (w : World) (h1 : RunR w x1 n1 q1) (h3 : RunR w x3 n3 q3) (b1 : n1 ≤ 64) (b3 : n3 ≤ 64) (z1 : x1 = none → n1 = 0 ∧ c1 = 0) (z3 : x3 = none → n3 = 0 ∧ c3 = 0) :
    Calls Tryz.prog 92 #[.slice (some ⟨w.heap.size + 1, 0, none⟩) 3 3] ((w.alloc (.cells #[.int .i64 e.a, .int .i64 e.l, .int .i64 e.p] 29)).alloc (.cells #[.slice x1 n1 c1, .slice (some ⟨w.heap.size, 0, none⟩) 1 1, .slice x3 n3 c3] 49)).drew fun r w' =>
      ∃ v, r = .returned v ∧ Below w.heap.size w w' ∧ OwnR w' (w.heap.size + 2) v (q1 ++ [e] ++ q3) := by
  obtain ⟨W, hW⟩ : ∃ W, W = ((w.alloc (.cells #[.int .i64 e.a, .int .i64 e.l, .int .i64 e.p] 29)).alloc (.cells #[.slice x1 n1 c1, .slice (some ⟨w.heap.size, 0, none⟩) 1 1, .slice x3 n3 c3] 49)).drew := ⟨_, rfl⟩
  have hB : Below w.heap.size w W := by rw [hW]; exact (bl2 w _ _).drew
  have g0 : W.heap[w.heap.size]? = some (.cells #[.int .i64 e.a, .int .i64 e.l, .int .i64 e.p] 29) := by rw [hW]; exact heap_old _ (heap_new _ rfl)
  have g1 : W.heap[w.heap.size + 1]? = some (.cells #[.slice x1 n1 c1, .slice (some ⟨w.heap.size, 0, none⟩) 1 1, .slice x3 n3 c3] 49) := by rw [hW]; exact heap_new _ (by simp)
  have hs : W.heap.size = w.heap.size + 2 := by rw [hW]; simp
  rw [← hW]
  clear hW
  have hp2 : RunR W (some ⟨w.heap.size, 0, none⟩) 1 [e] := ⟨rfl, fun _ => by simp, fun ad hx j u hj => by
    cases hx
    rw [addr_add, Nat.zero_add]
    simp only [flatR, List.flatMap_cons, List.flatMap_nil, List.append_nil] at hj
    simpa [World.cell?, g0, cR] using hj⟩
  have hcat : catRTo (fun j => if j = 0 then q1 else if j = 1 then [e] else q3) 3 = q1 ++ [e] ++ q3 := by simp [catRTo]
  refine (concatR_any (w.heap.size + 1) 3 3 (fun j => if j = 0 then x1 else if j = 1 then some ⟨w.heap.size, 0, none⟩ else x3) (fun j => if j = 0 then n1 else if j = 1 then 1 else n3) (fun j => if j = 0 then c1 else if j = 1 then 1 else c3) (fun j => if j = 0 then q1 else if j = 1 then [e] else q3) W (by omega) ?_ ?_ ?_ ?_).mono ?_
  · intro j hj
    rcases j with _ | _ | _ | j
    · simp [World.cell?, g1]
    · simp [World.cell?, g1]
    · simp [World.cell?, g1]
    · omega
  · intro j hj
    rcases j with _ | _ | _ | j
    · simpa using h1.later hB
    · simpa using hp2
    · simpa using h3.later hB
    · omega
  · intro j hj
    rcases j with _ | _ | _ | j
    · simpa using b1
    · simp
    · simpa using b3
    · omega
  · intro j hj
    rcases j with _ | _ | _ | j
    · simpa using z1
    · simp
    · simpa using z3
    · omega
  · rintro r w' ⟨v, rfl, hb, hown⟩
    rw [hcat, hs] at hown
    exact ⟨v, rfl, hB.trans (hb.mono (by omega)), hown⟩
/-- What Put answers: it stands ahead of the first one whose number is greater. -/
def PutRPost (e : Rg) (n : Nat) (ps : List Rg) (w : World) (r : Ending) (w' : World) : Prop :=
  ∃ v, r = .returned v ∧ Below w.heap.size w w' ∧ ∃ i, i ≤ n ∧ (∀ j, j < i → ¬ e.a < (rgAt ps j).a) ∧ (i < n → e.a < (rgAt ps i).a) ∧ OwnR w' w.heap.size v (ps.take i ++ [e] ++ ps.drop i)

set_option maxRecDepth 20000 in
set_option maxHeartbeats 1600000 in
theorem putR_any (e : Rg) (x : Option Addr) (n c : Nat) (ps : List Rg) (bf k : Nat) (w : World) (hp : RS w x n ps) (hn : n ≤ 32) (hnc : n ≤ c) (hc63 : c ≤ 9223372036854775807) (hx : (x = none ∧ c = 0) ∨ ∃ b o, x = some ⟨b, o, none⟩)
    (hby : w.cell? ⟨bf, 0, none⟩ = some (.func (.func 59) #[] #[])) :
    Calls Tryz.prog 58 #[.slice x n c, .agg #[.int .i64 e.a, .int .i64 e.l, .int .i64 e.p], .slice (some ⟨bf, 0, none⟩) 1 k] w (PutRPost e n ps w) := by
  have hB2 := bl2 w (.cells #[.int .i64 e.a, .int .i64 e.l, .int .i64 e.p] 29) (.cells #[.slice (some ⟨bf, 0, none⟩) 1 k] 113)
  go_enter Tryz.func58, Tryz.ntmps58
  go_wp2_with fail
  have hF : FnRgAt 90 #[.pointer (some ⟨w.heap.size, 0, none⟩), .pointer (some ⟨w.heap.size + 1, 0, none⟩)] n ps (fun i => decide (e.a < (rgAt ps i).a)) ((w.alloc (.cells #[.int .i64 e.a, .int .i64 e.l, .int .i64 e.p] 29)).alloc (.cells #[.slice (some ⟨bf, 0, none⟩) 1 k] 113)) := fun i hi W hW =>
    put1R_any e (rgAt ps i) w.heap.size (w.heap.size + 1) bf k W (cell_later hW (by simp)) (cell_later hW (by simp)) (cell_later hW (by simp)) (cell_later hW (by simp)) (cell_later hW (cell_later hB2 hby))
  refine (indexFuncRg_any _ _ x n c ps _ _ (hp.later hB2) (by omega) hF call_put1R).mono ?_
  rintro e' w1 ⟨⟨r, rfl, hr⟩, hb1⟩
  have hB := hB2.trans (hb1.mono (by simp; omega))
  have e0 : w1.cell? ⟨w.heap.size, 0, none⟩ = some (.int .i64 e.a) := (hb1.cell (p := ⟨w.heap.size, 0, none⟩) (by show w.heap.size < _; simp; omega)).trans (by simp)
  have e1 : w1.cell? ⟨w.heap.size, 1, none⟩ = some (.int .i64 e.l) := (hb1.cell (p := ⟨w.heap.size, 1, none⟩) (by show w.heap.size < _; simp; omega)).trans (by simp)
  have e2 : w1.cell? ⟨w.heap.size, 2, none⟩ = some (.int .i64 e.p) := (hb1.cell (p := ⟨w.heap.size, 2, none⟩) (by show w.heap.size < _; simp; omega)).trans (by simp)
  have hi : ∃ i : Nat, i ≤ n ∧ (∀ j, j < i → ¬ e.a < (rgAt ps j).a) ∧ (i < n → e.a < (rgAt ps i).a) ∧ ((r = i ∧ ¬ r < 0) ∨ (r = -1 ∧ i = n)) := by
    rcases hr with ⟨i, hi, hf, hno, rfl⟩ | ⟨hno, rfl⟩
    · exact ⟨i, by omega, fun j hj => by have := hno j hj; simpa using this, fun _ => by simpa using hf, .inl ⟨rfl, by omega⟩⟩
    · exact ⟨n, by omega, fun j hj => by have := hno j hj; simpa using this, fun h => by omega, .inr ⟨rfl, rfl⟩⟩
  obtain ⟨i, hin, hlow, hup, hri⟩ := hi
  have hrun := hp.run
  rcases hx with ⟨rfl, rfl⟩ | ⟨b, o, rfl⟩
  · obtain rfl : n = 0 := by omega
    obtain rfl : i = 0 := by omega
    have hps0 := List.eq_nil_of_length_eq_zero hp.len
    rcases hri with ⟨rfl, hneg⟩ | ⟨rfl, hi2⟩
    · go_wp2_with fail
      have hpw := hrun.later hB
      go_region_held3 (fun w' => w'.cell? ⟨w.heap.size, 0, none⟩ = some (.int .i64 e.a) ∧ w'.cell? ⟨w.heap.size, 1, none⟩ = some (.int .i64 e.l) ∧ w'.cell? ⟨w.heap.size, 2, none⟩ = some (.int .i64 e.p)) (first | (go_keep; done) | (exact ⟨cell_later (bl1 _ _) (by assumption), cell_later (bl1 _ _) (by assumption), cell_later (bl1 _ _) (by assumption)⟩) | (exact ⟨cell_later hb2 e0, cell_later hb2 e1, cell_later hb2 e2⟩)) (first | (go_at_call 92; refine (concatR3 none none 0 0 0 0 [] [] e w1 (RunR.empty _ _) (RunR.empty _ _) (by omega) (by omega) (fun _ => ⟨rfl, rfl⟩) (fun _ => ⟨rfl, rfl⟩)).mono ?_; rintro e' w2 ⟨v2, rfl, hb2, hps⟩) | fail)
      all_goals go_wp2
      all_goals go_ret
      all_goals unfold PutRPost
      all_goals exact ⟨_, rfl, hB.trans (hb2.mono hB.size), 0, by omega, fun j hj => by omega, fun h => by omega, by rw [hps0]; exact OwnR.low hps (by have := hB.size; omega)⟩
    · go_wp2_with fail
      have hpw := hrun.later hB
      go_region_held3 (fun w' => w'.cell? ⟨w.heap.size, 0, none⟩ = some (.int .i64 e.a) ∧ w'.cell? ⟨w.heap.size, 1, none⟩ = some (.int .i64 e.l) ∧ w'.cell? ⟨w.heap.size, 2, none⟩ = some (.int .i64 e.p)) (first | (go_keep; done) | (exact ⟨cell_later (bl1 _ _) (by assumption), cell_later (bl1 _ _) (by assumption), cell_later (bl1 _ _) (by assumption)⟩) | (exact ⟨cell_later hb2 e0, cell_later hb2 e1, cell_later hb2 e2⟩)) (first | (go_at_call 92; refine (concatR3 none none 0 0 0 0 [] [] e w1 (RunR.empty _ _) (RunR.empty _ _) (by omega) (by omega) (fun _ => ⟨rfl, rfl⟩) (fun _ => ⟨rfl, rfl⟩)).mono ?_; rintro e' w2 ⟨v2, rfl, hb2, hps⟩) | fail)
      all_goals go_wp2
      all_goals go_ret
      all_goals unfold PutRPost
      all_goals exact ⟨_, rfl, hB.trans (hb2.mono hB.size), 0, by omega, fun j hj => by omega, fun h => by omega, by rw [hps0]; exact OwnR.low hps (by have := hB.size; omega)⟩
  · rcases hri with ⟨rfl, hneg⟩ | ⟨rfl, hi2⟩
    · go_wp2_with fail
      have hic : i ≤ c := by omega
      have hpw := hrun.later hB
      go_region_held3 (fun w' => w'.cell? ⟨w.heap.size, 0, none⟩ = some (.int .i64 e.a) ∧ w'.cell? ⟨w.heap.size, 1, none⟩ = some (.int .i64 e.l) ∧ w'.cell? ⟨w.heap.size, 2, none⟩ = some (.int .i64 e.p)) (first | (go_keep; done) | (exact ⟨cell_later (bl1 _ _) (by assumption), cell_later (bl1 _ _) (by assumption), cell_later (bl1 _ _) (by assumption)⟩) | (exact ⟨cell_later hb2 e0, cell_later hb2 e1, cell_later hb2 e2⟩)) (first | (go_at_call 92; refine (concatR3 (some ⟨b, o, none⟩) (if c = i then some ⟨b, o, none⟩ else some ⟨b, o + i * 3, none⟩) i c (n - i) (c - i) (ps.take i) (ps.drop i) e w1 (hpw.take (by omega)) (hpw.drop (by omega) hnc) (by omega) (by omega) (fun h => by cases h) (fun h => by split at h <;> cases h)).mono ?_; rintro e' w2 ⟨v2, rfl, hb2, hps⟩) | fail)
      all_goals go_wp2
      all_goals go_ret
      all_goals unfold PutRPost
      all_goals exact ⟨_, rfl, hB.trans (hb2.mono hB.size), i, by omega, fun j hj => by have := hlow j hj; omega, hup, OwnR.low hps (by have := hB.size; omega)⟩
    · have hi3 := hi2.symm
      subst hi3
      clear hi2
      by_cases hcn : n = c
      · subst hcn
        go_wp2_with fail
        have hpw := hrun.later hB
        go_region_held3 (fun w' => w'.cell? ⟨w.heap.size, 0, none⟩ = some (.int .i64 e.a) ∧ w'.cell? ⟨w.heap.size, 1, none⟩ = some (.int .i64 e.l) ∧ w'.cell? ⟨w.heap.size, 2, none⟩ = some (.int .i64 e.p)) (first | (go_keep; done) | (exact ⟨cell_later (bl1 _ _) (by assumption), cell_later (bl1 _ _) (by assumption), cell_later (bl1 _ _) (by assumption)⟩) | (exact ⟨cell_later hb2 e0, cell_later hb2 e1, cell_later hb2 e2⟩)) (first | (go_at_call 92; refine (concatR3 (some ⟨b, o, none⟩) (some ⟨b, o, none⟩) n n 0 0 ps [] e w1 hpw (RunR.empty _ _) (by omega) (by omega) (fun h => by cases h) (fun h => by cases h)).mono ?_; rintro e' w2 ⟨v2, rfl, hb2, hps⟩) | fail)
        all_goals go_wp2
        all_goals go_ret
        all_goals unfold PutRPost
        all_goals exact ⟨_, rfl, hB.trans (hb2.mono hB.size), n, by omega, fun j hj => by have := hlow j hj; omega, fun h => by omega, by rw [List.take_of_length_le (by rw [hp.len]; omega), List.drop_eq_nil_of_le (by rw [hp.len]; omega)]; exact OwnR.low hps (by have := hB.size; omega)⟩
      · have hcn' : ¬ c = n := fun h => hcn h.symm
        go_wp2_with fail
        have hpw := hrun.later hB
        go_region_held3 (fun w' => w'.cell? ⟨w.heap.size, 0, none⟩ = some (.int .i64 e.a) ∧ w'.cell? ⟨w.heap.size, 1, none⟩ = some (.int .i64 e.l) ∧ w'.cell? ⟨w.heap.size, 2, none⟩ = some (.int .i64 e.p)) (first | (go_keep; done) | (exact ⟨cell_later (bl1 _ _) (by assumption), cell_later (bl1 _ _) (by assumption), cell_later (bl1 _ _) (by assumption)⟩) | (exact ⟨cell_later hb2 e0, cell_later hb2 e1, cell_later hb2 e2⟩)) (first | (go_at_call 92; refine (concatR3 (some ⟨b, o, none⟩) (some ⟨b, o + n * 3, none⟩) n c 0 (c - n) ps [] e w1 hpw (RunR.empty _ _) (by omega) (by omega) (fun h => by cases h) (fun h => by cases h)).mono ?_; rintro e' w2 ⟨v2, rfl, hb2, hps⟩) | fail)
        all_goals go_wp2
        all_goals go_ret
        all_goals unfold PutRPost
        all_goals exact ⟨_, rfl, hB.trans (hb2.mono hB.size), n, by omega, fun j hj => by have := hlow j hj; omega, fun h => by omega, by rw [List.take_of_length_le (by rw [hp.len]; omega), List.drop_eq_nil_of_le (by rw [hp.len]; omega)]; exact OwnR.low hps (by have := hB.size; omega)⟩
end Go.Proofs.YtlalgkjollgcbaaGreat
/- compare, Grow, Concat and Put at subs. -/
namespace Go.Proofs.YtlalgkjollgcbaaGreat
open Go.RowKit Go.Shelf

theorem subId_any (p : Sb) (w : World) :
    Calls Tryz.prog 110 #[.agg #[.int .i64 p.id, .int .i64 p.a, .int .i64 p.l, .slice p.x p.n p.c]] w fun e w' => e = .returned (.int .i64 p.id) ∧ Below w.heap.size w w' := by
  go_enter Tryz.func110, Tryz.ntmps110
  go_wp2
  go_ret
  exact ⟨rfl, bl1 _ _⟩
theorem call_subId (args : Array Value) (W : World) : (callFunc 110 args).run Tryz.prog W = .ok (.enter 110 args) W := by simp [go_sem]

set_option maxRecDepth 100000 in
set_option maxHeartbeats 1600000 in
theorem compareS_is (p r : Sb) (v : Int) (hv : Cmp p.id r.id v) (bb kk : Nat) (w : World) (hby : w.cell? ⟨bb, 0, none⟩ = some (.func (.func 110) #[] #[])) :
    Calls Tryz.prog 126 #[.agg #[.int .i64 p.id, .int .i64 p.a, .int .i64 p.l, .slice p.x p.n p.c], .agg #[.int .i64 r.id, .int .i64 r.a, .int .i64 r.l, .slice r.x r.n r.c], .slice (some ⟨bb, 0, none⟩) 1 kk] w fun e w' => e = .returned (.int .i64 v) ∧ Below w.heap.size w w' := by
  have hcall := call_subId
  go_enter Tryz.func126, Tryz.ntmps126
  go_wp2
  go_loopw [12] (fun i wr => ∃ j : Nat, (j = 0 ∨ (j = 1 ∧ v = 0)) ∧ i = .int .i64 j ∧ Below (w.heap.size + 1 + 1) ((w.alloc (.cells #[.int .i64 p.id, .int .i64 p.a, .int .i64 p.l, .slice p.x p.n p.c] 90)).alloc (.cells #[.int .i64 r.id, .int .i64 r.a, .int .i64 r.l, .slice r.x r.n r.c] 90)) wr) (fun i _ => 1 - (intOf i).toNat)
  case atStart => exact ⟨0, .inl rfl, rfl, Below.refl _ _⟩
  case round =>
    obtain ⟨j, hj, rfl, hB⟩ := hrel
    rcases hj with rfl | ⟨rfl, hv0⟩
    · have hz := hB.size
      simp only [World.size_alloc] at hz
      have hbl : bb < w.heap.size := block_lt_of_cell hby
      have e0 : wr.cell? ⟨w.heap.size, 0, none⟩ = some (.int .i64 p.id) := (hB.cell (p := ⟨w.heap.size, 0, none⟩) (by show w.heap.size < _; omega)).trans (by simp)
      have f0 : wr.cell? ⟨w.heap.size + 1, 0, none⟩ = some (.int .i64 r.id) := (hB.cell (p := ⟨w.heap.size + 1, 0, none⟩) (by show w.heap.size + 1 < _; omega)).trans (by simp)
      have e1 : wr.cell? ⟨w.heap.size, 1, none⟩ = some (.int .i64 p.a) := (hB.cell (p := ⟨w.heap.size, 1, none⟩) (by show w.heap.size < _; omega)).trans (by simp)
      have f1 : wr.cell? ⟨w.heap.size + 1, 1, none⟩ = some (.int .i64 r.a) := (hB.cell (p := ⟨w.heap.size + 1, 1, none⟩) (by show w.heap.size + 1 < _; omega)).trans (by simp)
      have e2 : wr.cell? ⟨w.heap.size, 2, none⟩ = some (.int .i64 p.l) := (hB.cell (p := ⟨w.heap.size, 2, none⟩) (by show w.heap.size < _; omega)).trans (by simp)
      have f2 : wr.cell? ⟨w.heap.size + 1, 2, none⟩ = some (.int .i64 r.l) := (hB.cell (p := ⟨w.heap.size + 1, 2, none⟩) (by show w.heap.size + 1 < _; omega)).trans (by simp)
      have e3 : wr.cell? ⟨w.heap.size, 3, none⟩ = some (.slice p.x p.n p.c) := (hB.cell (p := ⟨w.heap.size, 3, none⟩) (by show w.heap.size < _; omega)).trans (by simp)
      have f3 : wr.cell? ⟨w.heap.size + 1, 3, none⟩ = some (.slice r.x r.n r.c) := (hB.cell (p := ⟨w.heap.size + 1, 3, none⟩) (by show w.heap.size + 1 < _; omega)).trans (by simp)
      have e9 : wr.cell? ⟨bb, 0, none⟩ = some (.func (.func 110) #[] #[]) := (hB.cell (p := ⟨bb, 0, none⟩) (by show bb < _; omega)).trans (cell_later (bl2 w _ _) hby)
      have g0 := Ws.here e0
      have k0 := Ws.here f0
      have g1 := Ws.here e1
      have k1 := Ws.here f1
      have g2 := Ws.here e2
      have k2 := Ws.here f2
      have g3 := Ws.here e3
      have k3 := Ws.here f3
      go_upto_region 4 with fail
      clear e0 f0 e1 f1 e2 f2 e3 f3 e9
      refine wp_region_ws wr.heap.size (by kernel_rfl) (by kernel_rfl) ?_
      repeat (go_big_quiet_step (first | (go_at_call 110; exact Calls.in_ws (Nat.le_refl _) (subId_any _ _)) | (go_at_call 80; exact Calls.in_ws_same (cmp_is _ _ _ hv _))))
      refine wpQuiet_nil ?_
      rintro _ ⟨u, rfl⟩
      have hu := hB.trans (u.property.mono hz)
      generalize u.val = wu at hu ⊢
      clear u g0 k0 g1 k1 g2 k2 g3 k3
      rcases hv with ⟨h, rfl⟩ | ⟨h, rfl⟩ | ⟨h, rfl⟩
      · go_wp2
        go_ret
        exact ⟨rfl, (bl2 w _ _).trans (hu.mono (by omega))⟩
      · go_wp2
        go_roundw
        case rel => exact ⟨1, .inr ⟨rfl, trivial⟩, by go_num, hu⟩
        case measure => simp [intOf]
      · go_wp2
        go_ret
        exact ⟨rfl, (bl2 w _ _).trans (hu.mono (by omega))⟩
    · subst hv0
      go_wp2
      go_ret
      exact ⟨rfl, (bl2 w _ _).trans (hB.mono (by omega))⟩
/-- These lie one behind the other from there on. -/
def RunS (w : World) (x : Option Addr) (n : Nat) (es : List Sb) : Prop := es.length = n ∧ (0 < n → x ≠ none) ∧ ∀ ad, x = some ad → ∀ j u, (flatS es)[j]? = some u → w.cell? (ad.add j) = some u
theorem RunS.later {w w' : World} {x : Option Addr} {n : Nat} {es : List Sb} (h : RunS w x n es) (hb : Below w.heap.size w w') : RunS w' x n es :=
  ⟨h.1, h.2.1, fun ad hx j u hj => cell_later_add hb (h.2.2 ad hx j u hj)⟩
theorem RunS.empty (w : World) (x : Option Addr) : RunS w x 0 [] := ⟨rfl, fun h => by omega, fun _ _ j u hj => by simp [flatS] at hj⟩
theorem SS.run {w : World} {x : Option Addr} {n : Nat} {es : List Sb} (h : SS w x n es) : RunS w x n es :=
  ⟨h.len, (fun h0 e => by obtain ⟨b, o, hx, -⟩ := h.cells 0 h0; rw [e] at hx; cases hx), fun ad hx => by subst hx; exact h.flat_cells⟩
theorem RunS.take {w : World} {x : Option Addr} {n i : Nat} {es : List Sb} (h : RunS w x n es) (hi : i ≤ n) : RunS w x i (es.take i) := by
  refine ⟨by rw [List.length_take, h.1]; omega, fun h0 => h.2.1 (by omega), fun ad hx j u hj => h.2.2 ad hx j u ?_⟩
  conv => lhs; rw [← List.take_append_drop i es]
  rw [flatS_app, List.getElem?_append_left (List.getElem?_eq_some_iff.1 hj).1]
  exact hj
theorem RunS.drop {w : World} {b o n i c : Nat} {es : List Sb} (h : RunS w (some ⟨b, o, none⟩) n es) (hi : i ≤ n) (hnc : n ≤ c) : RunS w (if c = i then some ⟨b, o, none⟩ else some ⟨b, o + i * 4, none⟩) (n - i) (es.drop i) := by
  refine ⟨by rw [List.length_drop, h.1], fun _ => by split <;> simp, fun ad hx j u hj => ?_⟩
  have hlt : i < n := by
    by_cases e : i < n
    · exact e
    · rw [List.drop_eq_nil_of_le (by rw [h.1]; omega)] at hj
      simp [flatS] at hj
  rw [if_neg (by omega)] at hx
  cases hx
  have h2 := h.2.2 _ rfl (i * 4 + j) u (by
    conv => lhs; rw [← List.take_append_drop i es]
    have hm : (flatS (es.take i)).length = i * 4 := by rw [flatS_len, List.length_take, h.1, show min i n = i by omega]
    rw [flatS_app, List.getElem?_append_right (by rw [hm]; omega), hm, show i * 4 + j - i * 4 = j by omega]
    exact hj)
  rw [addr_add] at h2 ⊢
  rw [show o + i * 4 + j = o + (i * 4 + j) by omega]
  exact h2

def catSTo (ql : Nat → List Sb) : Nat → List Sb
  | 0 => []
  | j + 1 => catSTo ql j ++ ql j

/-- What Put answers: it stands ahead of the first one whose number is greater. -/
def PutSPost (e : Sb) (n : Nat) (ps : List Sb) (w : World) (r : Ending) (w' : World) : Prop :=
  ∃ v, r = .returned v ∧ Below w.heap.size w w' ∧ ∃ i, i ≤ n ∧ (∀ j, j < i → ¬ e.id < (sbAt ps j).id) ∧ (i < n → e.id < (sbAt ps i).id) ∧ OwnS w' w.heap.size v (ps.take i ++ [e] ++ ps.drop i)

end Go.Proofs.YtlalgkjollgcbaaGreat
/- compare, Grow, Concat and Put at faces. -/
namespace Go.Proofs.YtlalgkjollgcbaaGreat
open Go.RowKit Go.Shelf

theorem faceId_any (p : Fc) (w : World) :
    Calls Tryz.prog 123 #[.agg #[.int .i64 p.id, .slice p.x p.n p.c]] w fun e w' => e = .returned (.int .i64 p.id) ∧ Below w.heap.size w w' := by
  go_enter Tryz.func123, Tryz.ntmps123
  go_wp2
  go_ret
  exact ⟨rfl, bl1 _ _⟩
theorem call_faceId (args : Array Value) (W : World) : (callFunc 123 args).run Tryz.prog W = .ok (.enter 123 args) W := by simp [go_sem]

set_option maxRecDepth 100000 in
set_option maxHeartbeats 1600000 in
theorem compareF_is (p r : Fc) (v : Int) (hv : Cmp p.id r.id v) (bb kk : Nat) (w : World) (hby : w.cell? ⟨bb, 0, none⟩ = some (.func (.func 123) #[] #[])) :
    Calls Tryz.prog 135 #[.agg #[.int .i64 p.id, .slice p.x p.n p.c], .agg #[.int .i64 r.id, .slice r.x r.n r.c], .slice (some ⟨bb, 0, none⟩) 1 kk] w fun e w' => e = .returned (.int .i64 v) ∧ Below w.heap.size w w' := by
  have hcall := call_faceId
  go_enter Tryz.func135, Tryz.ntmps135
  go_wp2
  go_loopw [12] (fun i wr => ∃ j : Nat, (j = 0 ∨ (j = 1 ∧ v = 0)) ∧ i = .int .i64 j ∧ Below (w.heap.size + 1 + 1) ((w.alloc (.cells #[.int .i64 p.id, .slice p.x p.n p.c] 99)).alloc (.cells #[.int .i64 r.id, .slice r.x r.n r.c] 99)) wr) (fun i _ => 1 - (intOf i).toNat)
  case atStart => exact ⟨0, .inl rfl, rfl, Below.refl _ _⟩
  case round =>
    obtain ⟨j, hj, rfl, hB⟩ := hrel
    rcases hj with rfl | ⟨rfl, hv0⟩
    · have hz := hB.size
      simp only [World.size_alloc] at hz
      have hbl : bb < w.heap.size := block_lt_of_cell hby
      have e0 : wr.cell? ⟨w.heap.size, 0, none⟩ = some (.int .i64 p.id) := (hB.cell (p := ⟨w.heap.size, 0, none⟩) (by show w.heap.size < _; omega)).trans (by simp)
      have f0 : wr.cell? ⟨w.heap.size + 1, 0, none⟩ = some (.int .i64 r.id) := (hB.cell (p := ⟨w.heap.size + 1, 0, none⟩) (by show w.heap.size + 1 < _; omega)).trans (by simp)
      have e1 : wr.cell? ⟨w.heap.size, 1, none⟩ = some (.slice p.x p.n p.c) := (hB.cell (p := ⟨w.heap.size, 1, none⟩) (by show w.heap.size < _; omega)).trans (by simp)
      have f1 : wr.cell? ⟨w.heap.size + 1, 1, none⟩ = some (.slice r.x r.n r.c) := (hB.cell (p := ⟨w.heap.size + 1, 1, none⟩) (by show w.heap.size + 1 < _; omega)).trans (by simp)
      have e9 : wr.cell? ⟨bb, 0, none⟩ = some (.func (.func 123) #[] #[]) := (hB.cell (p := ⟨bb, 0, none⟩) (by show bb < _; omega)).trans (cell_later (bl2 w _ _) hby)
      have g0 := Ws.here e0
      have k0 := Ws.here f0
      have g1 := Ws.here e1
      have k1 := Ws.here f1
      go_upto_region 4 with fail
      clear e0 f0 e1 f1 e9
      refine wp_region_ws wr.heap.size (by kernel_rfl) (by kernel_rfl) ?_
      repeat (go_big_quiet_step (first | (go_at_call 123; exact Calls.in_ws (Nat.le_refl _) (faceId_any _ _)) | (go_at_call 80; exact Calls.in_ws_same (cmp_is _ _ _ hv _))))
      refine wpQuiet_nil ?_
      rintro _ ⟨u, rfl⟩
      have hu := hB.trans (u.property.mono hz)
      generalize u.val = wu at hu ⊢
      clear u g0 k0 g1 k1
      rcases hv with ⟨h, rfl⟩ | ⟨h, rfl⟩ | ⟨h, rfl⟩
      · go_wp2
        go_ret
        exact ⟨rfl, (bl2 w _ _).trans (hu.mono (by omega))⟩
      · go_wp2
        go_roundw
        case rel => exact ⟨1, .inr ⟨rfl, trivial⟩, by go_num, hu⟩
        case measure => simp [intOf]
      · go_wp2
        go_ret
        exact ⟨rfl, (bl2 w _ _).trans (hu.mono (by omega))⟩
    · subst hv0
      go_wp2
      go_ret
      exact ⟨rfl, (bl2 w _ _).trans (hB.mono (by omega))⟩
/-- These lie one behind the other from there on. -/
def RunF (w : World) (x : Option Addr) (n : Nat) (es : List Fc) : Prop := es.length = n ∧ (0 < n → x ≠ none) ∧ ∀ ad, x = some ad → ∀ j u, (flatF es)[j]? = some u → w.cell? (ad.add j) = some u
theorem RunF.later {w w' : World} {x : Option Addr} {n : Nat} {es : List Fc} (h : RunF w x n es) (hb : Below w.heap.size w w') : RunF w' x n es :=
  ⟨h.1, h.2.1, fun ad hx j u hj => cell_later_add hb (h.2.2 ad hx j u hj)⟩
theorem RunF.empty (w : World) (x : Option Addr) : RunF w x 0 [] := ⟨rfl, fun h => by omega, fun _ _ j u hj => by simp [flatF] at hj⟩
theorem FcS.run {w : World} {x : Option Addr} {n : Nat} {es : List Fc} (h : FcS w x n es) : RunF w x n es :=
  ⟨h.len, (fun h0 e => by obtain ⟨b, o, hx, -⟩ := h.cells 0 h0; rw [e] at hx; cases hx), fun ad hx => by subst hx; exact h.flat_cells⟩
theorem RunF.take {w : World} {x : Option Addr} {n i : Nat} {es : List Fc} (h : RunF w x n es) (hi : i ≤ n) : RunF w x i (es.take i) := by
  refine ⟨by rw [List.length_take, h.1]; omega, fun h0 => h.2.1 (by omega), fun ad hx j u hj => h.2.2 ad hx j u ?_⟩
  conv => lhs; rw [← List.take_append_drop i es]
  rw [flatF_app, List.getElem?_append_left (List.getElem?_eq_some_iff.1 hj).1]
  exact hj
theorem RunF.drop {w : World} {b o n i c : Nat} {es : List Fc} (h : RunF w (some ⟨b, o, none⟩) n es) (hi : i ≤ n) (hnc : n ≤ c) : RunF w (if c = i then some ⟨b, o, none⟩ else some ⟨b, o + i * 2, none⟩) (n - i) (es.drop i) := by
  refine ⟨by rw [List.length_drop, h.1], fun _ => by split <;> simp, fun ad hx j u hj => ?_⟩
  have hlt : i < n := by
    by_cases e : i < n
    · exact e
    · rw [List.drop_eq_nil_of_le (by rw [h.1]; omega)] at hj
      simp [flatF] at hj
  rw [if_neg (by omega)] at hx
  cases hx
  have h2 := h.2.2 _ rfl (i * 2 + j) u (by
    conv => lhs; rw [← List.take_append_drop i es]
    have hm : (flatF (es.take i)).length = i * 2 := by rw [flatF_len, List.length_take, h.1, show min i n = i by omega]
    rw [flatF_app, List.getElem?_append_right (by rw [hm]; omega), hm, show i * 2 + j - i * 2 = j by omega]
    exact hj)
  rw [addr_add] at h2 ⊢
  rw [show o + i * 2 + j = o + (i * 2 + j) by omega]
  exact h2

def catFTo (ql : Nat → List Fc) : Nat → List Fc
  | 0 => []
  | j + 1 => catFTo ql j ++ ql j

/-- What Put answers: it stands ahead of the first one whose number is greater. -/
def PutFPost (e : Fc) (n : Nat) (ps : List Fc) (w : World) (r : Ending) (w' : World) : Prop :=
  ∃ v, r = .returned v ∧ Below w.heap.size w w' ∧ ∃ i, i ≤ n ∧ (∀ j, j < i → ¬ e.id < (fcAt ps j).id) ∧ (i < n → e.id < (fcAt ps i).id) ∧ OwnF w' w.heap.size v (ps.take i ++ [e] ++ ps.drop i)

end Go.Proofs.YtlalgkjollgcbaaGreat
