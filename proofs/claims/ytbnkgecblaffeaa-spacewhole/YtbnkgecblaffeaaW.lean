/- What package order comes to at prefixes that rise by their first address: compare, Rise. -/
import Derived.Test.YtbnkgecblaffeaaS
import Derived.Laws.EntriesVeiled
namespace Go.Proofs.Ytbnkgecblaffeaa
open Go.RowKit

set_option maxHeartbeats 400000 in
theorem start_any (a l : Int) (w : World) :
    Calls Try.prog 40 #[.agg #[.int .i64 a, .int .i64 l]] w fun e w' => e = .returned (.int .i64 a) ∧ Below w.heap.size w w' := by
  go_enter Try.func40, Try.ntmps40
  go_wp2
  go_ret
  exact ⟨rfl, bl1 _ _⟩
theorem call_start (args : Array Value) (W : World) : (callFunc 40 args).run Try.prog W = .ok (.enter 40 args) W := by simp [go_sem]

set_option maxHeartbeats 400000 in
theorem isNaN_any (a : Int) (w : World) :
    Calls Try.prog 60 #[.int .i64 a] w fun e w' => e = .returned (.bool false) ∧ w' = w := by
  have h : (a != a) = false := by simp
  go_enter Try.func60, Try.ntmps60
  go_wp2
  go_ret
  exact ⟨rfl, rfl⟩

/-- What comparing two numbers tells. -/
def Cmp (a c v : Int) : Prop := (a < c ∧ v = -1) ∨ (a = c ∧ v = 0) ∨ (c < a ∧ v = 1)

set_option maxRecDepth 20000 in
set_option maxHeartbeats 800000 in
theorem cmp_is (a c v : Int) (hv : Cmp a c v) (w : World) :
    Calls Try.prog 59 #[.int .i64 a, .int .i64 c] w fun e w' => e = .returned (.int .i64 v) ∧ w' = w := by
  rcases hv with ⟨h, rfl⟩ | ⟨h, rfl⟩ | ⟨h, rfl⟩
  · go_enter Try.func59, Try.ntmps59
    go_wp2_with (go_at_call 60; refine (isNaN_any _ _).mono ?_; rintro e w1 ⟨rfl, rfl⟩)
    go_ret
    exact ⟨rfl, rfl⟩
  · subst h
    have h1 : ¬ a < a := by omega
    go_enter Try.func59, Try.ntmps59
    go_wp2_with (go_at_call 60; refine (isNaN_any _ _).mono ?_; rintro e w1 ⟨rfl, rfl⟩)
    go_ret
    exact ⟨rfl, rfl⟩
  · have h1 : ¬ a < c := by omega
    go_enter Try.func59, Try.ntmps59
    go_wp2_with (go_at_call 60; refine (isNaN_any _ _).mono ?_; rintro e w1 ⟨rfl, rfl⟩)
    go_ret
    exact ⟨rfl, rfl⟩

set_option maxRecDepth 20000 in
set_option maxHeartbeats 800000 in
theorem compare_is (a l c m v : Int) (hv : Cmp a c v) (bb k : Nat) (w : World) (hby : w.cell? ⟨bb, 0, none⟩ = some (.func (.func 40) #[] #[])) :
    Calls Try.prog 57 #[.agg #[.int .i64 a, .int .i64 l], .agg #[.int .i64 c, .int .i64 m], .slice (some ⟨bb, 0, none⟩) 1 k] w fun e w' => e = .returned (.int .i64 v) ∧ Below w.heap.size w w' := by
  have hcall := call_start
  go_enter Try.func57, Try.ntmps57
  go_wp2
  go_loopw [12] (fun i wr => ∃ j : Nat, (j = 0 ∨ (j = 1 ∧ v = 0)) ∧ i = .int .i64 j ∧ Below (w.heap.size + 1 + 1) ((w.alloc (.cells #[.int .i64 a, .int .i64 l] 23)).alloc (.cells #[.int .i64 c, .int .i64 m] 23)) wr) (fun i _ => 1 - (intOf i).toNat)
  case atStart => exact ⟨0, .inl rfl, rfl, Below.refl _ _⟩
  case round =>
    obtain ⟨j, hj, rfl, hB⟩ := hrel
    rcases hj with rfl | ⟨rfl, hv0⟩
    · have hz := hB.size
      simp only [World.size_alloc] at hz
      have hbl : bb < w.heap.size := block_lt_of_cell hby
      have e0 : wr.cell? ⟨w.heap.size, 0, none⟩ = some (.int .i64 a) := (hB.cell (p := ⟨w.heap.size, 0, none⟩) (by show w.heap.size < _; omega)).trans (by simp)
      have e1 : wr.cell? ⟨w.heap.size, 1, none⟩ = some (.int .i64 l) := (hB.cell (p := ⟨w.heap.size, 1, none⟩) (by show w.heap.size < _; omega)).trans (by simp)
      have e2 : wr.cell? ⟨w.heap.size + 1, 0, none⟩ = some (.int .i64 c) := (hB.cell (p := ⟨w.heap.size + 1, 0, none⟩) (by show w.heap.size + 1 < _; omega)).trans (by simp)
      have e3 : wr.cell? ⟨w.heap.size + 1, 1, none⟩ = some (.int .i64 m) := (hB.cell (p := ⟨w.heap.size + 1, 1, none⟩) (by show w.heap.size + 1 < _; omega)).trans (by simp)
      have e4 : wr.cell? ⟨bb, 0, none⟩ = some (.func (.func 40) #[] #[]) := (hB.cell (p := ⟨bb, 0, none⟩) (by show bb < _; omega)).trans (cell_later (bl2 w _ _) hby)
      have g0 := Ws.here e0
      have g1 := Ws.here e1
      have g2 := Ws.here e2
      have g3 := Ws.here e3
      go_upto_region 4 with fail
      clear e0 e1 e2 e3 e4
      refine wp_region_ws wr.heap.size (by kernel_rfl) (by kernel_rfl) ?_
      repeat (go_big_quiet_step (first | (go_at_call 40; exact Calls.in_ws (Nat.le_refl _) (start_any _ _ _)) | (go_at_call 59; exact Calls.in_ws_same (cmp_is _ _ _ hv _))))
      refine wpQuiet_nil ?_
      rintro _ ⟨u, rfl⟩
      have hu := hB.trans (u.property.mono hz)
      generalize u.val = wu at hu ⊢
      clear u g0 g1 g2 g3
      rcases hv with ⟨h, rfl⟩ | ⟨h, rfl⟩ | ⟨h, rfl⟩
      · go_wp2
        go_ret
        exact ⟨rfl, (bl2 w _ _).trans (hu.mono (by omega))⟩
      · go_wp2
        go_roundw
        case rel => exact ⟨1, .inr ⟨rfl, trivial⟩, by go_num, hu⟩
        case measure => simp [intOf]
      · go_wp2
        go_ret
        exact ⟨rfl, (bl2 w _ _).trans (hu.mono (by omega))⟩
    · subst hv0
      go_wp2
      go_ret
      exact ⟨rfl, (bl2 w _ _).trans (hB.mono (by omega))⟩

/-- The first addresses rise. -/
def riseAt (ps : List (Int × Int)) (i : Nat) : Bool := i == 0 || decide (at0 ps (i - 1) < at0 ps i)
def riseB (ps : List (Int × Int)) : Bool := (List.range ps.length).all (riseAt ps)
theorem rise_no {ps : List (Int × Int)} {k : Nat} (hk : k < ps.length) (h : riseAt ps k = false) : riseB ps = false := by
  unfold riseB
  rw [List.all_eq_false]
  exact ⟨k, by simpa using hk, by simp [h]⟩
theorem rise_yes {ps : List (Int × Int)} (h : ∀ j, j < ps.length → riseAt ps j = true) : riseB ps = true := by
  unfold riseB
  rw [List.all_eq_true]
  intro j hj
  exact h j (by simpa using hj)

set_option maxRecDepth 20000 in
set_option maxHeartbeats 800000 in
theorem rise_any (x : Option Addr) (n c : Nat) (ps : List (Int × Int)) (bb k : Nat) (w : World) (hp : PS w x n ps) (hn : n ≤ 64) (hby : w.cell? ⟨bb, 0, none⟩ = some (.func (.func 40) #[] #[])) :
    Calls Try.prog 53 #[.slice x n c, .slice (some ⟨bb, 0, none⟩) 1 k] w fun e w' => e = .returned (.bool (riseB ps)) ∧ Below w.heap.size w w' := by
  go_enter Try.func53, Try.ntmps53
  go_wp2
  go_loopw [5] (fun i wr => ∃ j : Nat, 1 ≤ j ∧ j ≤ n + 1 ∧ i = .int .i64 j ∧ Below w.heap.size w wr ∧ (∀ i, i < j → i < n → riseAt ps i = true)) (fun i _ => n + 1 - (intOf i).toNat)
  case atStart => exact ⟨1, by omega, by omega, rfl, Below.refl _ _, fun i hi _ => by
    obtain rfl : i = 0 := by omega
    rfl⟩
  case round =>
    obtain ⟨j, hj1, hjn, rfl, hB, hok⟩ := hrel
    have hz := hB.size
    have hpl := hp.len
    by_cases hlt : j < n
    · obtain ⟨i, rfl⟩ : ∃ i, j = i + 1 := ⟨j - 1, by omega⟩
      have hp2 := hp.later hB
      obtain ⟨b, o, rfl, c0, c1⟩ := hp2.cells i (by omega)
      obtain ⟨b2, o2, hbo, c2, c3⟩ := hp2.cells (i + 1) (by omega)
      simp only [Option.some.injEq, Addr.mk.injEq, and_true] at hbo
      obtain ⟨rfl, rfl⟩ := hbo
      have hby' := cell_later hB hby
      have hlt' := hlt
      have g0 := Ws.here c0
      have g1 := Ws.here c1
      have g2 := Ws.here c2
      have g3 := Ws.here c3
      have g4 := Ws.here hby'
      have hv : ∃ v, Cmp (at0 ps i) (at0 ps (i + 1)) v ∧ (decide (at0 ps i < at0 ps (i + 1)) = !(decide (0 ≤ v))) := by
        rcases Int.lt_trichotomy (at0 ps i) (at0 ps (i + 1)) with h | h | h
        · exact ⟨-1, .inl ⟨h, rfl⟩, by simp [h]⟩
        · exact ⟨0, .inr (.inl ⟨h, rfl⟩), by simp [h]⟩
        · exact ⟨1, .inr (.inr ⟨h, rfl⟩), by simp; omega⟩
      obtain ⟨v, hv, hd⟩ := hv
      go_upto_region 4 with fail
      clear c0 c1 c2 c3
      refine wp_region_ws wr.heap.size (by kernel_rfl) (by kernel_rfl) ?_
      cases hg : decide (0 ≤ v)
      all_goals rw [hg] at hd
      all_goals have hge : decide (v ≥ 0) = _ := hg
      all_goals repeat (go_big_quiet_step ((go_at_call 57; exact Calls.in_ws (Nat.le_refl _) (compare_is _ _ _ _ _ hv _ _ _ (g4 _)))))
      all_goals refine wpQuiet_nil ?_
      all_goals rintro _ ⟨u, rfl⟩
      all_goals have hu := hB.trans (u.property.mono hz)
      all_goals generalize u.val = wu at hu ⊢
      all_goals clear u g0 g1 g2 g3 g4
      all_goals go_wp2
      · go_roundw
        case rel => exact ⟨i + 1 + 1, by omega, by omega, by go_num, hu, fun q hq hqn => by
          by_cases hq2 : q < i + 1
          · exact hok q hq2 hqn
          · obtain rfl : q = i + 1 := by omega
            simp only [riseAt, Nat.add_sub_cancel, hd]
            simp⟩
        case measure => simp [intOf]; omega
      · go_ret
        exact ⟨ret_bool (rise_no (k := i + 1) (by omega) (by simp only [riseAt, Nat.add_sub_cancel, hd]; simp)).symm, hu⟩
    · go_wp2
      go_ret
      exact ⟨ret_bool (rise_yes (fun i hi => hok i (by omega) (by omega))).symm, hB⟩
end Go.Proofs.Ytbnkgecblaffeaa
