/- What CheckSpace of package parcelwayref comes to. -/
import Derived.Test.YtbnkgecblaffeaaS
namespace Go.Proofs.Ytbnkgecblaffeaa
open Go.RowKit

theorem insideOf_is (a l c m : Int) (t : Bool) (h : ins a l c m = t) (w : World) :
    Calls Try.prog 29 #[.agg #[.int .i64 a, .int .i64 l], .agg #[.int .i64 c, .int .i64 m]] w fun e w' => e = .returned (.bool t) ∧ Below w.heap.size w w' := by
  subst h
  exact insideOf_any a l c m w
theorem meet_is (a l c m : Int) (t : Bool) (h : mts a l c m = t) (w : World) :
    Calls Try.prog 30 #[.agg #[.int .i64 a, .int .i64 l], .agg #[.int .i64 c, .int .i64 m]] w fun e w' => e = .returned (.bool t) ∧ Below w.heap.size w w' := by
  subst h
  exact meet_any a l c m w
theorem right_is (a l : Int) (t : Bool) (h : rt a l = t) (w : World) :
    Calls Try.prog 28 #[.agg #[.int .i64 a, .int .i64 l]] w fun e w' => e = .returned (.bool t) ∧ Below w.heap.size w w' := by
  subst h
  exact right_any a l w

set_option maxRecDepth 20000 in
set_option maxHeartbeats 800000 in
theorem checkR_many (a l : Int) (x : Option Addr) (n c : Nat) (w : World) (hn : 32 < n) :
    Calls Try.prog 9 #[.agg #[.int .i64 a, .int .i64 l, .slice x n c]] w fun e w' => e = .returned (.int .i64 2) ∧ Below w.heap.size w w' := by
  have hi : (32 : Int) < (n : Int) := by omega
  go_enter Try.func9, Try.ntmps9
  go_wp2
  go_ret
  exact ⟨rfl, bl1 _ _⟩

set_option maxRecDepth 20000 in
set_option maxHeartbeats 800000 in
theorem checkR_bad (a l : Int) (x : Option Addr) (n c : Nat) (w : World) (hn : n ≤ 32) (hr : rt a l = false) :
    Calls Try.prog 9 #[.agg #[.int .i64 a, .int .i64 l, .slice x n c]] w fun e w' => e = .returned (.int .i64 1) ∧ Below w.heap.size w w' := by
  have hi : ¬ (32 : Int) < (n : Int) := by omega
  go_enter Try.func9, Try.ntmps9
  go_wp2_with (go_at_call 28; refine (right_is a l _ hr _).mono ?_; rintro e w1 ⟨rfl, hb1⟩)
  go_ret
  exact ⟨rfl, (bl1 w _).trans (hb1.mono (by simp))⟩

set_option maxRecDepth 20000 in
set_option maxHeartbeats 1600000 in
theorem checkR_few (a l : Int) (x : Option Addr) (n c : Nat) (ps : List (Int × Int)) (w : World) (hp : PS w x n ps) (hn : n ≤ 32) (hr : rt a l = true) :
    Calls Try.prog 9 #[.agg #[.int .i64 a, .int .i64 l, .slice x n c]] w fun e w' => e = .returned (.int .i64 (if apartB a l ps then 0 else 1)) ∧ Below w.heap.size w w' := by
  have hi : ¬ (32 : Int) < (n : Int) := by omega
  generalize hR : (if apartB a l ps then (0 : Int) else 1) = R
  have HR : Hid ((if apartB a l ps then (0 : Int) else 1) = R) := hR
  clear hR
  go_enter Try.func9, Try.ntmps9
  go_wp2_with fail
  refine (right_is a l _ hr _).mono ?_
  rintro e w1 ⟨rfl, hb1⟩
  have hW : Below (w.heap.size + 1) (w.alloc (.cells #[.int .i64 a, .int .i64 l, .slice x n c] 26)) w1 := hb1.mono (by simp)
  clear hb1
  go_wp2
  go_loopw [3] (fun i wr => ∃ k : Nat, k ≤ n ∧ i = .int .i64 k ∧ Below (w.heap.size + 1) (w.alloc (.cells #[.int .i64 a, .int .i64 l, .slice x n c] 26)) wr ∧ (∀ j, j < k → okAt a l ps j = true)) (fun i _ => n - (intOf i).toNat)
  case atStart => exact ⟨0, by omega, rfl, hW, fun j hj => by omega⟩
  case round =>
    obtain ⟨k, hk, rfl, hB, hok⟩ := hrel
    have hpl := hp.len
    have e0 : wr.cell? ⟨w.heap.size, 0, none⟩ = some (.int .i64 a) := (hB.cell (p := ⟨w.heap.size, 0, none⟩) (by show w.heap.size < _; omega)).trans (by simp)
    have e1 : wr.cell? ⟨w.heap.size, 1, none⟩ = some (.int .i64 l) := (hB.cell (p := ⟨w.heap.size, 1, none⟩) (by show w.heap.size < _; omega)).trans (by simp)
    have e2 : wr.cell? ⟨w.heap.size, 2, none⟩ = some (.slice x n c) := (hB.cell (p := ⟨w.heap.size, 2, none⟩) (by show w.heap.size < _; omega)).trans (by simp)
    by_cases hlt : k < n
    · have hp2 := (hp.later (bl1 w (.cells #[.int .i64 a, .int .i64 l, .slice x n c] 26)))
      obtain ⟨b, o, rfl, c0, c1⟩ := hp2.cells k hlt
      have hbl := block_lt_of_cell c0
      simp only [World.size_alloc] at hbl
      have d0 : wr.cell? ⟨b, o + k * 2, none⟩ = some (.int .i64 (at0 ps k)) := (hB.cell (p := ⟨b, o + k * 2, none⟩) hbl).trans c0
      have d1 : wr.cell? ⟨b, o + k * 2 + 1, none⟩ = some (.int .i64 (at1 ps k)) := (hB.cell (p := ⟨b, o + k * 2 + 1, none⟩) hbl).trans c1
      have hz := hB.size
      simp only [World.size_alloc] at hz
      have g0 := Ws.here e0
      have g1 := Ws.here e1
      have g2 := Ws.here e2
      have g3 := Ws.here d0
      have g4 := Ws.here d1
      go_upto_region 8 with fail
      clear e0 e1 e2 d0 d1 c0 c1
      cases hI : ins (at0 ps k) (at1 ps k) a l
      · refine wp_region_ws wr.heap.size (by kernel_rfl) (by kernel_rfl) ?_
        repeat (go_big_quiet_step ((go_at_call 29; exact Calls.in_ws (Nat.le_refl _) (insideOf_is _ _ _ _ _ hI _))))
        refine wpQuiet_nil ?_
        rintro _ ⟨u, rfl⟩
        have hu := hB.trans (u.property.mono hz)
        generalize u.val = wu at hu ⊢
        clear u
        go_wp2
        go_ret
        exact ⟨ret_int (by rw [← HR.out, apart_no (by omega) (ok_no1 hI)]; rfl), (bl1 w _).trans (hu.mono (by omega))⟩
      · cases k with
        | zero =>
          simp only [Nat.zero_mul, Nat.add_zero] at g3 g4
          refine wp_region_ws wr.heap.size (by kernel_rfl) (by kernel_rfl) ?_
          repeat (go_big_quiet_step ((go_at_call 29; exact Calls.in_ws (Nat.le_refl _) (insideOf_is _ _ _ _ _ hI _))))
          refine wpQuiet_nil ?_
          rintro _ ⟨u, rfl⟩
          have hu := hB.trans (u.property.mono hz)
          generalize u.val = wu at hu ⊢
          clear u
          go_wp2
          go_roundw
          case rel => exact ⟨1, hlt, by go_num, hu, fun j hj => by
            obtain rfl : j = 0 := Nat.lt_one_iff.1 hj
            exact ok_0 hI⟩
          case measure => simp [intOf]; omega
        | succ k' =>
          obtain ⟨b2, o2, hbo, c2, c3⟩ := hp2.cells k' (by omega)
          simp only [Option.some.injEq, Addr.mk.injEq, and_true] at hbo
          obtain ⟨rfl, rfl⟩ := hbo
          have t0 : wr.cell? ⟨b, o + k' * 2, none⟩ = some (.int .i64 (at0 ps k')) := (hB.cell (p := ⟨b, o + k' * 2, none⟩) hbl).trans c2
          have t1 : wr.cell? ⟨b, o + k' * 2 + 1, none⟩ = some (.int .i64 (at1 ps k')) := (hB.cell (p := ⟨b, o + k' * 2 + 1, none⟩) hbl).trans c3
          have g5 := Ws.here t0
          have g6 := Ws.here t1
          clear c2 c3 t0 t1
          refine wp_region_ws wr.heap.size (by kernel_rfl) (by kernel_rfl) ?_
          by_cases hle : at0 ps (k' + 1) ≤ at0 ps k'
          · repeat (go_big_quiet_step ((go_at_call 29; exact Calls.in_ws (Nat.le_refl _) (insideOf_is _ _ _ _ _ hI _))))
            refine wpQuiet_nil ?_
            rintro _ ⟨u, rfl⟩
            have hu := hB.trans (u.property.mono hz)
            generalize u.val = wu at hu ⊢
            clear u
            go_wp2
            go_ret
            exact ⟨ret_int (by rw [← HR.out, apart_no (by omega) (ok_no2 hle)]; rfl), (bl1 w _).trans (hu.mono (by omega))⟩
          · have hd : decide (at0 ps (k' + 1) ≤ at0 ps k') = false := by simpa using hle
            cases hM : mts (at0 ps k') (at1 ps k') (at0 ps (k' + 1)) (at1 ps (k' + 1))
            all_goals repeat (go_big_quiet_step (first | (go_at_call 29; exact Calls.in_ws (Nat.le_refl _) (insideOf_is _ _ _ _ _ hI _)) | (go_at_call 30; exact Calls.in_ws (Nat.le_refl _) (meet_is _ _ _ _ _ hM _))))
            all_goals refine wpQuiet_nil ?_
            all_goals rintro _ ⟨u, rfl⟩
            all_goals have hu := hB.trans (u.property.mono hz)
            all_goals generalize u.val = wu at hu ⊢
            all_goals clear u
            all_goals go_wp2
            · go_roundw
              case rel => exact ⟨k' + 1 + 1, hlt, by go_num, hu, fun j hj => by
                by_cases hj2 : j < k' + 1
                · exact hok j hj2
                · obtain rfl : j = k' + 1 := by omega
                  exact ok_s hI hle hM⟩
              case measure => simp [intOf]; omega
            · go_ret
              exact ⟨ret_int (by rw [← HR.out, apart_no (by omega) (ok_no3 hM)]; rfl), (bl1 w _).trans (hu.mono (by omega))⟩
    · go_wp2
      go_ret
      exact ⟨ret_int (by rw [← HR.out, apart_yes (fun j hj => hok j (by omega))]; rfl), (bl1 w _).trans (hB.mono (by omega))⟩

theorem checkR_any (a l : Int) (x : Option Addr) (n c : Nat) (ps : List (Int × Int)) (w : World) (hp : n ≤ 32 → PS w x n ps) :
    Calls Try.prog 9 #[.agg #[.int .i64 a, .int .i64 l, .slice x n c]] w fun e w' => e = .returned (.int .i64 (chkS a l n ps)) ∧ Below w.heap.size w w' := by
  unfold chkS
  by_cases h : 32 < n
  · rw [if_pos h]
    exact checkR_many a l x n c w h
  · rw [if_neg h]
    cases hr : rt a l
    · exact checkR_bad a l x n c w (by omega) hr
    · exact checkR_few a l x n c ps w (hp (by omega)) (by omega) hr
end Go.Proofs.Ytbnkgecblaffeaa
