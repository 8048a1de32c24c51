/- What apart of package space comes to. -/
import Derived.Test.YtbnkgecblaffeaaW
namespace Go.Proofs.Ytbnkgecblaffeaa
open Go.RowKit

theorem ok_split {a l : Int} {ps : List (Int × Int)} : apartB a l ps = ((List.range ps.length).all (fun i => ins (at0 ps i) (at1 ps i) a l && (i == 0 || !mts (at0 ps (i - 1)) (at1 ps (i - 1)) (at0 ps i) (at1 ps i))) && riseB ps) := by
  rw [Bool.eq_iff_iff]
  unfold apartB riseB
  simp only [Bool.and_eq_true, List.all_eq_true, List.mem_range, okAt, riseAt, Bool.or_eq_true, beq_iff_eq]
  constructor
  · intro h
    exact ⟨fun i hi => ⟨(h i hi).1, (h i hi).2.imp id (·.2)⟩, fun i hi => (h i hi).2.imp id (·.1)⟩
  · rintro ⟨h, g⟩ i hi
    refine ⟨(h i hi).1, ?_⟩
    rcases (h i hi).2 with h1 | h1
    · exact .inl h1
    · rcases g i hi with g1 | g1
      · exact .inl g1
      · exact .inr ⟨g1, h1⟩
def nearAt (a l : Int) (ps : List (Int × Int)) (i : Nat) : Bool := ins (at0 ps i) (at1 ps i) a l && (i == 0 || !mts (at0 ps (i - 1)) (at1 ps (i - 1)) (at0 ps i) (at1 ps i))
theorem near_no {a l : Int} {ps : List (Int × Int)} {k : Nat} (hk : k < ps.length) (h : nearAt a l ps k = false) : apartB a l ps = false := by
  rw [ok_split, Bool.and_eq_false_iff]
  left
  rw [List.all_eq_false]
  exact ⟨k, by simpa using hk, by unfold nearAt at h; simp only [h]; simp⟩
theorem near_yes {a l : Int} {ps : List (Int × Int)} (h : ∀ j, j < ps.length → nearAt a l ps j = true) : apartB a l ps = riseB ps := by
  rw [ok_split]
  have : (List.range ps.length).all (fun i => ins (at0 ps i) (at1 ps i) a l && (i == 0 || !mts (at0 ps (i - 1)) (at1 ps (i - 1)) (at0 ps i) (at1 ps i))) = true := by
    rw [List.all_eq_true]
    intro j hj
    exact h j (by simpa using hj)
  rw [this, Bool.true_and]

set_option maxRecDepth 20000 in
set_option maxHeartbeats 800000 in
theorem apart_any (a l : Int) (x : Option Addr) (n c : Nat) (ps : List (Int × Int)) (w : World) (hp : PS w x n ps) (hn : n ≤ 32) :
    Calls Try.prog 37 #[.agg #[.int .i64 a, .int .i64 l, .slice x n c]] w fun e w' => e = .returned (.bool (apartB a l ps)) ∧ Below w.heap.size w w' := by
  go_enter Try.func37, Try.ntmps37
  go_wp2
  go_loopw [8] (fun i wr => ∃ k : Nat, k ≤ n ∧ i = .int .i64 k ∧ Below (w.heap.size + 1) (w.alloc (.cells #[.int .i64 a, .int .i64 l, .slice x n c] 26)) wr ∧ (∀ j, j < k → nearAt a l ps j = true)) (fun i _ => n - (intOf i).toNat)
  case atStart => exact ⟨0, by omega, rfl, Below.refl _ _, fun j hj => by omega⟩
  case round =>
    obtain ⟨k, hk, rfl, hB, hok⟩ := hrel
    have hpl := hp.len
    have hz := hB.size
    simp only [World.size_alloc] at hz
    by_cases hlt : k < n
    · have hp2 := (hp.later (bl1 w (.cells #[.int .i64 a, .int .i64 l, .slice x n c] 26)))
      obtain ⟨b, o, rfl, c0, c1⟩ := hp2.cells k hlt
      have hbl := block_lt_of_cell c0
      simp only [World.size_alloc] at hbl
      have d0 : wr.cell? ⟨b, o + k * 2, none⟩ = some (.int .i64 (at0 ps k)) := (hB.cell (p := ⟨b, o + k * 2, none⟩) hbl).trans c0
      have d1 : wr.cell? ⟨b, o + k * 2 + 1, none⟩ = some (.int .i64 (at1 ps k)) := (hB.cell (p := ⟨b, o + k * 2 + 1, none⟩) hbl).trans c1
      have e0 : wr.cell? ⟨w.heap.size, 0, none⟩ = some (.int .i64 a) := (hB.cell (p := ⟨w.heap.size, 0, none⟩) (by show w.heap.size < _; omega)).trans (by simp)
      have e1 : wr.cell? ⟨w.heap.size, 1, none⟩ = some (.int .i64 l) := (hB.cell (p := ⟨w.heap.size, 1, none⟩) (by show w.heap.size < _; omega)).trans (by simp)
      have e2 : wr.cell? ⟨w.heap.size, 2, none⟩ = some (.slice (some ⟨b, o, none⟩) n c) := (hB.cell (p := ⟨w.heap.size, 2, none⟩) (by show w.heap.size < _; omega)).trans (by simp)
      have hW : Below (w.heap.size + 1) (w.alloc (.cells #[.int .i64 a, .int .i64 l, .slice (some ⟨b, o, none⟩) n c] 26)) (wr.alloc (.cells #[.int .i64 (at0 ps k), .int .i64 (at1 ps k)] 23)) := hB.trans ((bl1 wr _).mono hz)
      have g0 : ∀ u : Ws (wr.heap.size + 1) (wr.alloc (.cells #[.int .i64 (at0 ps k), .int .i64 (at1 ps k)] 23)), u.val.cell? ⟨w.heap.size, 0, none⟩ = some (.int .i64 a) := Ws.cell (by omega) (cell_later (bl1 wr _) e0)
      have g1 : ∀ u : Ws (wr.heap.size + 1) (wr.alloc (.cells #[.int .i64 (at0 ps k), .int .i64 (at1 ps k)] 23)), u.val.cell? ⟨w.heap.size, 1, none⟩ = some (.int .i64 l) := Ws.cell (by omega) (cell_later (bl1 wr _) e1)
      have g2 : ∀ u : Ws (wr.heap.size + 1) (wr.alloc (.cells #[.int .i64 (at0 ps k), .int .i64 (at1 ps k)] 23)), u.val.cell? ⟨w.heap.size, 2, none⟩ = some (.slice (some ⟨b, o, none⟩) n c) := Ws.cell (by omega) (cell_later (bl1 wr _) e2)
      have g3 : ∀ u : Ws (wr.heap.size + 1) (wr.alloc (.cells #[.int .i64 (at0 ps k), .int .i64 (at1 ps k)] 23)), u.val.cell? ⟨wr.heap.size, 0, none⟩ = some (.int .i64 (at0 ps k)) := Ws.cell (by omega) (by simp)
      have g4 : ∀ u : Ws (wr.heap.size + 1) (wr.alloc (.cells #[.int .i64 (at0 ps k), .int .i64 (at1 ps k)] 23)), u.val.cell? ⟨wr.heap.size, 1, none⟩ = some (.int .i64 (at1 ps k)) := Ws.cell (by omega) (by simp)
      have hlt' := hlt
      go_upto_region 4 with fail
      clear e0 e1 e2 c0 c1 d0 d1
      refine wp_region_ws (wr.heap.size + 1) (by kernel_rfl) (by kernel_rfl) ?_
      cases hI : ins (at0 ps k) (at1 ps k) a l
      · repeat (go_big_quiet_step ((go_at_call 20; exact Calls.in_ws (by simp) (inside_is _ _ _ _ _ hI _))))
        refine wpQuiet_nil ?_
        rintro _ ⟨u, rfl⟩
        have hu := hW.trans (u.property.mono (by omega))
        generalize u.val = wu at hu ⊢
        clear u g0 g1 g2 g3 g4
        go_wp2
        go_ret
        exact ⟨ret_bool (near_no (k := k) (by omega) (by unfold nearAt; rw [hI]; rfl)).symm, (bl1 w _).trans (hu.mono (by omega))⟩
      · cases k with
        | zero =>
          repeat (go_big_quiet_step ((go_at_call 20; exact Calls.in_ws (by simp) (inside_is _ _ _ _ _ hI _))))
          refine wpQuiet_nil ?_
          rintro _ ⟨u, rfl⟩
          have hu := hW.trans (u.property.mono (by omega))
          generalize u.val = wu at hu ⊢
          clear u g0 g1 g2 g3 g4
          go_wp2
          go_roundw
          case rel => exact ⟨1, hlt', by go_num, hu, fun j hj => by
            obtain rfl : j = 0 := Nat.lt_one_iff.1 hj
            unfold nearAt; rw [hI]; rfl⟩
          case measure => simp [intOf]; omega
        | succ k' =>
          obtain ⟨b2, o2, hbo, c2, c3⟩ := hp2.cells k' (by omega)
          simp only [Option.some.injEq, Addr.mk.injEq, and_true] at hbo
          obtain ⟨rfl, rfl⟩ := hbo
          have t0 : wr.cell? ⟨b, o + k' * 2, none⟩ = some (.int .i64 (at0 ps k')) := (hB.cell (p := ⟨b, o + k' * 2, none⟩) hbl).trans c2
          have t1 : wr.cell? ⟨b, o + k' * 2 + 1, none⟩ = some (.int .i64 (at1 ps k')) := (hB.cell (p := ⟨b, o + k' * 2 + 1, none⟩) hbl).trans c3
          have g5 : ∀ u : Ws (wr.heap.size + 1) (wr.alloc (.cells #[.int .i64 (at0 ps (k' + 1)), .int .i64 (at1 ps (k' + 1))] 23)), u.val.cell? ⟨b, o + k' * 2, none⟩ = some (.int .i64 (at0 ps k')) := Ws.cell (by omega) (cell_later (bl1 wr _) t0)
          have g6 : ∀ u : Ws (wr.heap.size + 1) (wr.alloc (.cells #[.int .i64 (at0 ps (k' + 1)), .int .i64 (at1 ps (k' + 1))] 23)), u.val.cell? ⟨b, o + k' * 2 + 1, none⟩ = some (.int .i64 (at1 ps k')) := Ws.cell (by omega) (cell_later (bl1 wr _) t1)
          clear c2 c3 t0 t1
          cases hM : mts (at0 ps k') (at1 ps k') (at0 ps (k' + 1)) (at1 ps (k' + 1))
          all_goals repeat (go_big_quiet_step (first | (go_at_call 20; exact Calls.in_ws (by simp) (inside_is _ _ _ _ _ hI _)) | (go_at_call 52; exact Calls.in_ws (by simp) (meets_is _ _ _ _ _ hM _))))
          all_goals refine wpQuiet_nil ?_
          all_goals rintro _ ⟨u, rfl⟩
          all_goals have hu := hW.trans (u.property.mono (by omega))
          all_goals generalize u.val = wu at hu ⊢
          all_goals clear u g0 g1 g2 g3 g4 g5 g6
          all_goals go_wp2
          · go_roundw
            case rel => exact ⟨k' + 1 + 1, hlt', by go_num, hu, fun j hj => by
              by_cases hj2 : j < k' + 1
              · exact hok j hj2
              · obtain rfl : j = k' + 1 := by omega
                unfold nearAt; rw [hI, Nat.add_sub_cancel, hM]; simp⟩
            case measure => simp [intOf]; omega
          · go_ret
            exact ⟨ret_bool (near_no (k := k' + 1) (by omega) (by unfold nearAt; rw [hI, Nat.add_sub_cancel, hM]; simp)).symm, (bl1 w _).trans (hu.mono (by omega))⟩
    · have e2 : wr.cell? ⟨w.heap.size, 2, none⟩ = some (.slice x n c) := (hB.cell (p := ⟨w.heap.size, 2, none⟩) (by show w.heap.size < _; omega)).trans (by simp)
      have k2 : ∀ q, (wr.alloc q).cell? ⟨w.heap.size, 2, none⟩ = some (.slice x n c) := fun q => cell_later (bl1 wr q) e2
      have hB2 : Below (w.alloc (.cells #[.int .i64 a, .int .i64 l, .slice x n c] 26)).heap.size (w.alloc (.cells #[.int .i64 a, .int .i64 l, .slice x n c] 26)) wr := by rw [World.size_alloc]; exact hB
      have hpw : PS wr x n ps := (hp.later (bl1 w _)).later hB2
      go_wp2_with (go_at_call 53; refine (rise_any x n c ps wr.heap.size 1 _ (hpw.later (bl1 wr _)) (by omega) (by simp)).mono ?_; rintro e w1 ⟨rfl, hb1⟩)
      go_ret
      exact ⟨ret_bool (near_yes (fun j hj => hok j (by omega))).symm, (bl1 w _).trans ((hB.trans (((bl1 wr _).trans (hb1.mono (by simp))).mono hz)).mono (by omega))⟩
end Go.Proofs.Ytbnkgecblaffeaa
