/- The law CidrTrue answers true, whatever it is handed. -/
import Derived.Test.YtgojhaicaolbaaaDoorI
import Derived.Deep.DeepCutAuto
namespace Go.Proofs.YtgojhaicaolbaaaDoor
open Go.RowKit

/-- An old cell, in every world of the class. -/
theorem Ws.here {w : World} {b o : Nat} {v : Value} (h : w.cell? ⟨b, o, none⟩ = some v) (u : Ws w.heap.size w) : u.val.cell? ⟨b, o, none⟩ = some v :=
  cell_later u.property h

def hv (a l x : Int) : Int := if rt a l = true ∧ l < 16 then x else 0
def hvE (a l : Int) : Int := if rt a l = true then (if l < 16 then 0 else 3) else chk a l

theorem halves_any (a l : Int) (w : World) :
    Calls Tryd.prog 17 #[.agg #[.int .i64 a, .int .i64 l]] w fun e w' => e = .returned (.tuple #[.agg #[.int .i64 (hv a l a), .int .i64 (hv a l (l + 1))], .agg #[.int .i64 (hv a l (a + sp (l + 1))), .int .i64 (hv a l (l + 1))], .int .i64 (hvE a l)]) ∧ Below w.heap.size w w' := by
  unfold hv hvE
  cases h : rt a l
  · simpa using halves_bad a l w h
  · obtain ⟨l0, l1, -, -, -⟩ := rt_range h
    by_cases h16 : l < 16
    · simpa [h16] using halves_ok a l w h h16
    · obtain rfl : l = 16 := by omega
      simpa using halves_16 a w h

def shS (a l : Int) : ByteArray := if rt a l = true then ⟨(showL a l).toArray⟩ else ⟨#[]⟩
theorem show_any (a l : Int) (w : World) (hE : Env w) :
    Calls Tryd.prog 20 #[.agg #[.int .i64 a, .int .i64 l]] w fun e w' => e = .returned (.tuple #[.string (shS a l), .int .i64 (chk a l)]) ∧ Below w.heap.size w w' := by
  unfold shS
  cases h : rt a l
  · simpa using show_bad a l w h
  · rw [chk_of_rt h]
    simpa using show_ok a l w hE h

theorem holds_is (a l x : Int) (t : Bool) (h : hld a l x = t) (w : World) :
    Calls Tryd.prog 11 #[.agg #[.int .i64 a, .int .i64 l], .int .i64 x] w fun e w' => e = .returned (.bool t) ∧ Below w.heap.size w w' := by
  subst h
  exact holds_any a l x w
theorem meets_is (a l c m : Int) (t : Bool) (h : mts a l c m = t) (w : World) :
    Calls Tryd.prog 15 #[.agg #[.int .i64 a, .int .i64 l], .agg #[.int .i64 c, .int .i64 m]] w fun e w' => e = .returned (.bool t) ∧ Below w.heap.size w w' := by
  subst h
  exact meets_any a l c m w
theorem inside_is (a l c m : Int) (t : Bool) (h : ins a l c m = t) (w : World) :
    Calls Tryd.prog 13 #[.agg #[.int .i64 a, .int .i64 l], .agg #[.int .i64 c, .int .i64 m]] w fun e w' => e = .returned (.bool t) ∧ Below w.heap.size w w' := by
  subst h
  exact inside_any a l c m w
theorem shS_yes {a l : Int} (h : rt a l = true) : shS a l = ⟨(showL a l).toArray⟩ := by unfold shS; rw [if_pos h]
theorem read_sh (a l : Int) (w : World) (hE : Env w) (h : rt a l = true) :
    Calls Tryd.prog 22 #[.string (shS a l)] w fun e w' => e = .returned (.tuple #[.agg #[.int .i64 a, .int .i64 l], .int .i64 0]) ∧ Below w.heap.size w w' := by
  rw [shS_yes h]
  exact read_ok a l w hE h
theorem bytes_of {s : ByteArray} {x : List UInt8} (h : s.data.toList = x) : s = ⟨x.toArray⟩ := by
  subst h
  cases s
  simp
theorem read_s (s : ByteArray) (a l : Int) (w : World) (hE : Env w) (h : rt a l = true) (hs : s.data.toList = showL a l) :
    Calls Tryd.prog 22 #[.string s] w fun e w' => e = .returned (.tuple #[.agg #[.int .i64 a, .int .i64 l], .int .i64 0]) ∧ Below w.heap.size w w' := by
  rw [bytes_of hs]
  exact read_ok a l w hE h
theorem show_s (s : ByteArray) (a l : Int) (w : World) (hE : Env w) (h : rt a l = true) (hs : s.data.toList = showL a l) :
    Calls Tryd.prog 20 #[.agg #[.int .i64 a, .int .i64 l]] w fun e w' => e = .returned (.tuple #[.string s, .int .i64 0]) ∧ Below w.heap.size w w' := by
  rw [bytes_of hs]
  exact show_ok a l w hE h
theorem begun_there (w : World) (hE : Env w) : Calls Tryd.prog 8 #[] w fun e w' => e = .returned (.bool true) ∧ Below w.heap.size w w' := begun_any w hE

theorem hv_yes {a l x : Int} (h : rt a l = true) (h1 : l < 16) : hv a l x = x := by unfold hv; rw [if_pos ⟨h, h1⟩]
theorem hvE_yes {a l : Int} (h : (hvE a l == 0) = true) : rt a l = true ∧ l < 16 := by
  unfold hvE at h
  by_cases h1 : rt a l = true
  · rw [if_pos h1] at h
    refine ⟨h1, ?_⟩
    by_cases h2 : l < 16
    · exact h2
    · rw [if_neg h2] at h
      simp at h
  · rw [if_neg h1] at h
    exact absurd h h1

theorem sp_half (l : Int) (h0 : 0 ≤ l) (h1 : l < 16) : sp l = sp (l + 1) + sp (l + 1) := by
  rw [sp_eq l h0 (by omega), sp_eq (l + 1) (by omega) (by omega)]
  have : (16 - l).toNat = (16 - (l + 1)).toNat + 1 := by omega
  rw [this, Int.pow_succ]
  omega

theorem rt_mk {a l : Int} (h0 : 0 ≤ l) (h1 : l ≤ 16) (h2 : 0 ≤ a) (h3 : a ≤ 65535) (h4 : a % sp l = 0) : rt a l = true := by
  unfold rt chk
  rw [if_neg (by omega), if_pos h4]
  rfl

theorem rt_top {a l : Int} (h : rt a l = true) : a + sp l ≤ 65536 := by
  obtain ⟨l0, l1, a0, a1, ad⟩ := rt_range h
  have hd := sp_dvd (l := l) (m := 0) (by omega) l0 l1
  exact step_le (sp_pos l) (Int.dvd_of_emod_eq_zero ad) hd (by show a < 65536; omega)

theorem rt_halves {a l : Int} (h : rt a l = true) (h16 : l < 16) : rt a (l + 1) = true ∧ rt (a + sp (l + 1)) (l + 1) = true := by
  obtain ⟨l0, l1, a0, a1, ad⟩ := rt_range h
  have hh := sp_half l l0 h16
  have hp := sp_pos (l + 1)
  have ht := rt_top h
  have hd : sp (l + 1) ∣ a := Int.dvd_trans (sp_dvd l0 (by omega) (by omega)) (Int.dvd_of_emod_eq_zero ad)
  exact ⟨rt_mk (by omega) (by omega) a0 a1 (Int.emod_eq_zero_of_dvd hd), rt_mk (by omega) (by omega) (by omega) (by omega) (Int.emod_eq_zero_of_dvd (Int.dvd_add hd (Int.dvd_refl _)))⟩

theorem hld_halves {a l : Int} (x : Int) (h : rt a l = true) (h16 : l < 16) : hld a l x = (hld a (l + 1) x != hld (a + sp (l + 1)) (l + 1) x) := by
  obtain ⟨l0, l1, a0, a1, ad⟩ := rt_range h
  obtain ⟨r1, r2⟩ := rt_halves h h16
  have hh := sp_half l l0 h16
  have hp := sp_pos (l + 1)
  unfold hld
  rw [h, r1, r2, hh]
  by_cases c1 : a ≤ x
  · by_cases c2 : x < a + sp (l + 1)
    · have c3 : ¬ a + sp (l + 1) ≤ x := by omega
      have c4 : x < a + (sp (l + 1) + sp (l + 1)) := by omega
      simp [c1, c2, c3, c4]
    · have c3 : a + sp (l + 1) ≤ x := by omega
      have e : (x < a + (sp (l + 1) + sp (l + 1))) = (x < a + sp (l + 1) + sp (l + 1)) := by rw [Int.add_assoc]
      simp [c1, c2, c3, e]
  · have c3 : ¬ a + sp (l + 1) ≤ x := by omega
    simp [c1, c3]

theorem mts_halves {a l : Int} (h : rt a l = true) (h16 : l < 16) : mts a (l + 1) (a + sp (l + 1)) (l + 1) = false := by
  obtain ⟨r1, r2⟩ := rt_halves h h16
  rw [mts_iff _ _ _ _ r1 r2]
  have hp := sp_pos (l + 1)
  simp
  omega

theorem mts_of_hld {a l c m x : Int} (h1 : hld a l x = true) (h2 : hld c m x = true) : mts a l c m = true := by
  unfold hld at h1 h2
  simp only [Bool.and_eq_true, decide_eq_true_eq] at h1 h2
  obtain ⟨⟨r1, p1⟩, p2⟩ := h1
  obtain ⟨⟨r2, p3⟩, p4⟩ := h2
  rw [mts_iff _ _ _ _ r1 r2]
  simp
  omega

theorem neq_self_or (x y : Bool) : ((x || y) != (if x = true then true else y)) = false := by cases x <;> cases y <;> rfl

set_option maxRecDepth 100000 in
set_option maxHeartbeats 1600000 in
theorem true_any (a l c m x : Int) (s : ByteArray) (w : World) (hE : Env w) (hs : s.size ≤ maxLen) :
    Calls Tryd.prog 6 #[.agg #[.int .i64 a, .int .i64 l], .agg #[.int .i64 c, .int .i64 m], .int .i64 x, .string s] w fun e w' => e = .returned (.bool true) ∧ Below w.heap.size w w' := by
  go_enter Tryd.func6, Tryd.ntmps6
  go_upto_region 1 with fail
  go_cut [31] (fun t wc => t = .bool false ∧ Below (w.heap.size + 1 + 1) ((w.alloc (.cells #[.int .i64 a, .int .i64 l] 23)).alloc (.cells #[.int .i64 c, .int .i64 m] 23)) wc)
  case first =>
    obtain ⟨d0, d1, d2, d3⟩ := two_cells w a l c m 23
    cases hi : ins a l c m
    · refine wp_region_ws (w.heap.size + 1 + 1) (by kernel_rfl) (by kernel_rfl) ?_
      repeat (go_big_quiet_step (first | (go_at_call 15; exact Calls.in_ws (by simp) (meets_any _ _ _ _ _)) | (go_at_call_of 13 (#[Value.agg #[Value.int IntKind.i64 a, Value.int IntKind.i64 l], Value.agg #[Value.int IntKind.i64 c, Value.int IntKind.i64 m]]); exact Calls.in_ws (by simp) (inside_is a l c m _ hi _)) | (go_at_call 13; exact Calls.in_ws (by simp) (inside_any c m a l _))))
      refine wpQuiet_nil ?_
      rintro _ ⟨u, rfl⟩
      clear d0 d1 d2 d3
      have hu := u.property
      generalize u.val = wu at hu ⊢
      clear u
      go_wp2
      go_meet
      case rel => exact ⟨congrArg Value.bool (by unfold mts; rw [hi]; simp), hu⟩
    · refine wp_region_ws (w.heap.size + 1 + 1) (by kernel_rfl) (by kernel_rfl) ?_
      repeat (go_big_quiet_step (first | (go_at_call 15; exact Calls.in_ws (by simp) (meets_any _ _ _ _ _)) | (go_at_call 13; exact Calls.in_ws (by simp) (inside_is a l c m _ hi _))))
      refine wpQuiet_nil ?_
      rintro _ ⟨u, rfl⟩
      clear d0 d1 d2 d3
      have hu := u.property
      generalize u.val = wu at hu ⊢
      clear u
      go_wp2
      go_meet
      case rel => exact ⟨congrArg Value.bool (by unfold mts; rw [hi]; simp), hu⟩
  case rest =>
    obtain ⟨rfl, hC⟩ := hcut
    have e0 : wc.cell? ⟨w.heap.size, 0, none⟩ = some (.int .i64 a) := (hC.cell (p := ⟨w.heap.size, 0, none⟩) (by show w.heap.size < _; omega)).trans (by simp)
    have e1 : wc.cell? ⟨w.heap.size, 1, none⟩ = some (.int .i64 l) := (hC.cell (p := ⟨w.heap.size, 1, none⟩) (by show w.heap.size < _; omega)).trans (by simp)
    have e2 : wc.cell? ⟨w.heap.size + 1, 0, none⟩ = some (.int .i64 c) := (hC.cell (p := ⟨w.heap.size + 1, 0, none⟩) (by show w.heap.size + 1 < _; omega)).trans (by simp)
    have e3 : wc.cell? ⟨w.heap.size + 1, 1, none⟩ = some (.int .i64 m) := (hC.cell (p := ⟨w.heap.size + 1, 1, none⟩) (by show w.heap.size + 1 < _; omega)).trans (by simp)
    go_wp2_with fail
    refine (halves_any a l _).mono ?_
    rintro e v2 ⟨rfl, hb2⟩
    have q0 := cell_later hb2 e0
    have q1 := cell_later hb2 e1
    have hz := hC.size
    simp only [World.size_alloc] at hz
    have hC2 := hC.trans (hb2.mono hz)
    have hz2 := hC2.size
    simp only [World.size_alloc] at hz2
    clear hb2 hC e0 e1 e2 e3 hz
    obtain ⟨v1, hv1⟩ : ∃ v : World, v = wc := ⟨_, rfl⟩
    clear hv1
    go_upto_region 4 with fail
    go_cut [57] (fun t wc => t = .bool false ∧ Below (w.heap.size + 1 + 1) ((w.alloc (.cells #[.int .i64 a, .int .i64 l] 23)).alloc (.cells #[.int .i64 c, .int .i64 m] 23)) wc)
    case first =>
      have hC3 := hC2.trans ((bl2 v2 (.cells #[.int .i64 (hv a l a), .int .i64 (hv a l (l + 1))] 23) (.cells #[.int .i64 (hv a l (a + sp (l + 1))), .int .i64 (hv a l (l + 1))] 23)).mono hz2)
      cases hh : (hvE a l == 0)
      · refine wp_region_ws (v2.heap.size + 1 + 1) (by kernel_rfl) (by kernel_rfl) ?_
        repeat (go_big_quiet_step (fail))
        refine wpQuiet_nil ?_
        rintro _ ⟨u, rfl⟩
        have hu := hC3.trans (u.property.mono (by omega))
        generalize u.val = wu at hu ⊢
        clear u
        go_wp2
        go_meet
        case rel => exact ⟨rfl, hu⟩
      · obtain ⟨hr, hl⟩ := hvE_yes hh
        rw [hv_yes hr hl, hv_yes hr hl, hv_yes hr hl] at hC3 ⊢
        have g0 : ∀ u : Ws (v2.heap.size + 1 + 1) ((v2.alloc (.cells #[.int .i64 a, .int .i64 (l + 1)] 23)).alloc (.cells #[.int .i64 (a + sp (l + 1)), .int .i64 (l + 1)] 23)), u.val.cell? ⟨w.heap.size, 0, none⟩ = some (.int .i64 a) := Ws.cell (by omega) (cell_later (bl2 v2 _ _) q0)
        have g1 : ∀ u : Ws (v2.heap.size + 1 + 1) ((v2.alloc (.cells #[.int .i64 a, .int .i64 (l + 1)] 23)).alloc (.cells #[.int .i64 (a + sp (l + 1)), .int .i64 (l + 1)] 23)), u.val.cell? ⟨w.heap.size, 1, none⟩ = some (.int .i64 l) := Ws.cell (by omega) (cell_later (bl2 v2 _ _) q1)
        obtain ⟨g2, g3, g4, g5⟩ := two_cells v2 a (l + 1) (a + sp (l + 1)) (l + 1) 23
        have hm := mts_halves hr hl
        have hx := hld_halves x hr hl
        clear hC2 q0 q1 hE hs
        cases hA : hld a (l + 1) x
        all_goals cases hB : hld (a + sp (l + 1)) (l + 1) x
        all_goals rw [hA, hB] at hx
        all_goals (first | (change hld a l x = true at hx) | (change hld a l x = false at hx))
        all_goals refine wp_region_ws (v2.heap.size + 1 + 1) (by kernel_rfl) (by kernel_rfl) ?_
        all_goals repeat (go_big_quiet_step (first | (go_at_call_of 11 sp; exact Calls.in_ws (by simp) (holds_is (a + sp (l + 1)) (l + 1) x _ hB _)) | (go_at_call_of 11 (#[Value.agg #[Value.int IntKind.i64 a, Value.int IntKind.i64 l], Value.int IntKind.i64 x]); exact Calls.in_ws (by simp) (holds_is a l x _ hx _)) | (go_at_call 11; exact Calls.in_ws (by simp) (holds_is a (l + 1) x _ hA _)) | (go_at_call 15; exact Calls.in_ws (by simp) (meets_is a (l + 1) (a + sp (l + 1)) (l + 1) _ hm _))))
        all_goals refine wpQuiet_nil ?_
        all_goals rintro _ ⟨u, rfl⟩
        all_goals have hu := hC3.trans (u.property.mono (by omega))
        all_goals generalize u.val = wu at hu ⊢
        all_goals clear u
        all_goals go_wp2
        all_goals go_meet
        all_goals exact ⟨rfl, hu⟩
    case rest =>
      obtain ⟨rfl, hD⟩ := hcut
      clear q0 q1 hC2 hz2 v1
      have zD := hD.size
      simp only [World.size_alloc] at zD
      have e0 : wc.cell? ⟨w.heap.size, 0, none⟩ = some (.int .i64 a) := (hD.cell (p := ⟨w.heap.size, 0, none⟩) (by show w.heap.size < _; omega)).trans (by simp)
      have e1 : wc.cell? ⟨w.heap.size, 1, none⟩ = some (.int .i64 l) := (hD.cell (p := ⟨w.heap.size, 1, none⟩) (by show w.heap.size < _; omega)).trans (by simp)
      have e2 : wc.cell? ⟨w.heap.size + 1, 0, none⟩ = some (.int .i64 c) := (hD.cell (p := ⟨w.heap.size + 1, 0, none⟩) (by show w.heap.size + 1 < _; omega)).trans (by simp)
      have e3 : wc.cell? ⟨w.heap.size + 1, 1, none⟩ = some (.int .i64 m) := (hD.cell (p := ⟨w.heap.size + 1, 1, none⟩) (by show w.heap.size + 1 < _; omega)).trans (by simp)
      go_upto_region 6 with fail
      go_cut [71] (fun t wc => t = .bool false ∧ Below (w.heap.size + 1 + 1) ((w.alloc (.cells #[.int .i64 a, .int .i64 l] 23)).alloc (.cells #[.int .i64 c, .int .i64 m] 23)) wc)
      case first =>
        have g0 := Ws.here e0
        have g1 := Ws.here e1
        have g2 := Ws.here e2
        have g3 := Ws.here e3
        clear e0 e1 e2 e3 hE hs
        cases hA : hld a l x
        · refine wp_region_wf wc.heap.size ?_
          repeat (go_big_quiet_step ((go_at_call 11; exact Calls.in_ws (Nat.le_refl _) (holds_is a l x _ hA _))))
          refine wpQuiet_nil ?_
          rintro _ ⟨u, rfl⟩
          have hu := hD.trans (u.property.mono zD)
          generalize u.val = wu at hu ⊢
          clear u
          go_wp2
          go_meet
          case rel => exact ⟨rfl, hu⟩
        · cases hB : hld c m x
          · refine wp_region_wf wc.heap.size ?_
            repeat (go_big_quiet_step (first | (go_at_call_of 11 (#[Value.agg #[Value.int IntKind.i64 a, Value.int IntKind.i64 l], Value.int IntKind.i64 x]); exact Calls.in_ws (Nat.le_refl _) (holds_is a l x _ hA _)) | (go_at_call 11; exact Calls.in_ws (Nat.le_refl _) (holds_is c m x _ hB _))))
            refine wpQuiet_nil ?_
            rintro _ ⟨u, rfl⟩
            have hu := hD.trans (u.property.mono zD)
            generalize u.val = wu at hu ⊢
            clear u
            go_wp2
            go_meet
            case rel => exact ⟨rfl, hu⟩
          · have hm := mts_of_hld hA hB
            refine wp_region_wf wc.heap.size ?_
            repeat (go_big_quiet_step (first | (go_at_call_of 11 (#[Value.agg #[Value.int IntKind.i64 a, Value.int IntKind.i64 l], Value.int IntKind.i64 x]); exact Calls.in_ws (Nat.le_refl _) (holds_is a l x _ hA _)) | (go_at_call 11; exact Calls.in_ws (Nat.le_refl _) (holds_is c m x _ hB _)) | (go_at_call 15; exact Calls.in_ws (Nat.le_refl _) (meets_is a l c m _ hm _))))
            refine wpQuiet_nil ?_
            rintro _ ⟨u, rfl⟩
            have hu := hD.trans (u.property.mono zD)
            generalize u.val = wu at hu ⊢
            clear u
            go_wp2
            go_meet
            case rel => exact ⟨rfl, hu⟩
      case rest =>
        obtain ⟨rfl, hF⟩ := hcut
        clear e0 e1 e2 e3 hD zD
        have zF := hF.size
        simp only [World.size_alloc] at zF
        have e0 : wc.cell? ⟨w.heap.size, 0, none⟩ = some (.int .i64 a) := (hF.cell (p := ⟨w.heap.size, 0, none⟩) (by show w.heap.size < _; omega)).trans (by simp)
        have e1 : wc.cell? ⟨w.heap.size, 1, none⟩ = some (.int .i64 l) := (hF.cell (p := ⟨w.heap.size, 1, none⟩) (by show w.heap.size < _; omega)).trans (by simp)
        have hBF := (bl2 w _ _).trans (hF.mono (by omega))
        go_wp2_with fail
        refine (show_any a l _ (hE.below hE.size hBF)).mono ?_
        rintro e v3 ⟨rfl, hb3⟩
        have q0 := cell_later hb3 e0
        have q1 := cell_later hb3 e1
        have hG := hF.trans (hb3.mono zF)
        have zG := hG.size
        simp only [World.size_alloc] at zG
        clear hb3 e0 e1 hF zF hBF
        go_upto_if 78 with fail
        go_cut [8] (fun t wc => t = .bool false ∧ Below (w.heap.size + 1 + 1) ((w.alloc (.cells #[.int .i64 a, .int .i64 l] 23)).alloc (.cells #[.int .i64 c, .int .i64 m] 23)) wc)
        case first =>
          cases hr : rt a l
          · have hb := chk_ne hr
            go_wp2
            go_meet
            case rel => exact ⟨rfl, hG⟩
          · have hb : (chk a l == 0) = true := hr
            have hB3 := (bl2 w _ _).trans (hG.mono (by omega))
            go_wp2_with fail
            refine (read_sh a l _ (hE.below hE.size hB3) hr).mono ?_
            rintro e v4 ⟨rfl, hb4⟩
            have r0 := cell_later hb4 q0
            have r1 := cell_later hb4 q1
            have k0 : ∀ o, (v4.alloc o).cell? ⟨w.heap.size, 0, none⟩ = some (.int .i64 a) := fun o => cell_later (bl1 v4 o) r0
            have k1 : ∀ o, (v4.alloc o).cell? ⟨w.heap.size, 1, none⟩ = some (.int .i64 l) := fun o => cell_later (bl1 v4 o) r1
            have hH := hG.trans (hb4.mono zG)
            have zH := hH.size
            simp only [World.size_alloc] at zH
            have hI := hH.trans ((bl1 v4 (.cells #[.int .i64 a, .int .i64 l] 23)).mono zH)
            clear hb4 q0 q1 r0 r1 hG zG hB3
            go_wp2
            go_meet
            case rel => exact ⟨rfl, hI⟩
        case rest =>
          obtain ⟨rfl, hI⟩ := hcut
          clear q0 q1 hG zG
          have hBI := (bl2 w _ _).trans (hI.mono (by omega))
          have hEI := hE.below hE.size hBI
          by_cases hx : ∃ p : Int × Int, rt p.1 p.2 = true ∧ s.data.toList = showL p.1 p.2
          · obtain ⟨⟨a', l'⟩, hr, hsl⟩ := hx
            have HS : Hid (s.data.toList = showL a' l') := hsl
            clear hsl
            go_wp2_with fail
            refine (read_s s a' l' _ hEI hr HS.out).mono ?_
            rintro e v5 ⟨rfl, hb5⟩
            have hB5 := hBI.trans (hb5.mono hBI.size)
            have hB6 := hB5.trans ((bl1 v5 (.cells #[.int .i64 a', .int .i64 l'] 23)).mono hB5.size)
            have hE6 := hE.below hE.size hB6
            go_wp2_with fail
            refine (show_s s a' l' _ hE6 hr HS.out).mono ?_
            rintro e v7 ⟨rfl, hb7⟩
            have hB7 := hB6.trans (hb7.mono (by have := hB6.size; simp only [World.size_alloc] at this ⊢; omega))
            have hE7 := hE.below hE.size hB7
            clear hb5 hb7 hE6 hB6 hB5 hI hBI hEI
            go_wp2_with (go_at_call 8; refine (begun_any _ hE7).mono ?_; rintro e v8 ⟨rfl, hb8⟩)
            go_ret
            exact ⟨rfl, hB7.trans (hb8.mono hB7.size)⟩
          · have hno : ∀ a l, rt a l = true → s.data.toList ≠ showL a l := fun a l h1 h2 => hx ⟨(a, l), h1, h2⟩
            go_wp2_with fail
            refine (read_bad s _ hEI hs hno).mono ?_
            rintro e v5 ⟨rfl, hb5⟩
            have hB5 := hBI.trans (hb5.mono hBI.size)
            have hB6 := hB5.trans ((bl1 v5 (.cells #[.int .i64 0, .int .i64 0] 23)).mono hB5.size)
            have hE6 := hE.below hE.size hB6
            clear hb5 hB5 hI hBI hEI hno hx
            go_wp2_with (go_at_call 8; refine (begun_any _ hE6).mono ?_; rintro e v8 ⟨rfl, hb8⟩)
            go_ret
            exact ⟨rfl, hB6.trans (hb8.mono hB6.size)⟩
end Go.Proofs.YtgojhaicaolbaaaDoor
