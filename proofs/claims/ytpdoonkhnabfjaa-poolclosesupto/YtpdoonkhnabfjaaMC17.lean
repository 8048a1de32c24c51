/- What PassOf of the reference comes to. -/
import Derived.Test.YtpdoonkhnabfjaaMC16
import Derived.Test.YtpdoonkhnabfjaaMC11
import Derived.Deep.RegionHeld3
namespace Go.Proofs.Ytpdoonkhnabfjaa
open Go.RowKit Go.Shelf

theorem pass_next {T : Int} {ls : List Le} {j : Nat} (h : j < ls.length) : passL T (ls.take (j + 1)) = passL T (ls.take j) ++ (if cooled T (leAt ls j) = true then [] else [leAt ls j]) := by
  have h1 : ls.take (j + 1) = ls.take j ++ [leAt ls j] := by
    rw [List.take_add_one]
    congr 1
    unfold leAt
    rw [List.getD_eq_getElem?_getD, List.getElem?_eq_getElem h]
    rfl
  unfold passL
  rw [h1, List.filter_append]
  cases hc : cooled T (leAt ls j) <;> simp [hc]
theorem pass_len (T : Int) (ls : List Le) (j : Nat) : (passL T (ls.take j)).length ≤ j := Nat.le_trans (List.length_filter_le _ _) (by rw [List.length_take]; omega)

set_option maxRecDepth 100000 in
set_option maxHeartbeats 6400000 in
theorem passOf_any (t : Int) (x : Option Addr) (n c : Nat) (ps : List Po) (m : Int) (w : World) (hk : Bk w x n c ps) :
    Calls Try.prog 10 #[.agg #[.int .i64 t, .slice x n c], .int .i64 m] w (PassPost t ps m w) := by
  have hpl : Hid (ps.length = n) := hk.ps.len
  go_enter Try.func10, Try.ntmps10
  go_upto_region 1 with fail
  obtain ⟨w0, hw0⟩ : ∃ w0, w0 = (w.alloc (bkV t (.slice x n c))).alloc (bkV 0 (.slice none 0 0)) := ⟨_, rfl⟩
  rw [← hw0]
  have hT0 : TC w w0 t (.slice x n c) := by
    rw [hw0]
    exact ⟨heap_old _ (heap_new _ rfl), heap_new _ (by simp), bl2 w _ _⟩
  clear hw0
  have b0 : w0.cell? ⟨w.heap.size, 0, none⟩ = some (.int .i64 t) := (box_cells hT0.hb).1 0
  have b1 : w0.cell? ⟨w.heap.size, 1, none⟩ = some (.slice x n c) := (box_cells hT0.hb).1 1
  have s0 : w0.cell? ⟨w.heap.size + 1, 0, none⟩ = some (.int .i64 0) := (box_cells hT0.hs).1 0
  have s1 : w0.cell? ⟨w.heap.size + 1, 1, none⟩ = some (.slice none 0 0) := (box_cells hT0.hs).1 1
  have zs0 : w0.frozen? ⟨w.heap.size + 1, 0, none⟩ = false := (box_cells hT0.hs).2 0
  have zs1 : w0.frozen? ⟨w.heap.size + 1, 1, none⟩ = false := (box_cells hT0.hs).2 1
  have hck := checkBook_any t x n c ps w0 (hk.later hT0.below)
  by_cases hc0 : chkB t ps = 0
  · rw [hc0] at hck
    obtain ⟨hn8, ⟨ht0, ht1⟩, -⟩ := chk_ok hc0
    rw [hpl.out] at hn8
    have hE1 : Hid (passE t ps m = if m < 1 ∨ 1073741824 - t < m then 3 else 0) := if_neg (c := chkB t ps ≠ 0) (by simp [hc0])
    by_cases hr : m < 1 ∨ 1073741824 - t < m
    · have hne : Hid (passE t ps m = 3 ∧ (3 : Int) ≠ 0) := ⟨hE1.out.trans (if_pos hr), by decide⟩
      have hwt : wth m 1 (1073741824 - t) = false := by
        unfold wth
        rcases hr with h | h
        · have : decide (1 ≤ m) = false := by simp; omega
          simp [this]
        · have : decide (m ≤ 1073741824 - t) = false := by simp; omega
          simp [this]
      go_wp2_with fail
      refine hck.mono ?_
      rintro e w1 ⟨rfl, hb1⟩
      have hT1 := hT0.later hb1
      clear b0 b1 s0 s1 zs0 zs1 hb1 hck hE1
      have b0 : w1.cell? ⟨w.heap.size, 0, none⟩ = some (.int .i64 t) := (box_cells hT1.hb).1 0
      have b1 : w1.cell? ⟨w.heap.size, 1, none⟩ = some (.slice x n c) := (box_cells hT1.hb).1 1
      have s0 : w1.cell? ⟨w.heap.size + 1, 0, none⟩ = some (.int .i64 0) := (box_cells hT1.hs).1 0
      have s1 : w1.cell? ⟨w.heap.size + 1, 1, none⟩ = some (.slice none 0 0) := (box_cells hT1.hs).1 1
      have zs0 : w1.frozen? ⟨w.heap.size + 1, 0, none⟩ = false := (box_cells hT1.hs).2 0
      have zs1 : w1.frozen? ⟨w.heap.size + 1, 1, none⟩ = false := (box_cells hT1.hs).2 1
      go_wp2_with fail
      refine (within_at m 1 (1073741824 - t) false hwt _).mono ?_
      rintro e w1 ⟨rfl, rfl⟩
      go_wp2
      refine bodyPost_ret (v := .tuple #[.agg #[.int .i64 0, .slice none 0 0], .int .i64 3]) (by simp [results, Try.results10, go_sem, s0, s1]) rfl ?_
      exact BkPost.err hne.out ((hT1.below.setCell (p := ⟨w.heap.size + 1, 0, none⟩) (Nat.le_add_right _ _) _).setCell (p := ⟨w.heap.size + 1, 1, none⟩) (Nat.le_add_right _ _) _)
    have hr2 : ¬ 1073741824 - t < m := fun h => hr (.inr h)
    have hr1 : ¬ m < 1 := fun h => hr (.inl h)
    have hwt : wth m 1 (1073741824 - t) = true := by
      unfold wth
      have h1 : decide (1 ≤ m) = true := by simp; omega
      have h2 : decide (m ≤ 1073741824 - t) = true := by simp; omega
      simp [h1, h2]
    have hE0 : Hid (passE t ps m = 0) := hE1.out.trans (if_neg (by omega))
    have hm0 : 1 ≤ m := by omega
    have hm1 : ¬ 1073741824 - t < m := hr2
    have hm2 : t + m ≤ 1073741824 := by omega
    have hm3 : 0 ≤ t + m := by omega
    go_wp2_with fail
    refine hck.mono ?_
    rintro e w1 ⟨rfl, hb1⟩
    have hT1 := hT0.later hb1
    clear b0 b1 s0 s1 zs0 zs1 hb1 hck hE1
    have b0 : w1.cell? ⟨w.heap.size, 0, none⟩ = some (.int .i64 t) := (box_cells hT1.hb).1 0
    have b1 : w1.cell? ⟨w.heap.size, 1, none⟩ = some (.slice x n c) := (box_cells hT1.hb).1 1
    have s0 : w1.cell? ⟨w.heap.size + 1, 0, none⟩ = some (.int .i64 0) := (box_cells hT1.hs).1 0
    have s1 : w1.cell? ⟨w.heap.size + 1, 1, none⟩ = some (.slice none 0 0) := (box_cells hT1.hs).1 1
    have zs0 : w1.frozen? ⟨w.heap.size + 1, 0, none⟩ = false := (box_cells hT1.hs).2 0
    have zs1 : w1.frozen? ⟨w.heap.size + 1, 1, none⟩ = false := (box_cells hT1.hs).2 1
    go_wp2_with fail
    refine (within_at m 1 (1073741824 - t) true hwt _).mono ?_
    rintro e w1 ⟨rfl, rfl⟩
    clear hwt
    go_wp2_with fail
    refine (ownBook_any t x n c ps w1 (hk.later hT1.below) (by omega)).mono ?_
    rintro e w5 ⟨v5, qs, rfl, hs, hOB, hb5⟩
    have hql : Hid (qs.length = n) := hs.1.symm.trans hpl.out
    obtain ⟨xq, capq, rfl, hq1, hq2, -, -⟩ := hOB.row.mem
    clear b0 b1 s0 s1 zs0 zs1
    go_upto_region 7 with fail
    obtain ⟨w6, hw6⟩ : ∃ w6, w6 = w5.alloc (bkV t (.slice xq qs.length capq)) := ⟨_, rfl⟩
    rw [← hw6]
    have hT6 : TC w w6 t (.slice x n c) := by rw [hw6]; exact (hT1.later hb5).later (bl1 _ _)
    have hn6 : w6.heap[w5.heap.size]? = some (bkV t (.slice xq qs.length capq)) := by rw [hw6]; exact heap_new _ rfl
    have hOB6 : OBk w6 w1.heap.size (.slice xq qs.length capq) qs qs.length := by
      rw [hw6]
      exact hOB.later (bl1 _ _)
    have hs6 : w1.heap.size ≤ w6.heap.size := by rw [hw6]; have := hb5.size; simp; omega
    have hsz1 : w.heap.size + 1 < w1.heap.size := (Array.getElem?_eq_some_iff.1 hT1.hs).1
    have hnb : w.heap.size + 1 < w5.heap.size := by have := hb5.size; omega
    clear hw6 hOB hb5
    have b0 : w6.cell? ⟨w.heap.size, 0, none⟩ = some (.int .i64 t) := (box_cells hT6.hb).1 0
    have m0 : w6.cell? ⟨w5.heap.size, 0, none⟩ = some (.int .i64 t) := (box_cells hn6).1 0
    have zm0 : w6.frozen? ⟨w5.heap.size, 0, none⟩ = false := (box_cells hn6).2 0
    go_upto_region 8 with fail
    obtain ⟨w7, hw7⟩ : ∃ w7, w7 = w6.setCell ⟨w5.heap.size, 0, none⟩ (.int .i64 (t + m)) := ⟨_, rfl⟩
    rw [← hw7]
    have hI0 : PassInv w w7 t (t + m) (.slice x n c) w1.heap.size w5.heap.size xq capq qs 0 := by
      rw [hw7]
      refine ⟨by omega, hT6.put hnb, ?_, by simpa using hs6, qs, hOB6.putBox hn6 (by decide) (by decide), rfl, fun j hj => ⟨fun h => by omega, fun _ => rfl⟩⟩
      have := heap_setCell_same w6 w5.heap.size 0 _ _ (.int .i64 (t + m)) hn6
      simpa [bkV] using this
    clear hw7 m0 zm0 hT6 hn6 hOB6 hs6 b0
    have m1 : w7.cell? ⟨w5.heap.size, 1, none⟩ = some (.slice xq qs.length capq) := (box_cells hI0.nx).1 1
    have hq8 : qs.length ≤ 8 := by rw [hql.out]; exact hn8
    go_wp2
    go_loopw [8] (fun i wr => ∃ k : Nat, i = .int .i64 k ∧ PassInv w wr t (t + m) (.slice x n c) w1.heap.size w5.heap.size xq capq qs k) (fun i _ => qs.length - (intOf i).toNat)
    case atStart => exact ⟨0, rfl, hI0⟩
    case round =>
      obtain ⟨k, rfl, hI⟩ := hrel
      clear m1 hI0
      have hkn := hI.kn
      have hT7 := hI.tc
      have hs7 := hI.size
      obtain ⟨rs, hOBr, hpt⟩ := hI.rs
      have m0 : wr.cell? ⟨w5.heap.size, 0, none⟩ = some (.int .i64 (t + m)) := (box_cells hI.nx).1 0
      have m1 : wr.cell? ⟨w5.heap.size, 1, none⟩ = some (.slice xq qs.length capq) := (box_cells hI.nx).1 1
      by_cases hlt : k < qs.length
      · have hkr : k < rs.length := by rw [hpt.1]; exact hlt
        obtain ⟨g, rfl⟩ : ∃ g, xq = some ⟨g, 0, none⟩ := by
          rcases hOBr.row.2 with ⟨hv, h0⟩ | ⟨g, cap, cur, hv, -⟩
          · simp only [Value.slice.injEq] at hv; omega
          · simp only [Value.slice.injEq] at hv; exact ⟨g, hv.1⟩
        have hrq := (hpt.2 k hlt).2 (Nat.le_refl _)
        have hcp := chk_pool hc0 k (by rw [hs.1]; exact hlt)
        have hsp := hs.2 k (by rw [hs.1]; exact hlt)
        have hrn : (poAt rs k).n ≤ 64 := by rw [hrq, ← hsp.2.2.2.2.2.2.2.2.1]; omega
        obtain ⟨hLS, hll, hnc, -⟩ := (hOBr.own k hkr).ls
        have hll' : Hid ((poAt rs k).ls.length = (poAt rs k).n) := hll
        obtain ⟨c8, -⟩ := hOBr.row.cell8 k hkr
        have hkn2 : (k : Int) < qs.length := by omega
        have hk0 : (0 : Int) ≤ k := by omega
        have hk8 : (k : Int) < 8 := by omega
        have hnx := hI.nx
        have hHs : Hid (PassTo (t + m) qs k rs) := hpt
        clear hrq hsp hcp hI hpt hll
        obtain ⟨wo, rfl⟩ : ∃ wo, wo = wr := ⟨_, rfl⟩
        go_wp2
        go_loopw [10, 9] (fun kk vv wr => ∃ (j : Nat) (es : List Le), kk = .int .i64 j ∧ j ≤ (poAt rs k).n ∧ Below wo.heap.size wo wr ∧ OwnL wr wo.heap.size vv es ∧ Hid (es = passL (t + m) ((poAt rs k).ls.take j))) (fun kk _ _ => (poAt rs k).n - (intOf kk).toNat)
        case atStart => exact ⟨0, [], rfl, by omega, Below.refl _ _, World.ownsRow_nil _ _ _ _, by unfold Hid; simp [passL]⟩
        case round =>
          obtain ⟨j, es, rfl, hjn, hB, hOv, hes⟩ := hrel
          have hnxr := heap_later hB hnx
          have hOBo := hOBr.later hB
          clear c8 m0 m1
          obtain ⟨c8, f8⟩ := hOBo.row.cell8 k hkr
          have m0 : wr.cell? ⟨w5.heap.size, 0, none⟩ = some (.int .i64 (t + m)) := (box_cells hnxr).1 0
          have m1 : wr.cell? ⟨w5.heap.size, 1, none⟩ = some (.slice (some ⟨g, 0, none⟩) qs.length capq) := (box_cells hnxr).1 1
          have hvl : Hid (es.length ≤ 64) := by
            unfold Hid
            rw [hes.out]
            exact Nat.le_trans (pass_len _ _ j) (by omega)
          by_cases hltj : j < (poAt rs k).n
          · obtain ⟨b2, o2, hx2, e0, e1, e2, e3, e4⟩ := (hLS.later hB).cells j hltj
            rw [hx2] at c8
            have hj0 : (0 : Int) ≤ j := by omega
            have hjn2 : (j : Int) < (poAt rs k).n := by omega
            have hltj' : Hid (j < (poAt rs k).n) := hltj
            have hstep : Hid (passL (t + m) ((poAt rs k).ls.take (j + 1)) = passL (t + m) ((poAt rs k).ls.take j) ++ (if cooled (t + m) (leAt (poAt rs k).ls j) = true then [] else [leAt (poAt rs k).ls j])) := pass_next (by rw [hll'.out]; exact hltj)
            clear hltj
            go_upto_region 16 with fail
            obtain ⟨e, he⟩ : ∃ e, Hid (e = leAt (poAt rs k).ls j) := ⟨_, rfl⟩
            rw [← he.out] at e0 e1 e2 e3 e4 hstep
            rw [← he.out]
            obtain ⟨wl, hwl⟩ : ∃ wl, wl = wr.alloc (leO e) := ⟨_, rfl⟩
            rw [show wr.alloc (.cells #[.int .i64 e.a, .int .i64 e.l, .int .i64 e.kd, .int .i64 e.ow, .int .i64 e.un] 49) = wl from hwl.symm]
            have hBl : Below wr.heap.size wr wl := by rw [hwl]; exact bl1 _ _
            have hvb : wl.heap[wr.heap.size]? = some (leO e) := by rw [hwl]; exact heap_new _ rfl
            have m0' := cell_later_add hBl m0
            clear hwl m0 m1 c8 e0 e1 e2 e3 e4 f8
            have l0 : wl.cell? ⟨wr.heap.size, 0, none⟩ = some (.int .i64 e.a) := (box_cells hvb).1 0
            have l1 : wl.cell? ⟨wr.heap.size, 1, none⟩ = some (.int .i64 e.l) := (box_cells hvb).1 1
            have l2 : wl.cell? ⟨wr.heap.size, 2, none⟩ = some (.int .i64 e.kd) := (box_cells hvb).1 2
            have l3 : wl.cell? ⟨wr.heap.size, 3, none⟩ = some (.int .i64 e.ow) := (box_cells hvb).1 3
            have l4 : wl.cell? ⟨wr.heap.size, 4, none⟩ = some (.int .i64 e.un) := (box_cells hvb).1 4
            have hBsz := hB.size
            have hBls := hBl.size
            by_cases hkd : e.kd = 3
            · rw [hkd] at l2
              by_cases hun : t + m < e.un
              · have hst2 : Hid (cooled (t + m) e = false) := by
                  unfold Hid cooled
                  have : decide (e.un ≤ t + m) = false := by simp; omega
                  rw [this]; simp
                go_wp2_with (at_builtin; refine Hid.out ?_)
                unfold Hid
                refine wpList_append_L rfl _ _ rfl wo.heap.size _ _ rfl ((hOv.later hBl).later (bl1 _ _)) ⟨wl.heap.size, 0, none⟩ 1 1 [e] rfl rfl ?_ (by simp; have := hvl.out; omega) (by simp; omega) ?_
                · intro j u hj
                  have hn := heap_new (W := wl) (.cells #[.int .i64 e.a, .int .i64 e.l, .int .i64 3, .int .i64 e.ow, .int .i64 e.un] 49) rfl
                  rw [addr_add, Nat.zero_add]
                  exact ((box_cells hn).1 j).trans (by rw [List.getElem?_toArray]; rw [← hj, ← hkd]; rfl)
                intro v' w' hO' hg'
                have hB' : Below wo.heap.size wo w' := below_grownr (hB.trans ((hBl.trans ((bl1 _ _).mono hBl.size)).mono hB.size)) hg' (fun k e => (hOv.lt k e).1)
                go_wp2
                go_roundw
                case rel => exact ⟨j + 1, _, by go_num, hltj'.out, hB', hO', by unfold Hid; rw [hstep.out, hes.out, hst2.out]; simp⟩
                case measure => have := hltj'.out; simp [intOf]; omega
              · have hst2 : Hid (cooled (t + m) e = true) := by
                  unfold Hid cooled
                  have : decide (e.un ≤ t + m) = true := by simp; omega
                  rw [this, hkd]; rfl
                have hun2 : ¬ e.un > t + m := hun
                go_wp2
                go_roundw
                case rel => exact ⟨j + 1, es, by go_num, hltj'.out, hB.trans (hBl.mono hB.size), hOv.later hBl, by unfold Hid; rw [hstep.out, hes.out, hst2.out]; simp⟩
                case measure => have := hltj'.out; simp [intOf]; omega
            · have hst2 : Hid (cooled (t + m) e = false) := by
                unfold Hid cooled
                have : (e.kd == 3) = false := by simpa using hkd
                rw [this]; simp
              have hkb : (e.kd == 3) = false := by simpa using hkd
              go_wp2_with (at_builtin; refine Hid.out ?_)
              unfold Hid
              refine wpList_append_L rfl _ _ rfl wo.heap.size _ _ rfl ((hOv.later hBl).later (bl1 _ _)) ⟨wl.heap.size, 0, none⟩ 1 1 [e] rfl rfl ?_ (by simp; have := hvl.out; omega) (by simp; omega) ?_
              · intro j u hj
                have hn := heap_new (W := wl) (.cells #[.int .i64 e.a, .int .i64 e.l, .int .i64 e.kd, .int .i64 e.ow, .int .i64 e.un] 49) rfl
                rw [addr_add, Nat.zero_add]
                exact ((box_cells hn).1 j).trans (by rw [List.getElem?_toArray]; exact hj)
              intro v' w' hO' hg'
              have hB' : Below wo.heap.size wo w' := below_grownr (hB.trans ((hBl.trans ((bl1 _ _).mono hBl.size)).mono hB.size)) hg' (fun k e => (hOv.lt k e).1)
              go_wp2
              go_roundw
              case rel => exact ⟨j + 1, _, by go_num, hltj'.out, hB', hO', by unfold Hid; rw [hstep.out, hes.out, hst2.out]; simp⟩
              case measure => have := hltj'.out; simp [intOf]; omega
          · have hnj : ¬ (j : Int) < (poAt rs k).n := by omega
            have hall : Hid (es = passL (t + m) (poAt rs k).ls) := by
              unfold Hid
              rw [hes.out, List.take_of_length_le (by rw [hll'.out]; omega)]
            obtain ⟨xv, cv, rfl, -⟩ := hOv.mem
            obtain ⟨hbg, cur8, hg8⟩ := hOBo.row.block
            have hfin := hOBr.swap (i := k) hkr hB hOv hs7
            have hstep : PassTo (t + m) qs (k + 1) _ := PassTo.step (x := xv) (c := cv) hHs.out hkr
            have hK9 : Kept w1.heap.size wo (wr.setCell ⟨g, k * 9 + 8, none⟩ (.slice xv es.length cv)) := (Kept.of_below hB hs7).trans (Kept.of_grown (set_grown _ _ _ _) hbg (Nat.le_trans hs7 hB.size) hg8 (.inl rfl))
            have hI9 : PassInv w (wr.setCell ⟨g, k * 9 + 8, none⟩ (.slice xv es.length cv)) t (t + m) (.slice x n c) w1.heap.size w5.heap.size (some ⟨g, 0, none⟩) capq qs (k + 1) := by
              refine ⟨hlt, hT7.kept hK9 hT1.below.size, hK9.box _ _ _ hnx (by decide) (by decide), Nat.le_trans hs7 hK9.size, _, hfin, ?_⟩
              rw [hall.out]
              exact hstep
            clear hstep hfin hK9
            go_wp2
            go_roundw
            case rel => exact ⟨k + 1, by go_num, hI9⟩
            case measure => simp [intOf]; omega
      · have hne : ¬ (k : Int) < qs.length := by omega
        have hkq : Hid (k = qs.length) := by unfold Hid; omega
        have s0 : wr.cell? ⟨w.heap.size + 1, 0, none⟩ = some (.int .i64 0) := (box_cells hT7.hs).1 0
        have s1 : wr.cell? ⟨w.heap.size + 1, 1, none⟩ = some (.slice none 0 0) := (box_cells hT7.hs).1 1
        have zs0 : wr.frozen? ⟨w.heap.size + 1, 0, none⟩ = false := (box_cells hT7.hs).2 0
        have zs1 : wr.frozen? ⟨w.heap.size + 1, 1, none⟩ = false := (box_cells hT7.hs).2 1
        have hp2 : Hid (PassTo (t + m) qs qs.length rs) := by
          have := hpt
          rw [hkq.out] at this
          exact this
        clear hpt hI
        go_wp2
        refine bodyPost_ret (v := .tuple #[.agg #[.int .i64 (t + m), .slice xq qs.length capq], .int .i64 0]) (by simp [results, Try.results10, go_sem, s0, s1]) rfl ?_
        have hfin := (hT7.below.setCell (p := ⟨w.heap.size + 1, 0, none⟩) (Nat.le_add_right _ _) (.int .i64 (t + m))).setCell (p := ⟨w.heap.size + 1, 1, none⟩) (Nat.le_add_right _ _) (.slice xq qs.length capq)
        have hob := ((hOBr.put (o := 0) (u := .int .i64 (t + m)) hsz1).put (o := 1) (u := .slice xq qs.length capq) hsz1).low hT1.below.size
        exact ⟨_, _, t + m, by rw [hE0.out], hfin, hob, fun h => absurd hE0.out h, fun _ => ⟨rfl, qs, hs, hp2.out⟩⟩
  · have hne : Hid (passE t ps m = chkB t ps ∧ chkB t ps ≠ 0) := ⟨if_pos hc0, hc0⟩
    go_wp2_with fail
    refine hck.mono ?_
    rintro e w1 ⟨rfl, hb1⟩
    have hT1 := hT0.later hb1
    clear b0 b1 s0 s1 zs0 zs1 hck hb1
    have b0 : w1.cell? ⟨w.heap.size, 0, none⟩ = some (.int .i64 t) := (box_cells hT1.hb).1 0
    have b1 : w1.cell? ⟨w.heap.size, 1, none⟩ = some (.slice x n c) := (box_cells hT1.hb).1 1
    have s0 : w1.cell? ⟨w.heap.size + 1, 0, none⟩ = some (.int .i64 0) := (box_cells hT1.hs).1 0
    have s1 : w1.cell? ⟨w.heap.size + 1, 1, none⟩ = some (.slice none 0 0) := (box_cells hT1.hs).1 1
    have zs0 : w1.frozen? ⟨w.heap.size + 1, 0, none⟩ = false := (box_cells hT1.hs).2 0
    have zs1 : w1.frozen? ⟨w.heap.size + 1, 1, none⟩ = false := (box_cells hT1.hs).2 1
    go_wp2
    refine bodyPost_ret (v := .tuple #[.agg #[.int .i64 0, .slice none 0 0], .int .i64 (chkB t ps)]) (by simp [results, Try.results10, go_sem, s0, s1]) rfl ?_
    exact BkPost.err hne.out ((hT1.below.setCell (p := ⟨w.heap.size + 1, 0, none⟩) (Nat.le_add_right _ _) _).setCell (p := ⟨w.heap.size + 1, 1, none⟩) (Nat.le_add_right _ _) _)
end Go.Proofs.Ytpdoonkhnabfjaa
/- What Close and CloseOf, Pass and PassOf make is the same. -/
namespace Go.Proofs.Ytpdoonkhnabfjaa
open Go.RowKit Go.Shelf

theorem sameP.symm {p q : Po} (h : sameP p q) : sameP q p := by
  obtain ⟨h0, h1, h2, h3, h4, h5, h6, h7, h8, h9⟩ := h
  exact ⟨h0.symm, h1.symm, h2.symm, h3.symm, h4.symm, h5.symm, h6.symm, h7.symm, h8.symm, h9.symm⟩
theorem sameP.trans {p q r : Po} (h : sameP p q) (g : sameP q r) : sameP p r := by
  obtain ⟨h0, h1, h2, h3, h4, h5, h6, h7, h8, h9⟩ := h
  obtain ⟨g0, g1, g2, g3, g4, g5, g6, g7, g8, g9⟩ := g
  exact ⟨h0.trans g0, h1.trans g1, h2.trans g2, h3.trans g3, h4.trans g4, h5.trans g5, h6.trans g6, h7.trans g7, h8.trans g8, h9.trans g9⟩
theorem sameB.symm {ps qs : List Po} (h : sameB ps qs) : sameB qs ps := ⟨h.1.symm, fun i hi => (h.2 i (by rw [h.1]; exact hi)).symm⟩
theorem sameB.trans {ps qs rs : List Po} (h : sameB ps qs) (g : sameB qs rs) : sameB ps rs := ⟨h.1.trans g.1, fun i hi => (h.2 i hi).trans (g.2 i (by rw [← h.1]; exact hi))⟩
theorem sameP.withL {p q : Po} (h : sameP p q) {x x' : Option Addr} {c c' n : Nat} {ls : List Le} : sameP (Go.Proofs.Ytpdoonkhnabfjaa.withL p x n c ls) (Go.Proofs.Ytpdoonkhnabfjaa.withL q x' n c' ls) := by
  obtain ⟨h0, h1, h2, h3, h4, h5, h6, h7, h8, h9⟩ := h
  exact ⟨h0, h1, h2, h3, h4, h5, h6, h7, rfl, rfl⟩
theorem sameB.set2 {qs rs : List Po} {i : Nat} {p q : Po} (h : sameB qs rs) (hi : i < qs.length) (hp : sameP p q) : sameB (qs.set i p) (rs.set i q) := by
  have hr : i < rs.length := by rw [← h.1]; exact hi
  refine ⟨by rw [List.length_set, List.length_set]; exact h.1, fun j hj => ?_⟩
  rw [List.length_set] at hj
  rw [poAt_set hi, poAt_set hr]
  by_cases hij : i = j
  · rw [if_pos hij, if_pos hij]; exact hp
  · rw [if_neg hij, if_neg hij]; exact h.2 j hj
theorem sameB.del {qs rs : List Po} {i : Nat} (h : sameB qs rs) (hi : i < qs.length) : sameB (qs.take i ++ qs.drop (i + 1)) (rs.take i ++ rs.drop (i + 1)) := by
  have hr : i < rs.length := by rw [← h.1]; exact hi
  have h1 := h.1
  have hl : (qs.take i ++ qs.drop (i + 1)).length = qs.length - 1 := by simp; omega
  refine ⟨by rw [hl]; simp; omega, fun j hj => ?_⟩
  rw [poAt_del hi, poAt_del hr]
  rw [hl] at hj
  by_cases hij : j < i
  · rw [if_pos hij, if_pos hij]; exact h.2 j (by omega)
  · rw [if_neg hij, if_neg hij]; exact h.2 (j + 1) (by omega)
theorem split_at {ls : List Le} {j : Nat} (hj : j < ls.length) : ls = ls.take j ++ leAt ls j :: ls.drop (j + 1) := by
  have h : leAt ls j = ls[j] := by unfold leAt; rw [List.getD_eq_getElem?_getD, List.getElem?_eq_getElem hj]; rfl
  rw [h, List.getElem_cons_drop, List.take_append_drop]
theorem others_at {ls : List Le} {a l : Int} {j : Nat} (h : Used (lp ls) a l) (hj : j < ls.length) : ∀ e ∈ ls.take j ++ ls.drop (j + 1), e.a ≠ (leAt ls j).a := by
  intro e he hea
  have hr := h.rise
  unfold lp at hr
  rw [List.pairwise_map, List.pairwise_iff_getElem] at hr
  rw [leAt_eq hj] at hea
  rcases List.mem_append.1 he with h1 | h1
  · obtain ⟨k, hk, rfl⟩ := List.mem_iff_getElem.1 h1
    rw [List.length_take] at hk
    have := hr k j (by omega) hj (by omega)
    simp only at this
    rw [List.getElem_take] at hea
    have hs := sp_pos (ls[k]'(by omega)).l
    omega
  · obtain ⟨k, hk, rfl⟩ := List.mem_iff_getElem.1 h1
    rw [List.length_drop] at hk
    have := hr j (j + 1 + k) hj (by omega) (by omega)
    simp only at this
    rw [List.getElem_drop] at hea
    have hs := sp_pos (ls[j]).l
    omega
theorem fm_self {f : Le → Option Le} : ∀ {l : List Le}, (∀ e ∈ l, f e = some e) → l.filterMap f = l
  | [], _ => rfl
  | e :: l, h => by
    rw [List.filterMap_cons, h e (by simp)]
    simp only
    rw [fm_self fun x hx => h x (by simp [hx])]
theorem back_cools {p : Po} {a l t A L : Int} {j : Nat} (hU : Used (lp p.ls) A L) (hj : j < p.ls.length) (ha : (leAt p.ls j).a = a) (hl : (leAt p.ls j).l = l) : backL p a l t = coolL p j t := by
  have ho := others_at hU hj
  have h1 : (p.ls.take j).filterMap (backE p.co a l t) = p.ls.take j := fm_self fun e he => back_no1 (by rw [← ha]; exact ho e (List.mem_append.2 (.inl he)))
  have h2 : (p.ls.drop (j + 1)).filterMap (backE p.co a l t) = p.ls.drop (j + 1) := fm_self fun e he => back_no1 (by rw [← ha]; exact ho e (List.mem_append.2 (.inr he)))
  have hb : backL p a l t = p.ls.take j ++ (leAt p.ls j :: p.ls.drop (j + 1)).filterMap (backE p.co a l t) := by
    unfold backL
    conv => lhs; rw [split_at hj]
    rw [List.filterMap_append, h1]
  rw [hb, List.filterMap_cons]
  unfold coolL
  by_cases hco : p.co = 0
  · rw [back_gone ha hl hco, if_pos hco]
    simp only
    rw [h2]
  · rw [back_cool ha hl hco, if_neg hco]
    simp only
    rw [h2, ha, hl, List.set_eq_take_append_cons_drop, if_pos hj]
theorem atId_self {ps : List Po} (h : idsB ps.length ps = true) {i : Nat} (hi : i < ps.length) : atId ps (poAt ps i).id = i := by
  refine atId_yes hi rfl fun j hj he => ?_
  have := ids_lt h j (i - j - 1) (by omega)
  rw [show j + (i - j - 1) + 1 = i by omega] at this
  omega
theorem root_of {t : Int} {ps : List Po} {i k j : Nat} (hc : chkB t ps = 0) (hF : Full ps) (hi : i < ps.length) (hk : atId ps (poAt ps i).up = k) (hj : j < (poAt ps k).n) (hf : firstAt (poAt ps k).n (forB (poAt ps k).ls (poAt ps i).id) = j) :
    (leAt (poAt ps k).ls j).a = (poAt ps i).a ∧ (leAt (poAt ps k).ls j).l = (poAt ps i).l := by
  obtain ⟨-, -, hids, -, hp⟩ := chk_ok hc
  obtain ⟨hkl, -, -⟩ := atId_first hk
  obtain ⟨-, -, -, hles⟩ := pool_ok (hp k hkl)
  have hle := (les_mem (hF k hkl)).1 hles _ (leAt_mem (by rw [hF k hkl]; exact hj))
  have hfor : forB (poAt ps k).ls (poAt ps i).id j = true := by
    rcases firstAt_any (n := (poAt ps k).n) (f := forB (poAt ps k).ls (poAt ps i).id) with ⟨-, j2, -, h2, -, h3⟩ | ⟨-, -, h3⟩
    · obtain rfl : j = j2 := by omega
      exact h2
    · omega
  unfold forB at hfor
  simp only [Bool.and_eq_true, beq_iff_eq] at hfor
  have hat : atId ps (leAt (poAt ps k).ls j).ow = i := by rw [hfor.2]; exact atId_self hids hi
  rw [le_2 hfor.1 hat] at hle
  unfold le2 at hle
  simp only [Bool.and_eq_true, decide_eq_true_eq] at hle
  exact ⟨hle.1.2.1.symm, hle.1.2.2.symm⟩
theorem close_same {t : Int} {ps rs rs' : List Po} {i : Nat} (hc : chkB t ps = 0) (hF : Full ps) (hi : i < ps.length) (h1 : CloseAt t ps i rs) (h2 : Close2At t ps i rs') : sameB rs rs' := by
  obtain ⟨qs, a1, a2, rfl⟩ := h1
  obtain ⟨qs', b1, b2, rfl⟩ := h2
  have key : sameB qs qs' ∧ qs.length = ps.length := by
    by_cases hn : atId ps (poAt ps i).up < 0
    · exact ⟨(a1 hn).symm.trans (b1 hn), (a1 hn).1.symm⟩
    · obtain ⟨k, hkl, hk, -⟩ := atId_range hn
      obtain ⟨j, hj, hf⟩ := up_has hc hi hk
      obtain ⟨q1, x1, c1, s1, rfl⟩ := a2 k hk
      obtain ⟨q2, x2, c2, s2, rfl⟩ := b2 k hk
      obtain ⟨r1, r2⟩ := root_of hc hF hi hk hj hf
      have hcb := back_cools (t := t) (used_mem hc k hkl) (by rw [hF k hkl]; exact hj) r1 r2
      rw [hf, Int.toNat_natCast, hcb]
      refine ⟨(s1.symm.trans s2).set2 (by rw [← s1.1]; exact hkl) ((s1.2 k hkl).symm.trans (s2.2 k hkl)).withL, by rw [List.length_set]; exact s1.1.symm⟩
  exact key.1.del (by rw [key.2]; exact hi)
theorem pass_same {T : Int} {ps qs qs' rs rs' : List Po} (s1 : sameB ps qs) (s2 : sameB ps qs') (h1 : PassTo T qs qs.length rs) (h2 : PassTo T qs' qs'.length rs') : sameB rs rs' := by
  have s := s1.symm.trans s2
  refine ⟨by rw [h1.1, h2.1]; exact s.1, fun j hj => ?_⟩
  rw [h1.1] at hj
  have hj' : j < qs'.length := by rw [← s.1]; exact hj
  obtain ⟨x1, c1, e1⟩ := (h1.2 j hj).1 hj
  obtain ⟨x2, c2, e2⟩ := (h2.2 j hj').1 hj'
  have hls : (poAt qs j).ls = (poAt qs' j).ls := (s.2 j hj).2.2.2.2.2.2.2.2.2
  rw [e1, e2, hls]
  exact (s.2 j hj).withL
end Go.Proofs.Ytpdoonkhnabfjaa
/- What SameBooks of the reference says of two books that are the same. -/
namespace Go.Proofs.Ytpdoonkhnabfjaa
open Go.RowKit Go.Shelf

theorem lease_struct : Try.prog.underlying 49 = some (.struct (Try.prog.fieldsOf 49)) := by kernel_rfl
theorem lease_held : Try.prog.stoodInHeld 49 = false := by kernel_rfl
theorem lease_guard : Try.prog.eqGuardType Try.prog.depth 49 = false := by kernel_rfl
theorem guard_lease (op : BinOp) (x y : Operand) (p q : Array Value) (w : World) : (eqGuard op 49 x y (.agg p) (.agg q)).run Try.prog w = .ok () w := by
  have h := lease_guard
  unfold eqGuard
  cases op <;> simp [go_sem, h]
theorem neq_lease_same (a l k o u : Int) (w : World) : (binOp .neq 49 (.agg #[.int .i64 a, .int .i64 l, .int .i64 k, .int .i64 o, .int .i64 u]) (.agg #[.int .i64 a, .int .i64 l, .int .i64 k, .int .i64 o, .int .i64 u])).run Try.prog w = .ok (.bool false) w := by
  rw [run_neq_struct, show (10000 : Nat) = 9999 + 1 from rfl, run_equalIn_agg w 9999 _ _ _ lease_struct lease_held]
  simp only [Program.fieldsOf, Try.underlying49]
  go_simp
theorem quiet_neqL {ops : Array Oper} {C : World → Prop} {Q : Act → Prop} {A : Act} {o : Oper} {rest : List Oper} (x y : Operand) (t : TypeId) (a l k ow u : Int) (hop : o.op = .binOp .neq 49 x y t) (hg : Region.wanted o (yielded ops A.tmps) = true)
    (hx : A.eval x = .agg #[.int .i64 a, .int .i64 l, .int .i64 k, .int .i64 ow, .int .i64 u]) (hy : A.eval y = .agg #[.int .i64 a, .int .i64 l, .int .i64 k, .int .i64 ow, .int .i64 u]) (h : wpQuiet Try.prog ops C Q rest (A.put o.dst (.bool false))) : wpQuiet Try.prog ops C Q (o :: rest) A := by
  unfold wpQuiet
  rw [if_pos hg]
  refine ⟨_, fun w _ => ?_, h⟩
  unfold Oper.quietAt execOp
  rw [hop]
  simp only [hx, hy, Sem.run_bind, guard_lease, neq_lease_same, Result.andThen_ok, Sem.run_pure]
  exact ⟨rfl, rfl⟩

/-- The boxes of the two books. -/
structure TB2 (w W : World) (t : Int) (v v2 : Value) : Prop where
  ha : W.heap[w.heap.size]? = some (bkV t v)
  hb : W.heap[w.heap.size + 1]? = some (bkV t v2)
  below : Below w.heap.size w W
theorem TB2.later {w W W' : World} {t : Int} {v v2 : Value} (h : TB2 w W t v v2) (hb : Below W.heap.size W W') : TB2 w W' t v v2 :=
  ⟨heap_later hb h.ha, heap_later hb h.hb, h.below.trans (hb.mono h.below.size)⟩

set_option maxRecDepth 100000 in
set_option maxHeartbeats 6400000 in
theorem sameBooks_yes (t : Int) (x y : Option Addr) (n c d : Nat) (ps qs : List Po) (w : World) (hp : PoS w x n ps) (hq : PoS w y n qs) (hs : sameB ps qs) (hn : n ≤ 64) :
    Calls Try.prog 12 #[.agg #[.int .i64 t, .slice x n c], .agg #[.int .i64 t, .slice y n d]] w fun e w' => e = .returned (.bool true) ∧ Below w.heap.size w w' := by
  have hs' : Hid (sameB ps qs) := hs
  have hpl : Hid (ps.length = n) := hp.len
  clear hs
  go_enter Try.func12, Try.ntmps12
  go_upto_region 1 with fail
  obtain ⟨w0, hw0⟩ : ∃ w0, w0 = (w.alloc (bkV t (.slice x n c))).alloc (bkV t (.slice y n d)) := ⟨_, rfl⟩
  rw [show (w.alloc (.cells #[.int .i64 t, .slice x n c] 24)).alloc (.cells #[.int .i64 t, .slice y n d] 24) = w0 from hw0.symm]
  have hT0 : TB2 w w0 t (.slice x n c) (.slice y n d) := by rw [hw0]; exact ⟨heap_old _ (heap_new _ rfl), heap_new _ (by simp), bl2 w _ _⟩
  clear hw0
  have a0 : w0.cell? ⟨w.heap.size, 0, none⟩ = some (.int .i64 t) := (box_cells hT0.ha).1 0
  have a1 : w0.cell? ⟨w.heap.size, 1, none⟩ = some (.slice x n c) := (box_cells hT0.ha).1 1
  have d0 : w0.cell? ⟨w.heap.size + 1, 0, none⟩ = some (.int .i64 t) := (box_cells hT0.hb).1 0
  have d1 : w0.cell? ⟨w.heap.size + 1, 1, none⟩ = some (.slice y n d) := (box_cells hT0.hb).1 1
  go_wp2
  clear a0 a1 d0 d1
  go_loopw [5] (fun i wr => ∃ k : Nat, i = .int .i64 k ∧ k ≤ n ∧ TB2 w wr t (.slice x n c) (.slice y n d)) (fun i _ => n - (intOf i).toNat)
  case atStart => exact ⟨0, rfl, by omega, hT0⟩
  case round =>
    clear hT0
    obtain ⟨k, rfl, hkn, hT⟩ := hrel
    have a1 : wr.cell? ⟨w.heap.size, 1, none⟩ = some (.slice x n c) := (box_cells hT.ha).1 1
    have d1 : wr.cell? ⟨w.heap.size + 1, 1, none⟩ = some (.slice y n d) := (box_cells hT.hb).1 1
    by_cases hlt : k < n
    · obtain ⟨b, o, rfl, c0, c1, c2, c3, c4, c5, c6, c7, c8⟩ := (hp.later hT.below).cells k hlt
      obtain ⟨b2, o2, rfl, e0, e1, e2, e3, e4, e5, e6, e7, e8⟩ := (hq.later hT.below).cells k hlt
      obtain ⟨hlc, hlm, hLS⟩ := (hp.later hT.below).leases k hlt
      obtain ⟨hmc, hmm, hMS⟩ := (hq.later hT.below).leases k hlt
      obtain ⟨s0, s1, s2, s3, s4, s5, s6, s7, s8, s9⟩ := hs'.out.2 k (by rw [hpl.out]; exact hlt)
      rw [← s0] at e0
      rw [← s1] at e1
      rw [← s2] at e2
      rw [← s3] at e3
      rw [← s4] at e4
      rw [← s5] at e5
      rw [← s6] at e6
      rw [← s7] at e7
      rw [← s8] at e8
      rw [← s8, ← s9] at hMS
      have hk0 : (0 : Int) ≤ k := by omega
      have hkn2 : (k : Int) < n := by omega
      have hlth : Hid (k < n) := hlt
      clear hlt s0 s1 s2 s3 s4 s5 s6 s7 s8 s9
      go_upto_region 6 with fail
      go_cut [6, 7] (fun p q wc => ∃ bp bq, p = .pointer (some ⟨bp, 0, none⟩) ∧ q = .pointer (some ⟨bq, 0, none⟩) ∧ wc.heap[bp]? = some (poB (poAt ps k)) ∧ wc.heap[bq]? = some (.cells #[.int .i64 (poAt ps k).id, .int .i64 (poAt ps k).up, .int .i64 (poAt ps k).a, .int .i64 (poAt ps k).l, .int .i64 (poAt ps k).mn, .int .i64 (poAt ps k).mx, .int .i64 (poAt ps k).us, .int .i64 (poAt ps k).co, .slice (poAt qs k).x (poAt ps k).n (poAt qs k).c] 45) ∧ Below wr.heap.size wr wc)
      case first =>
        go_region_held3 (fun w' => w'.cell? ⟨w.heap.size, 1, none⟩ = some (.slice (some ⟨b, o, none⟩) n c) ∧ w'.cell? ⟨w.heap.size + 1, 1, none⟩ = some (.slice (some ⟨b2, o2, none⟩) n d) ∧ w'.cell? ⟨b, o + k * 9, none⟩ = some (.int .i64 (poAt ps k).id) ∧ w'.cell? ⟨b, o + k * 9 + 1, none⟩ = some (.int .i64 (poAt ps k).up) ∧ w'.cell? ⟨b, o + k * 9 + 2, none⟩ = some (.int .i64 (poAt ps k).a) ∧ w'.cell? ⟨b, o + k * 9 + 3, none⟩ = some (.int .i64 (poAt ps k).l) ∧ w'.cell? ⟨b, o + k * 9 + 4, none⟩ = some (.int .i64 (poAt ps k).mn) ∧ w'.cell? ⟨b, o + k * 9 + 5, none⟩ = some (.int .i64 (poAt ps k).mx) ∧ w'.cell? ⟨b, o + k * 9 + 6, none⟩ = some (.int .i64 (poAt ps k).us) ∧ w'.cell? ⟨b, o + k * 9 + 7, none⟩ = some (.int .i64 (poAt ps k).co) ∧ w'.cell? ⟨b, o + k * 9 + 8, none⟩ = some (.slice (poAt ps k).x (poAt ps k).n (poAt ps k).c) ∧ w'.cell? ⟨b2, o2 + k * 9, none⟩ = some (.int .i64 (poAt ps k).id) ∧ w'.cell? ⟨b2, o2 + k * 9 + 1, none⟩ = some (.int .i64 (poAt ps k).up) ∧ w'.cell? ⟨b2, o2 + k * 9 + 2, none⟩ = some (.int .i64 (poAt ps k).a) ∧ w'.cell? ⟨b2, o2 + k * 9 + 3, none⟩ = some (.int .i64 (poAt ps k).l) ∧ w'.cell? ⟨b2, o2 + k * 9 + 4, none⟩ = some (.int .i64 (poAt ps k).mn) ∧ w'.cell? ⟨b2, o2 + k * 9 + 5, none⟩ = some (.int .i64 (poAt ps k).mx) ∧ w'.cell? ⟨b2, o2 + k * 9 + 6, none⟩ = some (.int .i64 (poAt ps k).us) ∧ w'.cell? ⟨b2, o2 + k * 9 + 7, none⟩ = some (.int .i64 (poAt ps k).co) ∧ w'.cell? ⟨b2, o2 + k * 9 + 8, none⟩ = some (.slice (poAt qs k).x (poAt ps k).n (poAt qs k).c)) (first | (go_keep; done)) (fail)
        · go_wp2
          go_meet
          case rel => exact ⟨wr.heap.size, wr.heap.size + 1, rfl, rfl, heap_old _ (heap_new _ rfl), heap_new _ (by simp), (bl2 wr _ _).drew⟩
        · go_wp2
          go_meet
          case rel => exact ⟨wr.heap.size + 1, wr.heap.size, rfl, rfl, heap_new _ (by simp), heap_old _ (heap_new _ rfl), (bl2 wr _ _).drew⟩
      case rest =>
        obtain ⟨bp, bq, rfl, rfl, hv, hu, hBc⟩ := hcut
        clear a1 d1 c0 c1 c2 c3 c4 c5 c6 c7 c8 e0 e1 e2 e3 e4 e5 e6 e7 e8
        have hTc := hT.later hBc
        have hLc := hLS.later hBc
        have hMc := hMS.later hBc
        clear hT hLS hMS hBc
        have p0 : wc.cell? ⟨bp, 0, none⟩ = some (.int .i64 (poAt ps k).id) := (box_cells hv).1 0
        have r0 : wc.cell? ⟨bq, 0, none⟩ = some (.int .i64 (poAt ps k).id) := (box_cells hu).1 0
        have p1 : wc.cell? ⟨bp, 1, none⟩ = some (.int .i64 (poAt ps k).up) := (box_cells hv).1 1
        have r1 : wc.cell? ⟨bq, 1, none⟩ = some (.int .i64 (poAt ps k).up) := (box_cells hu).1 1
        have p2 : wc.cell? ⟨bp, 2, none⟩ = some (.int .i64 (poAt ps k).a) := (box_cells hv).1 2
        have r2 : wc.cell? ⟨bq, 2, none⟩ = some (.int .i64 (poAt ps k).a) := (box_cells hu).1 2
        have p3 : wc.cell? ⟨bp, 3, none⟩ = some (.int .i64 (poAt ps k).l) := (box_cells hv).1 3
        have r3 : wc.cell? ⟨bq, 3, none⟩ = some (.int .i64 (poAt ps k).l) := (box_cells hu).1 3
        have p4 : wc.cell? ⟨bp, 4, none⟩ = some (.int .i64 (poAt ps k).mn) := (box_cells hv).1 4
        have r4 : wc.cell? ⟨bq, 4, none⟩ = some (.int .i64 (poAt ps k).mn) := (box_cells hu).1 4
        have p5 : wc.cell? ⟨bp, 5, none⟩ = some (.int .i64 (poAt ps k).mx) := (box_cells hv).1 5
        have r5 : wc.cell? ⟨bq, 5, none⟩ = some (.int .i64 (poAt ps k).mx) := (box_cells hu).1 5
        have p6 : wc.cell? ⟨bp, 6, none⟩ = some (.int .i64 (poAt ps k).us) := (box_cells hv).1 6
        have r6 : wc.cell? ⟨bq, 6, none⟩ = some (.int .i64 (poAt ps k).us) := (box_cells hu).1 6
        have p7 : wc.cell? ⟨bp, 7, none⟩ = some (.int .i64 (poAt ps k).co) := (box_cells hv).1 7
        have r7 : wc.cell? ⟨bq, 7, none⟩ = some (.int .i64 (poAt ps k).co) := (box_cells hu).1 7
        have p8 : wc.cell? ⟨bp, 8, none⟩ = some (.slice (poAt ps k).x (poAt ps k).n (poAt ps k).c) := (box_cells hv).1 8
        have r8 : wc.cell? ⟨bq, 8, none⟩ = some (.slice (poAt qs k).x (poAt ps k).n (poAt qs k).c) := (box_cells hu).1 8
        go_wp2
        clear p0 p1 p2 p3 p4 p5 p6 p7 p8 r0 r1 r2 r3 r4 r5 r6 r7 r8
        go_loopw [8] (fun i ws => ∃ j : Nat, i = .int .i64 j ∧ j ≤ (poAt ps k).n ∧ Below wc.heap.size wc ws) (fun i _ => (poAt ps k).n - (intOf i).toNat)
        case atStart => exact ⟨0, rfl, by omega, Below.refl _ _⟩
        case round =>
          obtain ⟨j, rfl, hjn, hBj⟩ := hrel
          have hv' := heap_later hBj hv
          have hu' := heap_later hBj hu
          have p8 : wr.cell? ⟨bp, 8, none⟩ = some (.slice (poAt ps k).x (poAt ps k).n (poAt ps k).c) := (box_cells hv').1 8
          have r8 : wr.cell? ⟨bq, 8, none⟩ = some (.slice (poAt qs k).x (poAt ps k).n (poAt qs k).c) := (box_cells hu').1 8
          by_cases hltj : j < (poAt ps k).n
          · obtain ⟨b3, o3, hx3, l0, l1, l2, l3, l4⟩ := (hLc.later hBj).cells j hltj
            obtain ⟨b4, o4, hx4, m0, m1, m2, m3, m4⟩ := (hMc.later hBj).cells j hltj
            rw [hx3] at p8
            rw [hx4] at r8
            have hj0 : (0 : Int) ≤ j := by omega
            have hjn2 : (j : Int) < (poAt ps k).n := by omega
            have hltjh : Hid (j < (poAt ps k).n) := hltj
            clear hltj
            go_upto_region 12 with fail
            have g0 := Ws.here p8
            have g1 := Ws.here r8
            have f0 := Ws.here l0
            have f1 := Ws.here l1
            have f2 := Ws.here l2
            have f3 := Ws.here l3
            have f4 := Ws.here l4
            have h0 := Ws.here m0
            have h1 := Ws.here m1
            have h2 := Ws.here m2
            have h3 := Ws.here m3
            have h4 := Ws.here m4
            clear p8 r8 l0 l1 l2 l3 l4 m0 m1 m2 m3 m4
            refine wp_region_ws wr.heap.size (by kernel_rfl) (by kernel_rfl) ?_
            repeat (go_big_quiet_step (fail))
            refine wpQuiet_nil ?_
            rintro _ ⟨u, rfl⟩
            have hub := hBj.trans (u.property.mono hBj.size)
            generalize u.val = wu at hub ⊢
            clear u g0 g1 f0 f1 f2 f3 f4 h0 h1 h2 h3 h4
            go_wp2
            go_roundw
            case rel => exact ⟨j + 1, by go_num, hltjh.out, hub⟩
            case measure => have := hltjh.out; simp [intOf]; omega
          · have hnj : ¬ (j : Int) < (poAt ps k).n := by omega
            have hTj := hTc.later hBj
            go_wp2
            go_roundw
            case rel => exact ⟨k + 1, by go_num, hlth.out, hTj⟩
            case measure => have := hlth.out; simp [intOf]; omega
    · have hnk : ¬ (k : Int) < n := by omega
      go_wp2
      go_ret
      exact ⟨rfl, hT.below⟩
end Go.Proofs.Ytpdoonkhnabfjaa
/- What PoolCloses comes to: it answers true. -/
namespace Go.Proofs.Ytpdoonkhnabfjaa
open Go.RowKit Go.Shelf

theorem hid_mk {p : Prop} (h : p) : Hid p := h
/-- Few pools, and few leases in each. -/
def Small (rs : List Po) : Prop := rs.length ≤ 64 ∧ ∀ j, j < rs.length → (poAt rs j).n ≤ 1048576
theorem Small.same {rs rs' : List Po} (h : Small rs) (hs : sameB rs rs') : Small rs' := ⟨by rw [← hs.1]; exact h.1, fun j hj => by
  rw [← (hs.2 j (by rw [hs.1]; exact hj)).2.2.2.2.2.2.2.2.1]
  exact h.2 j (by rw [hs.1]; exact hj)⟩
theorem Small.nil : Small [] := ⟨by simp, fun j hj => by simp at hj⟩
/-- Two books of the call's own, the same but for where they lie. -/
structure Twin (W : World) (t t' : Int) (v v' : Value) : Prop where
  tick : t = t'
  books : ∃ x y n c d ps qs, v = .slice x n c ∧ v' = .slice y n d ∧ PoS W x n ps ∧ PoS W y n qs ∧ sameB ps qs ∧ n ≤ 64
theorem Twin.later {W W' : World} {t t' : Int} {v v' : Value} (h : Twin W t t' v v') (hb : Below W.heap.size W W') : Twin W' t t' v v' := by
  obtain ⟨ht, x, y, n, c, d, ps, qs, h1, h2, h3, h4, h5, h6⟩ := h
  exact ⟨ht, x, y, n, c, d, ps, qs, h1, h2, h3.later hb, h4.later hb, h5, h6⟩
theorem Twin.of {W : World} {b b' : Nat} {t t' : Int} {v v' : Value} {rs rs' : List Po} (ht : t = t') (h : OBk W b v rs rs.length) (h' : OBk W b' v' rs' rs'.length) (hs : sameB rs rs') (hm : Small rs) : Twin W t t' v v' := by
  have hm' := hm.same hs
  obtain ⟨x, c, rfl, hB⟩ := h.bk hm.2
  obtain ⟨y, d, rfl, hB'⟩ := h'.bk hm'.2
  have hl := hs.1
  rw [← hl] at hB' ⊢
  exact ⟨ht, x, y, rs.length, c, d, rs, rs', rfl, rfl, hB.ps, hB'.ps, hs, hm.1⟩
theorem sameBooks_twin {W : World} {t t' : Int} {v v' : Value} (h : Twin W t t' v v') : Calls Try.prog 12 #[.agg #[.int .i64 t, v], .agg #[.int .i64 t', v']] W fun e w' => e = .returned (.bool true) ∧ Below W.heap.size W w' := by
  obtain ⟨rfl, x, y, n, c, d, ps, qs, rfl, rfl, h3, h4, h5, h6⟩ := h
  exact sameBooks_yes t x y n c d ps qs W h3 h4 h5 h6
theorem chk_small {t : Int} {ps : List Po} (hc : chkB t ps = 0) : Small ps := ⟨by have := (chk_ok hc).1; omega, fun j hj => by have := (chk_pool hc j hj).1; omega⟩
theorem Small.del {qs : List Po} {i : Nat} (h : Small qs) (hi : i < qs.length) : Small (qs.take i ++ qs.drop (i + 1)) := by
  have hl : (qs.take i ++ qs.drop (i + 1)).length = qs.length - 1 := by simp; omega
  refine ⟨by have := h.1; omega, fun j hj => ?_⟩
  rw [hl] at hj
  rw [poAt_del hi]
  split
  · exact h.2 j (by omega)
  · exact h.2 (j + 1) (by omega)
theorem Small.cool {ps rs : List Po} {t T : Int} {k j : Nat} (hc : chkB t ps = 0) (hF : Full ps) (hk : k < ps.length) (hj : j < (poAt ps k).n) (h : CoolAt ps k j T rs) : Small rs ∧ rs.length = ps.length := by
  obtain ⟨qs, x', c', hs, rfl⟩ := h
  have hm := (chk_small hc).same hs
  have hkq : k < qs.length := by rw [← hs.1]; exact hk
  refine ⟨⟨by rw [List.length_set]; exact hm.1, fun q hq => ?_⟩, by rw [List.length_set]; exact hs.1.symm⟩
  rw [List.length_set] at hq
  rw [poAt_set hkq]
  split
  · have h1 := cool_len (p := poAt ps k) (t := T) (j := j) (by rw [hF k hk]; exact hj)
    rw [hF k hk] at h1
    have h2 := (chk_pool hc k hk).1
    show (coolL (poAt ps k) j T).length ≤ 1048576
    omega
  · exact hm.2 q hq
theorem close_small {t : Int} {ps rs : List Po} {i : Nat} (hc : chkB t ps = 0) (hF : Full ps) (hi : i < ps.length) (h : CloseAt t ps i rs) : Small rs := by
  obtain ⟨qs, a1, a2, rfl⟩ := h
  have key : Small qs ∧ qs.length = ps.length := by
    by_cases hn : atId ps (poAt ps i).up < 0
    · exact ⟨(chk_small hc).same (a1 hn), (a1 hn).1.symm⟩
    · obtain ⟨k, hkl, hk, -⟩ := atId_range hn
      obtain ⟨j, hj, hf⟩ := up_has hc hi hk
      have h2 := a2 k hk
      rw [hf, Int.toNat_natCast] at h2
      exact Small.cool hc hF hkl hj h2
  exact key.1.del (by rw [key.2]; exact hi)
theorem close_ok {t : Int} {ps : List Po} {id : Int} (h : closeE t ps id = 0) : chkB t ps = 0 ∧ (atId ps id).toNat < ps.length := by
  unfold closeE at h
  by_cases h1 : chkB t ps = 0
  · rw [if_neg (by simp [h1])] at h
    by_cases h2 : atId ps id < 0
    · rw [if_pos h2] at h; cases h
    · obtain ⟨i, hi, he, -⟩ := atId_range h2
      exact ⟨h1, by rw [he, Int.toNat_natCast]; exact hi⟩
  · rw [if_pos h1] at h; exact absurd h h1
theorem twin_close {W : World} {b b' : Nat} {t t1 t2 id : Int} {v1 v2 : Value} {ps rs1 rs2 : List Po} (hF : Full ps) (o1 : OBk W b v1 rs1 rs1.length) (o2 : OBk W b' v2 rs2 rs2.length)
    (z1 : closeE t ps id ≠ 0 → t1 = 0 ∧ rs1 = [] ∧ v1 = .slice none 0 0) (z2 : closeE t ps id ≠ 0 → t2 = 0 ∧ rs2 = [] ∧ v2 = .slice none 0 0) (r1 : closeE t ps id = 0 → CloseR t ps id t1 rs1) (r2 : closeE t ps id = 0 → Close2R t ps id t2 rs2) : Twin W t1 t2 v1 v2 := by
  by_cases h : closeE t ps id = 0
  · obtain ⟨hc, hi⟩ := close_ok h
    obtain ⟨e1, f1⟩ := r1 h
    obtain ⟨e2, f2⟩ := r2 h
    exact Twin.of (e1.trans e2.symm) o1 o2 (close_same hc hF hi f1 f2) (close_small hc hF hi f1)
  · obtain ⟨e1, rfl, rfl⟩ := z1 h
    obtain ⟨e2, rfl, rfl⟩ := z2 h
    exact Twin.of (e1.trans e2.symm) o1 o2 (sameB.refl _) Small.nil
theorem twin_pass {W : World} {b b' : Nat} {t t1 t2 m : Int} {v1 v2 : Value} {ps rs1 rs2 : List Po} (hF : Full ps) (o1 : OBk W b v1 rs1 rs1.length) (o2 : OBk W b' v2 rs2 rs2.length)
    (z1 : passE t ps m ≠ 0 → t1 = 0 ∧ rs1 = [] ∧ v1 = .slice none 0 0) (z2 : passE t ps m ≠ 0 → t2 = 0 ∧ rs2 = [] ∧ v2 = .slice none 0 0) (r1 : passE t ps m = 0 → PassR t ps m t1 rs1) (r2 : passE t ps m = 0 → PassR t ps m t2 rs2) : Twin W t1 t2 v1 v2 := by
  by_cases h : passE t ps m = 0
  · obtain ⟨hc, -, -⟩ := pass_ok h
    obtain ⟨e1, q1, s1, f1⟩ := r1 h
    obtain ⟨e2, q2, s2, f2⟩ := r2 h
    refine Twin.of (e1.trans e2.symm) o1 o2 (pass_same s1 s2 f1 f2) ⟨by rw [f1.1]; exact ((chk_small hc).same s1).1, fun j hj => ?_⟩
    rw [f1.1] at hj
    obtain ⟨x, c, e⟩ := (f1.2 j hj).1 hj
    have hj2 : j < ps.length := by rw [s1.1]; exact hj
    have hls : (poAt ps j).ls = (poAt q1 j).ls := (s1.2 j hj2).2.2.2.2.2.2.2.2.2
    rw [e]
    show (passL (t + m) (poAt q1 j).ls).length ≤ 1048576
    have h1 : (passL (t + m) (poAt q1 j).ls).length ≤ (poAt q1 j).ls.length := List.length_filter_le _ _
    rw [← hls, hF j hj2] at h1
    have h2 := (chk_pool hc j hj2).1
    rw [← hls]
    omega
  · obtain ⟨e1, rfl, rfl⟩ := z1 h
    obtain ⟨e2, rfl, rfl⟩ := z2 h
    exact Twin.of (e1.trans e2.symm) o1 o2 (sameB.refl _) Small.nil

set_option maxRecDepth 100000 in
set_option maxHeartbeats 3200000 in
theorem poolCloses_any (t : Int) (x : Option Addr) (n c : Nat) (ps : List Po) (id m : Int) (w : World) (hk : Bk w x n c ps) :
    Calls Try.prog 3 #[.agg #[.int .i64 t, .slice x n c], .int .i64 id, .int .i64 m] w fun e w' => e = .returned (.bool true) ∧ Below w.heap.size w w' := by
  have hF : Hid (Full ps) := hk.full
  obtain ⟨E, hE⟩ : ∃ E, Hid (E = closeE t ps id) := ⟨_, rfl⟩
  obtain ⟨P, hP⟩ : ∃ P, Hid (P = passE t ps m) := ⟨_, rfl⟩
  go_enter Try.func3, Try.ntmps3
  go_upto_region 1 with fail
  obtain ⟨w0, hw0⟩ : ∃ w0, w0 = w.alloc (bkV t (.slice x n c)) := ⟨_, rfl⟩
  rw [show w.alloc (.cells #[.int .i64 t, .slice x n c] 24) = w0 from hw0.symm]
  have hC0 : CB w w0 t x n c := by rw [hw0]; exact ⟨heap_new _ rfl, bl1 _ _⟩
  clear hw0
  have b0 : w0.cell? ⟨w.heap.size, 0, none⟩ = some (.int .i64 t) := (box_cells hC0.hb).1 0
  have b1 : w0.cell? ⟨w.heap.size, 1, none⟩ = some (.slice x n c) := (box_cells hC0.hb).1 1
  go_wp2_with fail
  refine (close_any t x n c ps id w0 (hk.later hC0.below)).mono ?_
  rintro e w1 ⟨v1, rs1, t1, rfl, hb1, ho1, z1, r1⟩
  rw [← hE.out]
  obtain ⟨x1, c1, rfl⟩ := ho1.val rfl
  have hC1 := hC0.later hb1
  have z1' := hid_mk z1
  have r1' := hid_mk r1
  clear b0 b1 z1 r1
  go_upto_region 2 with fail
  obtain ⟨w2, hw2⟩ : ∃ w2, w2 = w1.alloc (bkV t1 (.slice x1 rs1.length c1)) := ⟨_, rfl⟩
  rw [show w1.alloc (.cells #[.int .i64 t1, .slice x1 rs1.length c1] 24) = w2 from hw2.symm]
  have hn1 : Below w1.heap.size w1 w2 := by rw [hw2]; exact bl1 _ _
  have hC2 : CB w w2 t x n c := hC1.later hn1
  have hv1 : w2.heap[w1.heap.size]? = some (bkV t1 (.slice x1 rs1.length c1)) := by rw [hw2]; exact heap_new _ rfl
  have ho1' := ho1.later hn1
  generalize w1.heap.size = k1 at hv1 ⊢
  clear hw2 hC1 hC0 ho1 hb1 hn1
  have b0 : w2.cell? ⟨w.heap.size, 0, none⟩ = some (.int .i64 t) := (box_cells hC2.hb).1 0
  have b1 : w2.cell? ⟨w.heap.size, 1, none⟩ = some (.slice x n c) := (box_cells hC2.hb).1 1
  go_wp2_with fail
  refine (pass_any t x n c ps m w2 (hk.later hC2.below)).mono ?_
  rintro e w3 ⟨v2, rs2, t2, rfl, hb2, ho2, z2, r2⟩
  rw [← hP.out]
  obtain ⟨x2, c2, rfl⟩ := ho2.val rfl
  have hC3 := hC2.later hb2
  have z2' := hid_mk z2
  have r2' := hid_mk r2
  clear b0 b1 z2 r2
  go_upto_region 3 with fail
  obtain ⟨w4, hw4⟩ : ∃ w4, w4 = w3.alloc (bkV t2 (.slice x2 rs2.length c2)) := ⟨_, rfl⟩
  rw [show w3.alloc (.cells #[.int .i64 t2, .slice x2 rs2.length c2] 24) = w4 from hw4.symm]
  have hn2 : Below w3.heap.size w3 w4 := by rw [hw4]; exact bl1 _ _
  have hC4 : CB w w4 t x n c := hC3.later hn2
  have hv2 : w4.heap[w3.heap.size]? = some (bkV t2 (.slice x2 rs2.length c2)) := by rw [hw4]; exact heap_new _ rfl
  have ho2' := ho2.later hn2
  generalize w3.heap.size = k2 at hv2 ⊢
  have hv1 := heap_later (hb2.trans (hn2.mono hb2.size)) hv1
  have ho1' := ho1'.later (hb2.trans (hn2.mono hb2.size))
  clear hw4 hC3 hC2 ho2 hb2 hn2
  have b0 : w4.cell? ⟨w.heap.size, 0, none⟩ = some (.int .i64 t) := (box_cells hC4.hb).1 0
  have b1 : w4.cell? ⟨w.heap.size, 1, none⟩ = some (.slice x n c) := (box_cells hC4.hb).1 1
  go_wp2_with fail
  refine (closeOf_any t x n c ps id w4 (hk.later hC4.below)).mono ?_
  rintro e w5 ⟨v3, rs3, t3, rfl, hb3, ho3, z3, r3⟩
  rw [← hE.out]
  obtain ⟨x3, c3, rfl⟩ := ho3.val rfl
  have hC5 := hC4.later hb3
  have z3' := hid_mk z3
  have r3' := hid_mk r3
  clear b0 b1 z3 r3
  go_upto_region 4 with fail
  obtain ⟨w6, hw6⟩ : ∃ w6, w6 = w5.alloc (bkV t3 (.slice x3 rs3.length c3)) := ⟨_, rfl⟩
  rw [show w5.alloc (.cells #[.int .i64 t3, .slice x3 rs3.length c3] 24) = w6 from hw6.symm]
  have hn3 : Below w5.heap.size w5 w6 := by rw [hw6]; exact bl1 _ _
  have hC6 : CB w w6 t x n c := hC5.later hn3
  have hv3 : w6.heap[w5.heap.size]? = some (bkV t3 (.slice x3 rs3.length c3)) := by rw [hw6]; exact heap_new _ rfl
  have ho3' := ho3.later hn3
  generalize w5.heap.size = k3 at hv3 ⊢
  have hv1 := heap_later (hb3.trans (hn3.mono hb3.size)) hv1
  have ho1' := ho1'.later (hb3.trans (hn3.mono hb3.size))
  have hv2 := heap_later (hb3.trans (hn3.mono hb3.size)) hv2
  have ho2' := ho2'.later (hb3.trans (hn3.mono hb3.size))
  clear hw6 hC5 hC4 ho3 hb3 hn3
  have b0 : w6.cell? ⟨w.heap.size, 0, none⟩ = some (.int .i64 t) := (box_cells hC6.hb).1 0
  have b1 : w6.cell? ⟨w.heap.size, 1, none⟩ = some (.slice x n c) := (box_cells hC6.hb).1 1
  go_wp2_with fail
  refine (passOf_any t x n c ps m w6 (hk.later hC6.below)).mono ?_
  rintro e w7 ⟨v4, rs4, t4, rfl, hb4, ho4, z4, r4⟩
  rw [← hP.out]
  obtain ⟨x4, c4, rfl⟩ := ho4.val rfl
  have hC7 := hC6.later hb4
  have z4' := hid_mk z4
  have r4' := hid_mk r4
  clear b0 b1 z4 r4
  go_upto_region 5 with fail
  obtain ⟨w8, hw8⟩ : ∃ w8, w8 = w7.alloc (bkV t4 (.slice x4 rs4.length c4)) := ⟨_, rfl⟩
  rw [show w7.alloc (.cells #[.int .i64 t4, .slice x4 rs4.length c4] 24) = w8 from hw8.symm]
  have hn4 : Below w7.heap.size w7 w8 := by rw [hw8]; exact bl1 _ _
  have hC8 : CB w w8 t x n c := hC7.later hn4
  have hv4 : w8.heap[w7.heap.size]? = some (bkV t4 (.slice x4 rs4.length c4)) := by rw [hw8]; exact heap_new _ rfl
  have ho4' := ho4.later hn4
  generalize w7.heap.size = k4 at hv4 ⊢
  have hv1 := heap_later (hb4.trans (hn4.mono hb4.size)) hv1
  have ho1' := ho1'.later (hb4.trans (hn4.mono hb4.size))
  have hv2 := heap_later (hb4.trans (hn4.mono hb4.size)) hv2
  have ho2' := ho2'.later (hb4.trans (hn4.mono hb4.size))
  have hv3 := heap_later (hb4.trans (hn4.mono hb4.size)) hv3
  have ho3' := ho3'.later (hb4.trans (hn4.mono hb4.size))
  clear hw8 hC7 hC6 ho4 hb4 hn4
  have tw1 : Twin w8 t1 t3 (.slice x1 rs1.length c1) (.slice x3 rs3.length c3) := twin_close hF.out ho1' ho3' z1'.out z3'.out r1'.out r3'.out
  have tw2 : Twin w8 t2 t4 (.slice x2 rs2.length c2) (.slice x4 rs4.length c4) := twin_pass hF.out ho2' ho4' z2'.out z4'.out r2'.out r4'.out
  clear ho1' ho2' ho3' ho4' z1' z2' z3' z4' r1' r2' r3' r4' hE hP hF
  go_wp2_with fail
  refine (poolBegun_any _).mono ?_
  rintro e w9 ⟨rfl, hb9⟩
  have hC9 := hC8.later hb9
  have tw1' := tw1.later hb9
  have tw2' := tw2.later hb9
  have hv1 := heap_later hb9 hv1
  have hv2 := heap_later hb9 hv2
  have hv3 := heap_later hb9 hv3
  have hv4 := heap_later hb9 hv4
  clear hb9 hC8 tw1 tw2
  have a0 : w9.cell? ⟨k1, 0, none⟩ = some (.int .i64 t1) := (box_cells hv1).1 0
  have a1 : w9.cell? ⟨k1, 1, none⟩ = some (.slice x1 rs1.length c1) := (box_cells hv1).1 1
  have d0 : w9.cell? ⟨k3, 0, none⟩ = some (.int .i64 t3) := (box_cells hv3).1 0
  have d1 : w9.cell? ⟨k3, 1, none⟩ = some (.slice x3 rs3.length c3) := (box_cells hv3).1 1
  go_wp2_with fail
  refine (sameBooks_twin tw1').mono ?_
  rintro e wa ⟨rfl, hba⟩
  have hCa := hC9.later hba
  have tw2'' := tw2'.later hba
  have hv2 := heap_later hba hv2
  have hv4 := heap_later hba hv4
  clear a0 a1 d0 d1 tw1' tw2' hba hC9
  have a0 : wa.cell? ⟨k2, 0, none⟩ = some (.int .i64 t2) := (box_cells hv2).1 0
  have a1 : wa.cell? ⟨k2, 1, none⟩ = some (.slice x2 rs2.length c2) := (box_cells hv2).1 1
  have d0 : wa.cell? ⟨k4, 0, none⟩ = some (.int .i64 t4) := (box_cells hv4).1 0
  have d1 : wa.cell? ⟨k4, 1, none⟩ = some (.slice x4 rs4.length c4) := (box_cells hv4).1 1
  go_wp2_with fail
  refine (sameBooks_twin tw2'').mono ?_
  rintro e wb ⟨rfl, hbb⟩
  have hCb := hCa.later hbb
  clear a0 a1 d0 d1 tw2'' hbb
  go_wp2
  go_ret
  exact ⟨rfl, hCb.below⟩
end Go.Proofs.Ytpdoonkhnabfjaa
