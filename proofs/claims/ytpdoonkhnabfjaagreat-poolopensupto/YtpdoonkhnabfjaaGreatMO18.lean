/- What LeaseAt and GiveOf of the reference come to. -/
import Derived.Test.YtpdoonkhnabfjaaGreatMO17
import Derived.Deep.RegionHeld3
import Derived.Test.YtpdoonkhnabfjaaGreatMO16
namespace Go.Proofs.YtpdoonkhnabfjaaGreat
open Go.RowKit Go.Shelf

/-- Is there a lease for a user of just that prefix? -/
def hasB (ps : List Po) (id a l : Int) : Bool := if atId ps id < 0 then false else anyAt (poAt ps (atId ps id).toNat).n (useB (poAt ps (atId ps id).toNat).ls a l)
def HasPost (ps : List Po) (id a l : Int) (w : World) (r : Ending) (w' : World) : Prop := ∃ f : Le, r = .returned (.tuple #[leV f, .bool (hasB ps id a l)]) ∧ Below w.heap.size w w'
structure LA3 (w W : World) (t a l : Int) (v : Value) : Prop where
  hb : W.heap[w.heap.size]? = some (bkV t v)
  hp : W.heap[w.heap.size + 1]? = some (.cells #[.int .i64 a, .int .i64 l] 26)
  hr : W.heap[w.heap.size + 1 + 1]? = some (.cells #[.int .i64 0, .int .i64 0, .int .i64 0, .int .i64 0, .int .i64 0] 55)
  below : Below w.heap.size w W
theorem LA3.later {w W W' : World} {t a l : Int} {v : Value} (h : LA3 w W t a l v) (hb : Below W.heap.size W W') : LA3 w W' t a l v :=
  ⟨heap_later hb h.hb, heap_later hb h.hp, heap_later hb h.hr, h.below.trans (hb.mono h.below.size)⟩
theorem Below.put5 {w W : World} (h : Below w.heap.size w W) (a b c d e : Value) : Below w.heap.size w (((((W.setCell ⟨w.heap.size + 1 + 1, 0, none⟩ a).setCell ⟨w.heap.size + 1 + 1, 1, none⟩ b).setCell ⟨w.heap.size + 1 + 1, 2, none⟩ c).setCell ⟨w.heap.size + 1 + 1, 3, none⟩ d).setCell ⟨w.heap.size + 1 + 1, 4, none⟩ e) :=
  Below.put9 (Below.put9 (Below.put9 (Below.put9 (Below.put9 h 0 a) 1 b) 2 c) 3 d) 4 e

set_option maxRecDepth 100000 in
set_option maxHeartbeats 3200000 in
theorem leaseAtR_any (t : Int) (x : Option Addr) (n c : Nat) (ps : List Po) (id a l : Int) (w : World) (hk : Bk w x n c ps) (hn : n ≤ 64) :
    Calls Tryz.prog 49 #[.agg #[.int .i64 t, .slice x n c], .int .i64 id, .agg #[.int .i64 a, .int .i64 l]] w (HasPost ps id a l w) := by
  have hpl : Hid (ps.length = n) := hk.ps.len
  go_enter Tryz.func49, Tryz.ntmps49
  go_upto_region 1 with fail
  obtain ⟨w0, hw0⟩ : ∃ w0, w0 = ((w.alloc (bkV t (.slice x n c))).alloc (.cells #[.int .i64 a, .int .i64 l] 26)).alloc (.cells #[.int .i64 0, .int .i64 0, .int .i64 0, .int .i64 0, .int .i64 0] 55) := ⟨_, rfl⟩
  rw [← hw0]
  have hT0 : LA3 w w0 t a l (.slice x n c) := by
    rw [hw0]
    exact ⟨heap_old _ (heap_old _ (heap_new _ rfl)), heap_old _ (heap_new _ (by simp)), heap_new _ (by simp), (bl2 w _ _).alloc (by simp; omega) _⟩
  clear hw0
  have b0 : w0.cell? ⟨w.heap.size, 0, none⟩ = some (.int .i64 t) := (box_cells hT0.hb).1 0
  have b1 : w0.cell? ⟨w.heap.size, 1, none⟩ = some (.slice x n c) := (box_cells hT0.hb).1 1
  have hpc := poolAt_any t id x n c ps w0 (hk.later hT0.below).ps (by omega)
  by_cases hat : atId ps id < 0
  · obtain ⟨ia, hia⟩ : ∃ ia, Hid (ia = atId ps id) := ⟨_, rfl⟩
    have hB : Hid (hasB ps id a l = false) := if_pos hat
    rw [← hia.out] at hpc hat
    go_wp2_with fail
    refine hpc.mono ?_
    rintro e w1 ⟨rfl, hb1⟩
    have hT1 := hT0.later hb1
    have hge : ¬ ia ≥ 0 := by omega
    clear b0 b1 hb1 hpc hia
    go_wp2
    go_loopw [9] (fun kk wr => kk = .int .i64 0 ∧ LA3 w wr t a l (.slice x n c)) (fun _ _ => 0)
    case atStart => exact ⟨rfl, hT1⟩
    case round =>
      obtain ⟨rfl, hT⟩ := hrel
      have s0 : wr.cell? ⟨w.heap.size + 1 + 1, 0, none⟩ = some (.int .i64 0) := (box_cells hT.hr).1 0
      have s1 : wr.cell? ⟨w.heap.size + 1 + 1, 1, none⟩ = some (.int .i64 0) := (box_cells hT.hr).1 1
      have s2 : wr.cell? ⟨w.heap.size + 1 + 1, 2, none⟩ = some (.int .i64 0) := (box_cells hT.hr).1 2
      have s3 : wr.cell? ⟨w.heap.size + 1 + 1, 3, none⟩ = some (.int .i64 0) := (box_cells hT.hr).1 3
      have s4 : wr.cell? ⟨w.heap.size + 1 + 1, 4, none⟩ = some (.int .i64 0) := (box_cells hT.hr).1 4
      have zz := (box_cells hT.hr).2
      go_wp2
      refine bodyPost_ret (v := .tuple #[.agg #[.int .i64 0, .int .i64 0, .int .i64 0, .int .i64 0, .int .i64 0], .bool false]) (by simp [results, Tryz.results49, go_sem, s0, s1, s2, s3, s4]) rfl ?_
      exact ⟨leZ, by first | (rw [hB.out]; done) | (rw [hB.out]; rfl), Below.put5 hT.below _ _ _ _ _⟩
  · obtain ⟨i, hi, hati, -⟩ := atId_range hat
    rw [hpl.out] at hi
    have hB0 : Hid (hasB ps id a l = anyAt (poAt ps i).n (useB (poAt ps i).ls a l)) := by
      unfold Hid hasB
      rw [if_neg hat, hati, Int.toNat_natCast]
    rw [hati] at hpc
    go_wp2_with fail
    refine hpc.mono ?_
    rintro e w1 ⟨rfl, hb1⟩
    have hT1 := hT0.later hb1
    have hi0 : (0 : Int) ≤ i := by omega
    have hige : (i : Int) ≥ 0 := by omega
    have hin : (i : Int) < n := by omega
    clear b0 b1 hb1 hpc hat hati
    go_wp2
    go_loopw [9] (fun kk wr => ∃ j : Nat, kk = .int .i64 j ∧ j ≤ (poAt ps i).n ∧ LA3 w wr t a l (.slice x n c) ∧ ∀ q, q < j → useB (poAt ps i).ls a l q = false) (fun kk _ => (poAt ps i).n - (intOf kk).toNat)
    case atStart => exact ⟨0, rfl, by omega, hT1, fun q hq => by omega⟩
    case round =>
      clear hT1 hT0
      obtain ⟨j, rfl, hjn, hT, hno⟩ := hrel
      have hno' : Hid (∀ q, q < j → useB (poAt ps i).ls a l q = false) := hno
      clear hno
      have hkr := hk.later hT.below
      obtain ⟨b, o, rfl, -, -, -, -, -, -, -, -, c8⟩ := hkr.ps.cells i hi
      obtain ⟨hlc, hlm, hLS⟩ := hkr.ps.leases i hi
      have b1 : wr.cell? ⟨w.heap.size, 1, none⟩ = some (.slice (some ⟨b, o, none⟩) n c) := (box_cells hT.hb).1 1
      by_cases hlt : j < (poAt ps i).n
      · obtain ⟨b2, o2, hx2, e0, e1, e2, e3, e4⟩ := hLS.cells j hlt
        rw [hx2] at c8
        have hj0 : (0 : Int) ≤ j := by omega
        have hjn2 : (j : Int) < (poAt ps i).n := by omega
        have hlth : Hid (j < (poAt ps i).n) := hlt
        clear hlt
        have huse : Hid (useB (poAt ps i).ls a l j = (((leAt (poAt ps i).ls j).kd == 1) && (decide ((leAt (poAt ps i).ls j).a = a) && decide ((leAt (poAt ps i).ls j).l = l)))) := rfl
        go_upto_region 6 with fail
        obtain ⟨e, he⟩ : ∃ e, Hid (e = leAt (poAt ps i).ls j) := ⟨_, rfl⟩
        rw [← he.out] at e0 e1 e2 e3 e4 huse
        rw [← he.out]
        obtain ⟨wl, hwl⟩ : ∃ wl, wl = wr.alloc (leO e) := ⟨_, rfl⟩
        rw [show wr.alloc (.cells #[.int .i64 e.a, .int .i64 e.l, .int .i64 e.kd, .int .i64 e.ow, .int .i64 e.un] 55) = wl from hwl.symm]
        have hBl : Below wr.heap.size wr wl := by rw [hwl]; exact bl1 _ _
        have hvb : wl.heap[wr.heap.size]? = some (leO e) := by rw [hwl]; exact heap_new _ rfl
        have hTl := hT.later hBl
        clear hwl b1 c8 e0 e1 e2 e3 e4
        have p0 : wl.cell? ⟨w.heap.size + 1, 0, none⟩ = some (.int .i64 a) := (box_cells hTl.hp).1 0
        have p1 : wl.cell? ⟨w.heap.size + 1, 1, none⟩ = some (.int .i64 l) := (box_cells hTl.hp).1 1
        have l0 : wl.cell? ⟨wr.heap.size, 0, none⟩ = some (.int .i64 e.a) := (box_cells hvb).1 0
        have l1 : wl.cell? ⟨wr.heap.size, 1, none⟩ = some (.int .i64 e.l) := (box_cells hvb).1 1
        have l2 : wl.cell? ⟨wr.heap.size, 2, none⟩ = some (.int .i64 e.kd) := (box_cells hvb).1 2
        have l3 : wl.cell? ⟨wr.heap.size, 3, none⟩ = some (.int .i64 e.ow) := (box_cells hvb).1 3
        have l4 : wl.cell? ⟨wr.heap.size, 4, none⟩ = some (.int .i64 e.un) := (box_cells hvb).1 4
        by_cases hkd : e.kd = 1
        · rw [hkd] at l2
          by_cases ha : e.a = a
          · rw [ha] at l0
            by_cases hl : e.l = l
            · rw [hl] at l1
              have hB : Hid (hasB ps id a l = true) := by
                unfold Hid
                rw [hB0.out]
                exact any_yes hlth.out (by simp [huse.out, hkd, ha, hl])
              clear hB0 hno'
              have s0 : wl.cell? ⟨w.heap.size + 1 + 1, 0, none⟩ = some (.int .i64 0) := (box_cells hTl.hr).1 0
              have s1 : wl.cell? ⟨w.heap.size + 1 + 1, 1, none⟩ = some (.int .i64 0) := (box_cells hTl.hr).1 1
              have s2 : wl.cell? ⟨w.heap.size + 1 + 1, 2, none⟩ = some (.int .i64 0) := (box_cells hTl.hr).1 2
              have s3 : wl.cell? ⟨w.heap.size + 1 + 1, 3, none⟩ = some (.int .i64 0) := (box_cells hTl.hr).1 3
              have s4 : wl.cell? ⟨w.heap.size + 1 + 1, 4, none⟩ = some (.int .i64 0) := (box_cells hTl.hr).1 4
              have zz := (box_cells hTl.hr).2
              go_wp2
              refine bodyPost_ret (v := .tuple #[.agg #[.int .i64 a, .int .i64 l, .int .i64 1, .int .i64 e.ow, .int .i64 e.un], .bool true]) (by simp [results, Tryz.results49, go_sem, s0, s1, s2, s3, s4]) rfl ?_
              exact ⟨⟨a, l, 1, e.ow, e.un⟩, by first | (rw [hB.out]; done) | (rw [hB.out]; rfl), Below.put5 hTl.below _ _ _ _ _⟩
            · have hst : Hid (useB (poAt ps i).ls a l j = false) := by
                have : decide (e.l = l) = false := by simpa using hl
                unfold Hid
                rw [huse.out, this]
                simp
              have hld : decide (e.l = l) = false := by simpa using hl
              go_wp2
              go_roundw
              case rel => exact ⟨j + 1, by go_num, hlth.out, hTl, fun q hq => by
                by_cases hq2 : q < j
                · exact hno'.out q hq2
                · obtain rfl : q = j := by omega
                  exact hst.out⟩
              case measure => have := hlth.out; simp [intOf]; omega
          · have hst : Hid (useB (poAt ps i).ls a l j = false) := by
              have : decide (e.a = a) = false := by simpa using ha
              unfold Hid
              rw [huse.out, this]
              simp
            have hld : decide (e.a = a) = false := by simpa using ha
            go_wp2
            go_roundw
            case rel => exact ⟨j + 1, by go_num, hlth.out, hTl, fun q hq => by
              by_cases hq2 : q < j
              · exact hno'.out q hq2
              · obtain rfl : q = j := by omega
                exact hst.out⟩
            case measure => have := hlth.out; simp [intOf]; omega
        · have hst : Hid (useB (poAt ps i).ls a l j = false) := by
            have : (e.kd == 1) = false := by simpa using hkd
            unfold Hid
            rw [huse.out, this]
            simp
          have hld : (e.kd == 1) = false := by simpa using hkd
          go_wp2
          go_roundw
          case rel => exact ⟨j + 1, by go_num, hlth.out, hTl, fun q hq => by
            by_cases hq2 : q < j
            · exact hno'.out q hq2
            · obtain rfl : q = j := by omega
              exact hst.out⟩
          case measure => have := hlth.out; simp [intOf]; omega
      · have hnj : ¬ (j : Int) < (poAt ps i).n := by omega
        have hB : Hid (hasB ps id a l = false) := by
          unfold Hid
          rw [hB0.out]
          exact any_no fun q hq => hno'.out q (by omega)
        clear hB0 hno'
        have s0 : wr.cell? ⟨w.heap.size + 1 + 1, 0, none⟩ = some (.int .i64 0) := (box_cells hT.hr).1 0
        have s1 : wr.cell? ⟨w.heap.size + 1 + 1, 1, none⟩ = some (.int .i64 0) := (box_cells hT.hr).1 1
        have s2 : wr.cell? ⟨w.heap.size + 1 + 1, 2, none⟩ = some (.int .i64 0) := (box_cells hT.hr).1 2
        have s3 : wr.cell? ⟨w.heap.size + 1 + 1, 3, none⟩ = some (.int .i64 0) := (box_cells hT.hr).1 3
        have s4 : wr.cell? ⟨w.heap.size + 1 + 1, 4, none⟩ = some (.int .i64 0) := (box_cells hT.hr).1 4
        have zz := (box_cells hT.hr).2
        go_wp2
        refine bodyPost_ret (v := .tuple #[.agg #[.int .i64 0, .int .i64 0, .int .i64 0, .int .i64 0, .int .i64 0], .bool false]) (by simp [results, Tryz.results49, go_sem, s0, s1, s2, s3, s4]) rfl ?_
        exact ⟨leZ, by first | (rw [hB.out]; done) | (rw [hB.out]; rfl), Below.put5 hT.below _ _ _ _ _⟩

def Give2R (t : Int) (ps : List Po) (id a l : Int) (t' : Int) (rs : List Po) : Prop := t' = t ∧ BackAt ps (atId ps id).toNat a l t rs
theorem give_has (t : Int) (ps : List Po) (id a l : Int) (hc : chkB t ps = 0) : giveE t ps id a l = if hasB ps id a l = true then 0 else 5 := by
  unfold giveE hasB
  rw [if_neg (by simp [hc])]
  by_cases h : atId ps id < 0
  · rw [if_pos h, if_pos h]
    simp
  · rw [if_neg h, if_neg h]
    rcases firstAt_any (n := (poAt ps (atId ps id).toNat).n) (f := useB (poAt ps (atId ps id).toNat).ls a l) with ⟨h1, i, -, -, -, h2⟩ | ⟨h1, -, h2⟩
    · rw [h1, h2, if_neg (by omega), if_pos rfl]
    · rw [h1, h2, if_pos (by omega), if_neg (by decide)]

set_option maxRecDepth 100000 in
set_option maxHeartbeats 3200000 in
theorem giveOf_any (t : Int) (x : Option Addr) (n c : Nat) (ps : List Po) (id a l : Int) (w : World) (hk : Bk w x n c ps) :
    Calls Tryz.prog 16 #[.agg #[.int .i64 t, .slice x n c], .int .i64 id, .agg #[.int .i64 a, .int .i64 l]] w (BkPost (giveE t ps id a l) (Give2R t ps id a l) w) := by
  have hpl : Hid (ps.length = n) := hk.ps.len
  go_enter Tryz.func16, Tryz.ntmps16
  go_upto_region 1 with fail
  obtain ⟨w0, hw0⟩ : ∃ w0, w0 = ((w.alloc (bkV t (.slice x n c))).alloc (.cells #[.int .i64 a, .int .i64 l] 26)).alloc (bkV 0 (.slice none 0 0)) := ⟨_, rfl⟩
  rw [← hw0]
  have hT0 : TG w w0 t a l (.slice x n c) := by
    rw [hw0]
    exact ⟨heap_old _ (heap_old _ (heap_new _ rfl)), heap_old _ (heap_new _ (by simp)), heap_new _ (by simp), (bl2 w _ _).alloc (by simp; omega) _⟩
  clear hw0
  have b0 : w0.cell? ⟨w.heap.size, 0, none⟩ = some (.int .i64 t) := (box_cells hT0.hb).1 0
  have b1 : w0.cell? ⟨w.heap.size, 1, none⟩ = some (.slice x n c) := (box_cells hT0.hb).1 1
  have a0 : w0.cell? ⟨w.heap.size + 1, 0, none⟩ = some (.int .i64 a) := (box_cells hT0.hp).1 0
  have a1 : w0.cell? ⟨w.heap.size + 1, 1, none⟩ = some (.int .i64 l) := (box_cells hT0.hp).1 1
  have s0 : w0.cell? ⟨w.heap.size + 2, 0, none⟩ = some (.int .i64 0) := (box_cells hT0.hs).1 0
  have s1 : w0.cell? ⟨w.heap.size + 2, 1, none⟩ = some (.slice none 0 0) := (box_cells hT0.hs).1 1
  have zs0 : w0.frozen? ⟨w.heap.size + 2, 0, none⟩ = false := (box_cells hT0.hs).2 0
  have zs1 : w0.frozen? ⟨w.heap.size + 2, 1, none⟩ = false := (box_cells hT0.hs).2 1
  have hck := checkBook_any t x n c ps w0 (hk.later hT0.below)
  by_cases hc0 : chkB t ps = 0
  · rw [hc0] at hck
    obtain ⟨hn8, ⟨ht0, ht1⟩, -⟩ := chk_ok hc0
    rw [hpl.out] at hn8
    have hE1 : Hid (giveE t ps id a l = if hasB ps id a l = true then 0 else 5) := give_has t ps id a l hc0
    go_wp2_with fail
    refine hck.mono ?_
    rintro e w1 ⟨rfl, hb1⟩
    have hT1 := hT0.later hb1
    clear b0 b1 a0 a1 s0 s1 zs0 zs1 hb1 hck
    have b0 : w1.cell? ⟨w.heap.size, 0, none⟩ = some (.int .i64 t) := (box_cells hT1.hb).1 0
    have b1 : w1.cell? ⟨w.heap.size, 1, none⟩ = some (.slice x n c) := (box_cells hT1.hb).1 1
    have a0 : w1.cell? ⟨w.heap.size + 1, 0, none⟩ = some (.int .i64 a) := (box_cells hT1.hp).1 0
    have a1 : w1.cell? ⟨w.heap.size + 1, 1, none⟩ = some (.int .i64 l) := (box_cells hT1.hp).1 1
    have s0 : w1.cell? ⟨w.heap.size + 2, 0, none⟩ = some (.int .i64 0) := (box_cells hT1.hs).1 0
    have s1 : w1.cell? ⟨w.heap.size + 2, 1, none⟩ = some (.slice none 0 0) := (box_cells hT1.hs).1 1
    have zs0 : w1.frozen? ⟨w.heap.size + 2, 0, none⟩ = false := (box_cells hT1.hs).2 0
    have zs1 : w1.frozen? ⟨w.heap.size + 2, 1, none⟩ = false := (box_cells hT1.hs).2 1
    have hla := leaseAtR_any t x n c ps id a l w1 (hk.later hT1.below) (by omega)
    unfold HasPost at hla
    cases hh : hasB ps id a l with
    | false =>
      rw [hh] at hla
      have hne : Hid (giveE t ps id a l = 5 ∧ (5 : Int) ≠ 0) := ⟨hE1.out.trans (by rw [hh]; rfl), by decide⟩
      go_wp2_with fail
      refine hla.mono ?_
      rintro e w2 ⟨f, rfl, hb2⟩
      have hT2 := hT1.later hb2
      clear b0 b1 a0 a1 s0 s1 zs0 zs1 hb2 hla
      go_upto_region 5 with fail
      have hT3 := hT2.later (bl1 w2 (leO f))
      rw [show w2.alloc (.cells #[.int .i64 f.a, .int .i64 f.l, .int .i64 f.kd, .int .i64 f.ow, .int .i64 f.un] 55) = w2.alloc (leO f) from rfl]
      generalize w2.alloc (leO f) = w3 at hT3 ⊢
      have b0 : w3.cell? ⟨w.heap.size, 0, none⟩ = some (.int .i64 t) := (box_cells hT3.hb).1 0
      have b1 : w3.cell? ⟨w.heap.size, 1, none⟩ = some (.slice x n c) := (box_cells hT3.hb).1 1
      have a0 : w3.cell? ⟨w.heap.size + 1, 0, none⟩ = some (.int .i64 a) := (box_cells hT3.hp).1 0
      have a1 : w3.cell? ⟨w.heap.size + 1, 1, none⟩ = some (.int .i64 l) := (box_cells hT3.hp).1 1
      have s0 : w3.cell? ⟨w.heap.size + 2, 0, none⟩ = some (.int .i64 0) := (box_cells hT3.hs).1 0
      have s1 : w3.cell? ⟨w.heap.size + 2, 1, none⟩ = some (.slice none 0 0) := (box_cells hT3.hs).1 1
      have zs0 : w3.frozen? ⟨w.heap.size + 2, 0, none⟩ = false := (box_cells hT3.hs).2 0
      have zs1 : w3.frozen? ⟨w.heap.size + 2, 1, none⟩ = false := (box_cells hT3.hs).2 1
      go_wp2
      refine bodyPost_ret (v := .tuple #[.agg #[.int .i64 0, .slice none 0 0], .int .i64 5]) (by simp [results, Tryz.results16, go_sem, s0, s1]) rfl ?_
      exact BkPost.err hne.out ((hT3.below.setCell (p := ⟨w.heap.size + 2, 0, none⟩) (Nat.le_add_right _ _) _).setCell (p := ⟨w.heap.size + 2, 1, none⟩) (Nat.le_add_right _ _) _)
    | true =>
      rw [hh] at hla
      have hE0 : Hid (giveE t ps id a l = 0) := hE1.out.trans (by rw [hh]; rfl)
      have hat : ¬ atId ps id < 0 := fun h => by
        unfold hasB at hh
        rw [if_pos h] at hh
        cases hh
      obtain ⟨i, hi, hati, -⟩ := atId_range hat
      have hcp := chk_pool hc0 i hi
      have hip : Hid (i < ps.length) := hi
      rw [hpl.out] at hi
      have hto : Hid ((atId ps id).toNat = i) := by unfold Hid; rw [hati]; rfl
      go_wp2_with fail
      refine hla.mono ?_
      rintro e w2 ⟨f, rfl, hb2⟩
      have hT2 := hT1.later hb2
      clear b0 b1 a0 a1 s0 s1 zs0 zs1 hb2 hla hh hat
      go_upto_region 5 with fail
      have hT3 := hT2.later (bl1 w2 (leO f))
      rw [show w2.alloc (.cells #[.int .i64 f.a, .int .i64 f.l, .int .i64 f.kd, .int .i64 f.ow, .int .i64 f.un] 55) = w2.alloc (leO f) from rfl]
      generalize w2.alloc (leO f) = w3 at hT3 ⊢
      have b0 : w3.cell? ⟨w.heap.size, 0, none⟩ = some (.int .i64 t) := (box_cells hT3.hb).1 0
      have b1 : w3.cell? ⟨w.heap.size, 1, none⟩ = some (.slice x n c) := (box_cells hT3.hb).1 1
      have a0 : w3.cell? ⟨w.heap.size + 1, 0, none⟩ = some (.int .i64 a) := (box_cells hT3.hp).1 0
      have a1 : w3.cell? ⟨w.heap.size + 1, 1, none⟩ = some (.int .i64 l) := (box_cells hT3.hp).1 1
      have s0 : w3.cell? ⟨w.heap.size + 2, 0, none⟩ = some (.int .i64 0) := (box_cells hT3.hs).1 0
      have s1 : w3.cell? ⟨w.heap.size + 2, 1, none⟩ = some (.slice none 0 0) := (box_cells hT3.hs).1 1
      have zs0 : w3.frozen? ⟨w.heap.size + 2, 0, none⟩ = false := (box_cells hT3.hs).2 0
      have zs1 : w3.frozen? ⟨w.heap.size + 2, 1, none⟩ = false := (box_cells hT3.hs).2 1
      go_wp2_with fail
      refine (ownBook_any t x n c ps w3 (hk.later hT3.below) (by omega)).mono ?_
      rintro e w5 ⟨v5, qs, rfl, hs, hOB, hb5⟩
      have hql : i < qs.length := by rw [← hs.1]; exact hip.out
      rcases hOB.row.2 with ⟨-, h0⟩ | ⟨g, cap, cur, rfl, hg1, hg2, -⟩
      · omega
      clear b0 b1 a0 a1 s0 s1 zs0 zs1
      go_upto_region 8 with fail
      obtain ⟨w6, hw6⟩ : ∃ w6, w6 = w5.alloc (bkV t (.slice (some ⟨g, 0, none⟩) qs.length cap)) := ⟨_, rfl⟩
      rw [← hw6]
      have hB6 : Below w3.heap.size w3 w6 := by rw [hw6]; exact hb5.trans ((bl1 _ _).mono hb5.size)
      have hT6 := hT3.later hB6
      have hn6 : w6.heap[w5.heap.size]? = some (bkV t (.slice (some ⟨g, 0, none⟩) qs.length cap)) := by rw [hw6]; exact heap_new _ rfl
      have hOB6 : OBk w6 w3.heap.size (.slice (some ⟨g, 0, none⟩) qs.length cap) qs qs.length := by rw [hw6]; exact hOB.later (bl1 _ _)
      have hs6 : w3.heap.size ≤ w6.heap.size := hB6.size
      have hk6 := hk.later hT6.below
      have hsz3 : w.heap.size + 2 < w3.heap.size := (Array.getElem?_eq_some_iff.1 hT3.hs).1
      clear hw6 hOB hb5 hg2 hB6
      generalize w5.heap.size = ko at hn6 ⊢
      obtain ⟨-, -, -, -, -, -, -, hqc, hqn, -⟩ := hs.2 i hip.out
      have b0 : w6.cell? ⟨w.heap.size, 0, none⟩ = some (.int .i64 t) := (box_cells hT6.hb).1 0
      have b1 : w6.cell? ⟨w.heap.size, 1, none⟩ = some (.slice x n c) := (box_cells hT6.hb).1 1
      have a0 : w6.cell? ⟨w.heap.size + 1, 0, none⟩ = some (.int .i64 a) := (box_cells hT6.hp).1 0
      have a1 : w6.cell? ⟨w.heap.size + 1, 1, none⟩ = some (.int .i64 l) := (box_cells hT6.hp).1 1
      have s0 : w6.cell? ⟨w.heap.size + 2, 0, none⟩ = some (.int .i64 0) := (box_cells hT6.hs).1 0
      have s1 : w6.cell? ⟨w.heap.size + 2, 1, none⟩ = some (.slice none 0 0) := (box_cells hT6.hs).1 1
      have zs0 : w6.frozen? ⟨w.heap.size + 2, 0, none⟩ = false := (box_cells hT6.hs).2 0
      have zs1 : w6.frozen? ⟨w.heap.size + 2, 1, none⟩ = false := (box_cells hT6.hs).2 1
      have g0 := Ws.here b0
      have g1 := Ws.here b1
      have h0 := Ws.here a0
      have h1 := Ws.here a1
      have hpc := fun (W : World) (hW : Bk W x n c ps) => poolAt_any t id x n c ps W hW.ps (by omega)
      rw [hati] at hpc
      refine wp_region_tail w6.heap.size 4 (by kernel_rfl) (by kernel_rfl) ?_
      simp only [List.take_succ_cons, List.take_zero, List.drop_succ_cons, List.drop_zero]
      repeat (go_big_quiet_step ((go_at_call 27; exact Calls.in_ws (Nat.le_refl _) (hpc _ (hk6.later (Ws.property _))))))
      refine wpQuiet_nil ?_
      intro uu
      have hBu := uu.property
      generalize uu.val = wu at hBu ⊢
      clear uu g0 g1 h0 h1 hpc b0 b1 a0 a1 s0 s1 zs0 zs1
      have hOBu := hOB6.later hBu
      have hnu := heap_later hBu hn6
      have hsu : w3.heap.size ≤ wu.heap.size := Nat.le_trans hs6 hBu.size
      go_wp2_with fail
      refine (back_any w3.heap.size ko g qs.length cap qs i t a l wu hnu hOBu hql (by omega) hsu ht0 ht1 (by omega) (by omega)).mono ?_
      rintro e w9 ⟨rfl, x', c', hOB9, hK9⟩
      have hT9 := (hT6.later hBu).kept hK9 hT3.below.size
      have hn9 := hK9.box _ _ _ hnu (by decide) (by decide)
      have m0 : w9.cell? ⟨ko, 0, none⟩ = some (.int .i64 t) := (box_cells hn9).1 0
      have m1 : w9.cell? ⟨ko, 1, none⟩ = some (.slice (some ⟨g, 0, none⟩) qs.length cap) := (box_cells hn9).1 1
      have b0 : w9.cell? ⟨w.heap.size, 0, none⟩ = some (.int .i64 t) := (box_cells hT9.hb).1 0
      have b1 : w9.cell? ⟨w.heap.size, 1, none⟩ = some (.slice x n c) := (box_cells hT9.hb).1 1
      have a0 : w9.cell? ⟨w.heap.size + 1, 0, none⟩ = some (.int .i64 a) := (box_cells hT9.hp).1 0
      have a1 : w9.cell? ⟨w.heap.size + 1, 1, none⟩ = some (.int .i64 l) := (box_cells hT9.hp).1 1
      have s0 : w9.cell? ⟨w.heap.size + 2, 0, none⟩ = some (.int .i64 0) := (box_cells hT9.hs).1 0
      have s1 : w9.cell? ⟨w.heap.size + 2, 1, none⟩ = some (.slice none 0 0) := (box_cells hT9.hs).1 1
      have zs0 : w9.frozen? ⟨w.heap.size + 2, 0, none⟩ = false := (box_cells hT9.hs).2 0
      have zs1 : w9.frozen? ⟨w.heap.size + 2, 1, none⟩ = false := (box_cells hT9.hs).2 1
      go_wp2
      refine bodyPost_ret (v := .tuple #[.agg #[.int .i64 t, .slice (some ⟨g, 0, none⟩) qs.length cap], .int .i64 0]) (by simp [results, Tryz.results16, go_sem, s0, s1]) rfl ?_
      have hfin := (hT9.below.setCell (p := ⟨w.heap.size + 2, 0, none⟩) (Nat.le_add_right _ _) (.int .i64 t)).setCell (p := ⟨w.heap.size + 2, 1, none⟩) (Nat.le_add_right _ _) (.slice (some ⟨g, 0, none⟩) qs.length cap)
      have hob := ((hOB9.put (o := 0) (u := .int .i64 t) hsz3).put (o := 1) (u := .slice (some ⟨g, 0, none⟩) qs.length cap) hsz3).low hT3.below.size
      refine ⟨_, _, t, by rw [hE0.out], hfin, hob, fun h => absurd hE0.out h, fun _ => ⟨rfl, ?_⟩⟩
      rw [hto.out]
      refine ⟨qs, x', c', hs, ?_⟩
      rw [backL_same (hs.2 i hip.out)]
  · have hne : Hid (giveE t ps id a l = chkB t ps ∧ chkB t ps ≠ 0) := ⟨if_pos hc0, hc0⟩
    go_wp2_with fail
    refine hck.mono ?_
    rintro e w1 ⟨rfl, hb1⟩
    have hT1 := hT0.later hb1
    clear b0 b1 a0 a1 s0 s1 zs0 zs1 hck hb1
    have b0 : w1.cell? ⟨w.heap.size, 0, none⟩ = some (.int .i64 t) := (box_cells hT1.hb).1 0
    have b1 : w1.cell? ⟨w.heap.size, 1, none⟩ = some (.slice x n c) := (box_cells hT1.hb).1 1
    have a0 : w1.cell? ⟨w.heap.size + 1, 0, none⟩ = some (.int .i64 a) := (box_cells hT1.hp).1 0
    have a1 : w1.cell? ⟨w.heap.size + 1, 1, none⟩ = some (.int .i64 l) := (box_cells hT1.hp).1 1
    have s0 : w1.cell? ⟨w.heap.size + 2, 0, none⟩ = some (.int .i64 0) := (box_cells hT1.hs).1 0
    have s1 : w1.cell? ⟨w.heap.size + 2, 1, none⟩ = some (.slice none 0 0) := (box_cells hT1.hs).1 1
    have zs0 : w1.frozen? ⟨w.heap.size + 2, 0, none⟩ = false := (box_cells hT1.hs).2 0
    have zs1 : w1.frozen? ⟨w.heap.size + 2, 1, none⟩ = false := (box_cells hT1.hs).2 1
    go_wp2
    refine bodyPost_ret (v := .tuple #[.agg #[.int .i64 0, .slice none 0 0], .int .i64 (chkB t ps)]) (by simp [results, Tryz.results16, go_sem, s0, s1]) rfl ?_
    exact BkPost.err hne.out ((hT1.below.setCell (p := ⟨w.heap.size + 2, 0, none⟩) (Nat.le_add_right _ _) _).setCell (p := ⟨w.heap.size + 2, 1, none⟩) (Nat.le_add_right _ _) _)
end Go.Proofs.YtpdoonkhnabfjaaGreat
/- What addPool of the reference comes to: the pool stands ahead of the first one whose Id is greater. -/
namespace Go.Proofs.YtpdoonkhnabfjaaGreat
open Go.RowKit Go.Shelf

/-- What has been made of the first q pools, and whether e is in it. -/
def insQ (e : Po) (ls : List Po) : Nat → Bool × List Po
  | 0 => (false, [])
  | q + 1 => if (insQ e ls q).1 = false ∧ e.id < (poAt ls q).id then (true, (insQ e ls q).2 ++ [e] ++ [poAt ls q]) else ((insQ e ls q).1, (insQ e ls q).2 ++ [poAt ls q])
def insP (e : Po) (ls : List Po) : List Po := if (insQ e ls ls.length).1 = true then (insQ e ls ls.length).2 else (insQ e ls ls.length).2 ++ [e]
theorem take_nxp {ls : List Po} {q : Nat} (h : q < ls.length) : ls.take (q + 1) = ls.take q ++ [poAt ls q] := by
  rw [List.take_add_one]
  congr 1
  unfold poAt
  rw [List.getD_eq_getElem?_getD, List.getElem?_eq_getElem h]
  rfl
theorem insQ_spec (e : Po) (ls : List Po) : ∀ q, q ≤ ls.length → ((insQ e ls q).1 = false ∧ (∀ j, j < q → ¬ e.id < (poAt ls j).id) ∧ (insQ e ls q).2 = ls.take q) ∨
    ((insQ e ls q).1 = true ∧ ∃ i, i < q ∧ (∀ j, j < i → ¬ e.id < (poAt ls j).id) ∧ e.id < (poAt ls i).id ∧ (insQ e ls q).2 = ls.take i ++ [e] ++ (ls.take q).drop i)
  | 0, _ => .inl ⟨rfl, fun j hj => by omega, by simp [insQ]⟩
  | q + 1, h => by
    rcases insQ_spec e ls q (by omega) with ⟨h1, h2, h3⟩ | ⟨h1, i, hi, h2, h3, h4⟩
    · by_cases hlt : e.id < (poAt ls q).id
      · refine .inr ⟨by simp only [insQ, h1, hlt, and_self, if_true], q, by omega, h2, hlt, ?_⟩
        simp only [insQ, h1, hlt, and_self, if_true, h3]
        rw [take_nxp (by omega), List.drop_append_of_le_length (by simp; omega), List.drop_of_length_le (by rw [List.length_take]; omega)]
        simp
      · refine .inl ⟨by simp only [insQ, h1, hlt, and_false, if_false], fun j hj => ?_, ?_⟩
        · by_cases hj2 : j < q
          · exact h2 j hj2
          · obtain rfl : j = q := by omega
            exact hlt
        · simp only [insQ, h1, hlt, and_false, if_false, h3]
          rw [take_nxp (by omega)]
    · refine .inr ⟨by simp [insQ, h1], i, by omega, h2, h3, ?_⟩
      have hx : (insQ e ls (q + 1)).2 = (insQ e ls q).2 ++ [poAt ls q] := by simp [insQ, h1]
      rw [hx, take_nxp (by omega), List.drop_append_of_le_length (by simp; omega), h4]
      simp
theorem insp_len (e : Po) (ls : List Po) : ∀ q, (insQ e ls q).2.length ≤ q + 1 ∧ ((insQ e ls q).1 = false → (insQ e ls q).2.length ≤ q)
  | 0 => by simp [insQ]
  | q + 1 => by
    obtain ⟨h1, h2⟩ := insp_len e ls q
    unfold insQ
    split
    · rename_i h
      have := h2 h.1
      exact ⟨by simp; omega, fun h => by cases h⟩
    · exact ⟨by simp; omega, fun h => by have := h2 h; simp; omega⟩
theorem insp_put (e : Po) (ls : List Po) : PutPo e ls (insP e ls) := by
  unfold insP
  rcases insQ_spec e ls ls.length (Nat.le_refl _) with ⟨h1, h2, h3⟩ | ⟨h1, i, hi, h2, h3, h4⟩
  · rw [h1, if_neg (by decide), h3]
    exact ⟨ls.length, Nat.le_refl _, h2, fun h => by omega, by simp⟩
  · rw [h1, if_pos rfl, h4]
    exact ⟨i, by omega, h2, fun _ => h3, by simp⟩
/-- The boxes: the book, the pool, the result, what is being made. -/
structure AP4 (w W : World) (t : Int) (v0 : Value) (e : Po) (v : Value) : Prop where
  hb : W.heap[w.heap.size]? = some (bkV t v0)
  hp : W.heap[w.heap.size + 1]? = some (poB e)
  hs : W.heap[w.heap.size + 1 + 1]? = some (bkV 0 (.slice none 0 0))
  ho : W.heap[w.heap.size + 3]? = some (bkV t v)
  below : Below w.heap.size w W
theorem AP4.later {w W W' : World} {t : Int} {v0 v : Value} {e : Po} (h : AP4 w W t v0 e v) (hb : Below W.heap.size W W') : AP4 w W' t v0 e v :=
  ⟨heap_later hb h.hb, heap_later hb h.hp, heap_later hb h.hs, heap_later hb h.ho, h.below.trans (hb.mono h.below.size)⟩
theorem AP4.grown {w W W' : World} {t : Int} {v0 v : Value} {e : Po} {m : Nat} {r : Option Nat} (h : AP4 w W t v0 e v) (hm : w.heap.size + 3 < m) (hg : W.grownBy W' r) (hr : ∀ k, r = some k → m ≤ k) : AP4 w W' t v0 e v := by
  have keep : ∀ {k : Nat} {o : Obj}, k < m → W.heap[k]? = some o → W'.heap[k]? = some o := fun {k o} hk ho => (hg.block k (Array.getElem?_eq_some_iff.1 ho).1 (fun e => by have := hr k e.symm; omega)).trans ho
  exact ⟨keep (by omega) h.hb, keep (by omega) h.hp, keep (by omega) h.hs, keep (by omega) h.ho, below_grownr h.below hg (fun k e => by have := hr k e; omega)⟩
theorem AP4.put {w W : World} {t : Int} {v0 v u : Value} {e : Po} (h : AP4 w W t v0 e v) : AP4 w (W.setCell ⟨w.heap.size + 3, 1, none⟩ u) t v0 e u :=
  ⟨(heap_setCell_other W ⟨w.heap.size + 3, 1, none⟩ _ u (by show w.heap.size ≠ w.heap.size + 3; omega)).trans h.hb, (heap_setCell_other W ⟨w.heap.size + 3, 1, none⟩ _ u (by show w.heap.size + 1 ≠ w.heap.size + 3; omega)).trans h.hp, (heap_setCell_other W ⟨w.heap.size + 3, 1, none⟩ _ u (by show w.heap.size + 1 + 1 ≠ w.heap.size + 3; omega)).trans h.hs,
    by simpa using heap_setCell_same W (w.heap.size + 3) 1 _ 24 u h.ho, h.below.setCell (p := ⟨w.heap.size + 3, 1, none⟩) (by show w.heap.size ≤ w.heap.size + 3; omega) u⟩
theorem OwnP.put {w : World} {base b o : Nat} {u v : Value} {es : List Po} (h : OwnP w base v es) (hb : b < base) : OwnP (w.setCell ⟨b, o, none⟩ u) base v es :=
  h.kept (set_grown _ _ _ _) (fun k hk e => by have := (h.lt k hk).1; omega)
def AddPPost (t : Int) (qs : List Po) (e : Po) (w : World) (r : Ending) (w' : World) : Prop :=
  ∃ v, r = .returned (.agg #[.int .i64 t, v]) ∧ OwnP w' w.heap.size v (insP e qs) ∧ Below w.heap.size w w'

set_option maxRecDepth 100000 in
set_option maxHeartbeats 3200000 in
theorem addPoolR_any (t : Int) (x : Option Addr) (n c : Nat) (qs : List Po) (e : Po) (w : World) (hk : PoS w x n qs) (hn : n ≤ 64) :
    Calls Tryz.prog 30 #[.agg #[.int .i64 t, .slice x n c], poV e] w (AddPPost t qs e w) := by
  have hll : Hid (qs.length = n) := hk.len
  go_enter Tryz.func30, Tryz.ntmps30
  go_upto_region 1 with fail
  obtain ⟨w2, hw2⟩ : ∃ w2, w2 = ((w.alloc (bkV t (.slice x n c))).alloc (poB e)).alloc (bkV 0 (.slice none 0 0)) := ⟨_, rfl⟩
  rw [← hw2]
  have hs2 : w2.heap.size = w.heap.size + 3 := by rw [hw2]; simp
  have hb2 : w2.heap[w.heap.size]? = some (bkV t (.slice x n c)) := by rw [hw2]; exact heap_old _ (heap_old _ (heap_new _ rfl))
  have hp2 : w2.heap[w.heap.size + 1]? = some (poB e) := by rw [hw2]; exact heap_old _ (heap_new _ (by simp))
  have hr2 : w2.heap[w.heap.size + 1 + 1]? = some (bkV 0 (.slice none 0 0)) := by rw [hw2]; exact heap_new _ (by simp)
  have hB2 : Below w.heap.size w w2 := by rw [hw2]; exact (bl2 w _ _).trans ((bl1 _ _).mono (by simp; omega))
  clear hw2
  have b0 : w2.cell? ⟨w.heap.size, 0, none⟩ = some (.int .i64 t) := (box_cells hb2).1 0
  go_upto_region 2 with fail
  obtain ⟨w3, hw3⟩ : ∃ w3, w3 = w2.alloc (bkV t (.slice none 0 0)) := ⟨_, rfl⟩
  rw [show w2.alloc (.cells #[.int .i64 t, .slice none 0 0] 24) = w3 from hw3.symm]
  have hO3 : AP4 w w3 t (.slice x n c) e (.slice none 0 0) := by
    rw [hw3]
    exact ⟨heap_old _ hb2, heap_old _ hp2, heap_old _ hr2, heap_new _ (by omega), hB2.trans ((bl1 w2 _).mono hB2.size)⟩
  have hs3 : w.heap.size + 3 < w3.heap.size := by rw [hw3]; simp; omega
  clear hw3 hb2 hp2 hr2 hB2 b0
  go_wp2
  go_loopw [7, 6] (fun kk dd wr => ∃ (q : Nat) (v : Value), kk = .int .i64 q ∧ q ≤ n ∧ dd = .bool (insQ e qs q).1 ∧ AP4 w wr t (.slice x n c) e v ∧ OwnP wr w3.heap.size v (insQ e qs q).2 ∧ w3.heap.size ≤ wr.heap.size) (fun kk _ _ => n - (intOf kk).toNat)
  case atStart => exact ⟨0, _, rfl, by omega, rfl, hO3, World.ownsRow_nil _ _ _ _, Nat.le_refl _⟩
  case round =>
    clear hO3
    obtain ⟨q, v, rfl, hqn, rfl, hO, hOv, hsz⟩ := hrel
    have hkr := hk.later hO.below
    have hvl : Hid ((insQ e qs q).2.length ≤ 70) := by
      unfold Hid
      have := (insp_len e qs q).1
      omega
    have b1 : wr.cell? ⟨w.heap.size, 1, none⟩ = some (.slice x n c) := (box_cells hO.hb).1 1
    by_cases hlt : q < n
    · obtain ⟨b, o, rfl, c0, c1, c2, c3, c4, c5, c6, c7, c8⟩ := hkr.cells q hlt
      have hq0 : (0 : Int) ≤ q := by omega
      have hqn2 : (q : Int) < n := by omega
      have hlth : Hid (q < n) := hlt
      clear hlt
      obtain ⟨f, hf⟩ : ∃ f, Hid (f = poAt qs q) := ⟨_, rfl⟩
      rw [← hf.out] at c0
      have l0 : wr.cell? ⟨w.heap.size + 1, 0, none⟩ = some (.int .i64 e.id) := (box_cells hO.hp).1 0
      have hnext : Hid (insQ e qs (q + 1) = if (insQ e qs q).1 = false ∧ e.id < f.id then (true, (insQ e qs q).2 ++ [e] ++ [f]) else ((insQ e qs q).1, (insQ e qs q).2 ++ [f])) := by unfold Hid; rw [hf.out]; rfl
      obtain ⟨D, hD⟩ : ∃ D, Hid (D = (insQ e qs q).1) := ⟨_, rfl⟩
      rw [← hD.out] at hnext ⊢
      go_upto_region 6 with fail
      have g8 := Ws.here b1
      have g0 := Ws.here c0
      have gl := Ws.here l0
      clear c0 c1 c2 c3 c4 c5 c6 c7 c8
      by_cases hins : D = false ∧ e.id < f.id
      · obtain ⟨rfl, hlt2⟩ := hins
        have hgt : f.id > e.id := hlt2
        have hnx : Hid (insQ e qs (q + 1) = (true, (insQ e qs q).2 ++ [e] ++ [f])) := hnext.out.trans (if_pos ⟨rfl, hlt2⟩)
        refine wp_region_ws wr.heap.size (by kernel_rfl) (by kernel_rfl) ?_
        repeat (go_big_quiet_step (fail))
        refine wpQuiet_nil ?_
        rintro _ ⟨u, rfl⟩
        have hu := u.property
        generalize u.val = wu at hu ⊢
        clear u g8 g0 gl b1 l0
        have hOu := hO.later hu
        have hVu := hOv.later hu
        have hsu : w3.heap.size ≤ wu.heap.size := Nat.le_trans hsz hu.size
        have y0 : wu.cell? ⟨w.heap.size + 1, 0, none⟩ = some (.int .i64 e.id) := (box_cells hOu.hp).1 0
        have y1 : wu.cell? ⟨w.heap.size + 1, 1, none⟩ = some (.int .i64 e.up) := (box_cells hOu.hp).1 1
        have y2 : wu.cell? ⟨w.heap.size + 1, 2, none⟩ = some (.int .i64 e.a) := (box_cells hOu.hp).1 2
        have y3 : wu.cell? ⟨w.heap.size + 1, 3, none⟩ = some (.int .i64 e.l) := (box_cells hOu.hp).1 3
        have y4 : wu.cell? ⟨w.heap.size + 1, 4, none⟩ = some (.int .i64 e.mn) := (box_cells hOu.hp).1 4
        have y5 : wu.cell? ⟨w.heap.size + 1, 5, none⟩ = some (.int .i64 e.mx) := (box_cells hOu.hp).1 5
        have y6 : wu.cell? ⟨w.heap.size + 1, 6, none⟩ = some (.int .i64 e.us) := (box_cells hOu.hp).1 6
        have y7 : wu.cell? ⟨w.heap.size + 1, 7, none⟩ = some (.int .i64 e.co) := (box_cells hOu.hp).1 7
        have y8 : wu.cell? ⟨w.heap.size + 1, 8, none⟩ = some (.slice e.x e.n e.c) := (box_cells hOu.hp).1 8
        have yo : wu.cell? ⟨w.heap.size + 3, 1, none⟩ = some v := (box_cells hOu.ho).1 1
        go_wp2_with (at_builtin; refine Hid.out ?_)
        unfold Hid
        refine wpList_append_P rfl _ _ rfl w3.heap.size _ _ rfl (hVu.later (bl1 _ _)) ⟨wu.heap.size, 0, none⟩ 1 1 [e] rfl rfl ?_ (by have := hvl.out; simp at this ⊢; omega) (by simp; omega) ?_
        · intro j u hj
          have hn := heap_new (W := wu) (poB e) rfl
          rw [addr_add, Nat.zero_add]
          exact ((box_cells hn).1 j).trans (by rw [List.getElem?_toArray]; exact hj)
        intro v5 w5 hP5 hg5
        have hO5 := (hOu.later (bl1 wu _)).grown hs3 hg5 (fun k e => (hVu.lt k e).1)
        have hs5 : w3.heap.size ≤ w5.heap.size := Nat.le_trans (by simp; omega) hg5.size
        obtain ⟨x7, c7, hv7, -⟩ := hP5.mem
        obtain ⟨m7, hm7⟩ : ∃ m7, Hid (m7 = ((insQ e qs q).2 ++ [e]).length) := ⟨_, rfl⟩
        rw [← hm7.out] at hv7
        subst hv7
        clear y0 y1 y2 y3 y4 y5 y6 y7 y8 yo
        have yo : w5.cell? ⟨w.heap.size + 3, 1, none⟩ = some v := (box_cells hO5.ho).1 1
        have zo : w5.frozen? ⟨w.heap.size + 3, 1, none⟩ = false := (box_cells hO5.ho).2 1
        go_upto_region 8 with fail
        obtain ⟨w7, hw7⟩ : ∃ w7, w7 = w5.setCell ⟨w.heap.size + 3, 1, none⟩ (.slice x7 m7 c7) := ⟨_, rfl⟩
        rw [← hw7]
        have hO7 : AP4 w w7 t (.slice (some ⟨b, o, none⟩) n c) e (.slice x7 m7 c7) := by rw [hw7]; exact hO5.put
        have hV7 : OwnP w7 w3.heap.size (.slice x7 m7 c7) ((insQ e qs q).2 ++ [e]) := by rw [hw7]; exact hP5.put (by omega)
        have hs7 : w3.heap.size ≤ w7.heap.size := by rw [hw7]; simpa using hs5
        have hvl7 : Hid (((insQ e qs q).2 ++ [e]).length ≤ 71) := by
          unfold Hid
          have := hvl.out
          simp
          omega
        clear hw7 yo zo hvl
        have hvl := hvl7
        have hk9 := hk.later hO7.below
        obtain ⟨b9, o9, hbo9, i0, i1, i2, i3, i4, i5, i6, i7, i8⟩ := hk9.cells q hlth.out
        simp only [Option.some.injEq, Addr.mk.injEq, and_true] at hbo9
        obtain ⟨rfl, rfl⟩ := hbo9
        rw [← hf.out] at i0 i1 i2 i3 i4 i5 i6 i7 i8
        have j0 := Ws.here i0
        have j1 := Ws.here i1
        have j2 := Ws.here i2
        have j3 := Ws.here i3
        have j4 := Ws.here i4
        have j5 := Ws.here i5
        have j6 := Ws.here i6
        have j7 := Ws.here i7
        have j8 := Ws.here i8
        have jb := Ws.here (show w7.cell? ⟨w.heap.size, 1, none⟩ = some (.slice (some ⟨b, o, none⟩) n c) from (box_cells hO7.hb).1 1)
        have jo := Ws.here (show w7.cell? ⟨w.heap.size + 3, 1, none⟩ = some (.slice x7 m7 c7) from (box_cells hO7.ho).1 1)
        clear i0 i1 i2 i3 i4 i5 i6 i7 i8
        go_upto_region 9 with fail
        refine wp_region_ix w7.heap.size [0, 1, 2, 3, 4, 5, 6] 7 [8, 9, 10] (by kernel_rfl) (by kernel_rfl) (fun d _ _ _ _ h => by cases d <;> exact h) ?_
        simp only [List.map_cons, List.map_nil, List.getD_cons_zero, List.getD_cons_succ]
        repeat (go_big_quiet_step (fail))
        refine wpQuiet_nil ?_
        intro uu
        have hBu := uu.property
        generalize uu.val = wy at hBu ⊢
        clear uu j0 j1 j2 j3 j4 j5 j6 j7 j8 jb jo
        have hOy := hO7.later hBu
        have hVy := hV7.later hBu
        have hsy : w3.heap.size ≤ wy.heap.size := Nat.le_trans (by omega) hBu.size
        go_wp2_with fail
        refine wildQ_normal ⟨⟨_, hBu.trans ((bl1 wy _).mono hBu.size)⟩, rfl⟩ ?_
        refine wpList_append_P rfl _ _ rfl w3.heap.size _ _ rfl (hVy.later (bl1 _ _)) ⟨wy.heap.size, 0, none⟩ 1 1 [f] rfl rfl ?_ (by have := hvl.out; simp at this ⊢; omega) (by simp; omega) ?_
        · intro j u hj
          have hn := heap_new (W := wy) (poB f) rfl
          rw [addr_add, Nat.zero_add]
          exact ((box_cells hn).1 j).trans (by rw [List.getElem?_toArray]; exact hj)
        intro v6 w6 hP6 hg6
        have hO6 := (hOy.later (bl1 wy _)).grown hs3 hg6 (fun k e => (hVy.lt k e).1)
        have hs6 : w3.heap.size ≤ w6.heap.size := Nat.le_trans (by simp; omega) hg6.size
        obtain ⟨x6, c6, hv6, -⟩ := hP6.mem
        obtain ⟨m6, hm6⟩ : ∃ m6, Hid (m6 = ((insQ e qs q).2 ++ [e] ++ [f]).length) := ⟨_, rfl⟩
        rw [← hm6.out] at hv6
        subst hv6
        have o1 : w6.cell? ⟨w.heap.size + 3, 1, none⟩ = some (.slice x7 m7 c7) := (box_cells hO6.ho).1 1
        have zo1 : w6.frozen? ⟨w.heap.size + 3, 1, none⟩ = false := (box_cells hO6.ho).2 1
        go_wp2
        go_roundw
        case rel => exact ⟨q + 1, .slice x6 m6 c6, by go_num, hlth.out, by rw [hnx.out], hO6.put, by rw [hnx.out]; exact hP6.put (by omega), by simpa using hs6⟩
        case measure => have := hlth.out; simp [intOf]; omega
      · have hnx : Hid (insQ e qs (q + 1) = (D, (insQ e qs q).2 ++ [f])) := hnext.out.trans (if_neg hins)
        cases D with
        | true =>
          refine wp_region_ws wr.heap.size (by kernel_rfl) (by kernel_rfl) ?_
          repeat (go_big_quiet_step (fail))
          refine wpQuiet_nil ?_
          rintro _ ⟨u, rfl⟩
          have hu := u.property
          generalize u.val = wu at hu ⊢
          clear u g8 g0 gl b1 l0
          have hOu := hO.later hu
          have hVu := hOv.later hu
          have hsu : w3.heap.size ≤ wu.heap.size := Nat.le_trans hsz hu.size
          have hk9 := hk.later hOu.below
          obtain ⟨b9, o9, hbo9, i0, i1, i2, i3, i4, i5, i6, i7, i8⟩ := hk9.cells q hlth.out
          simp only [Option.some.injEq, Addr.mk.injEq, and_true] at hbo9
          obtain ⟨rfl, rfl⟩ := hbo9
          rw [← hf.out] at i0 i1 i2 i3 i4 i5 i6 i7 i8
          have j0 := Ws.here i0
          have j1 := Ws.here i1
          have j2 := Ws.here i2
          have j3 := Ws.here i3
          have j4 := Ws.here i4
          have j5 := Ws.here i5
          have j6 := Ws.here i6
          have j7 := Ws.here i7
          have j8 := Ws.here i8
          have jb := Ws.here (show wu.cell? ⟨w.heap.size, 1, none⟩ = some (.slice (some ⟨b, o, none⟩) n c) from (box_cells hOu.hb).1 1)
          have jo := Ws.here (show wu.cell? ⟨w.heap.size + 3, 1, none⟩ = some v from (box_cells hOu.ho).1 1)
          clear i0 i1 i2 i3 i4 i5 i6 i7 i8
          go_upto_region 9 with fail
          refine wp_region_ix wu.heap.size [0, 1, 2, 3, 4, 5, 6] 7 [8, 9, 10] (by kernel_rfl) (by kernel_rfl) (fun d _ _ _ _ h => by cases d <;> exact h) ?_
          simp only [List.map_cons, List.map_nil, List.getD_cons_zero, List.getD_cons_succ]
          repeat (go_big_quiet_step (fail))
          refine wpQuiet_nil ?_
          intro uu
          have hBu := uu.property
          generalize uu.val = wy at hBu ⊢
          clear uu j0 j1 j2 j3 j4 j5 j6 j7 j8 jb jo
          have hOy := hOu.later hBu
          have hVy := hVu.later hBu
          have hsy : w3.heap.size ≤ wy.heap.size := Nat.le_trans (by omega) hBu.size
          go_wp2_with fail
          refine wildQ_normal ⟨⟨_, hBu.trans ((bl1 wy _).mono hBu.size)⟩, rfl⟩ ?_
          refine wpList_append_P rfl _ _ rfl w3.heap.size _ _ rfl (hVy.later (bl1 _ _)) ⟨wy.heap.size, 0, none⟩ 1 1 [f] rfl rfl ?_ (by have := hvl.out; simp at this ⊢; omega) (by simp; omega) ?_
          · intro j u hj
            have hn := heap_new (W := wy) (poB f) rfl
            rw [addr_add, Nat.zero_add]
            exact ((box_cells hn).1 j).trans (by rw [List.getElem?_toArray]; exact hj)
          intro v6 w6 hP6 hg6
          have hO6 := (hOy.later (bl1 wy _)).grown hs3 hg6 (fun k e => (hVy.lt k e).1)
          have hs6 : w3.heap.size ≤ w6.heap.size := Nat.le_trans (by simp; omega) hg6.size
          obtain ⟨x6, c6, hv6, -⟩ := hP6.mem
          obtain ⟨m6, hm6⟩ : ∃ m6, Hid (m6 = ((insQ e qs q).2 ++ [f]).length) := ⟨_, rfl⟩
          rw [← hm6.out] at hv6
          subst hv6
          have o1 : w6.cell? ⟨w.heap.size + 3, 1, none⟩ = some v := (box_cells hO6.ho).1 1
          have zo1 : w6.frozen? ⟨w.heap.size + 3, 1, none⟩ = false := (box_cells hO6.ho).2 1
          go_wp2
          go_roundw
          case rel => exact ⟨q + 1, .slice x6 m6 c6, by go_num, hlth.out, by rw [hnx.out], hO6.put, by rw [hnx.out]; exact hP6.put (by omega), by simpa using hs6⟩
          case measure => have := hlth.out; simp [intOf]; omega
        | false =>
          have hle : ¬ f.id > e.id := fun h => hins ⟨rfl, h⟩
          refine wp_region_ws wr.heap.size (by kernel_rfl) (by kernel_rfl) ?_
          repeat (go_big_quiet_step (fail))
          refine wpQuiet_nil ?_
          rintro _ ⟨u, rfl⟩
          have hu := u.property
          generalize u.val = wu at hu ⊢
          clear u g8 g0 gl b1 l0
          have hOu := hO.later hu
          have hVu := hOv.later hu
          have hsu : w3.heap.size ≤ wu.heap.size := Nat.le_trans hsz hu.size
          have hk9 := hk.later hOu.below
          obtain ⟨b9, o9, hbo9, i0, i1, i2, i3, i4, i5, i6, i7, i8⟩ := hk9.cells q hlth.out
          simp only [Option.some.injEq, Addr.mk.injEq, and_true] at hbo9
          obtain ⟨rfl, rfl⟩ := hbo9
          rw [← hf.out] at i0 i1 i2 i3 i4 i5 i6 i7 i8
          have j0 := Ws.here i0
          have j1 := Ws.here i1
          have j2 := Ws.here i2
          have j3 := Ws.here i3
          have j4 := Ws.here i4
          have j5 := Ws.here i5
          have j6 := Ws.here i6
          have j7 := Ws.here i7
          have j8 := Ws.here i8
          have jb := Ws.here (show wu.cell? ⟨w.heap.size, 1, none⟩ = some (.slice (some ⟨b, o, none⟩) n c) from (box_cells hOu.hb).1 1)
          have jo := Ws.here (show wu.cell? ⟨w.heap.size + 3, 1, none⟩ = some v from (box_cells hOu.ho).1 1)
          clear i0 i1 i2 i3 i4 i5 i6 i7 i8
          go_upto_region 9 with fail
          refine wp_region_ix wu.heap.size [0, 1, 2, 3, 4, 5, 6] 7 [8, 9, 10] (by kernel_rfl) (by kernel_rfl) (fun d _ _ _ _ h => by cases d <;> exact h) ?_
          simp only [List.map_cons, List.map_nil, List.getD_cons_zero, List.getD_cons_succ]
          repeat (go_big_quiet_step (fail))
          refine wpQuiet_nil ?_
          intro uu
          have hBu := uu.property
          generalize uu.val = wy at hBu ⊢
          clear uu j0 j1 j2 j3 j4 j5 j6 j7 j8 jb jo
          have hOy := hOu.later hBu
          have hVy := hVu.later hBu
          have hsy : w3.heap.size ≤ wy.heap.size := Nat.le_trans (by omega) hBu.size
          go_wp2_with fail
          refine wildQ_normal ⟨⟨_, hBu.trans ((bl1 wy _).mono hBu.size)⟩, rfl⟩ ?_
          refine wpList_append_P rfl _ _ rfl w3.heap.size _ _ rfl (hVy.later (bl1 _ _)) ⟨wy.heap.size, 0, none⟩ 1 1 [f] rfl rfl ?_ (by have := hvl.out; simp at this ⊢; omega) (by simp; omega) ?_
          · intro j u hj
            have hn := heap_new (W := wy) (poB f) rfl
            rw [addr_add, Nat.zero_add]
            exact ((box_cells hn).1 j).trans (by rw [List.getElem?_toArray]; exact hj)
          intro v6 w6 hP6 hg6
          have hO6 := (hOy.later (bl1 wy _)).grown hs3 hg6 (fun k e => (hVy.lt k e).1)
          have hs6 : w3.heap.size ≤ w6.heap.size := Nat.le_trans (by simp; omega) hg6.size
          obtain ⟨x6, c6, hv6, -⟩ := hP6.mem
          obtain ⟨m6, hm6⟩ : ∃ m6, Hid (m6 = ((insQ e qs q).2 ++ [f]).length) := ⟨_, rfl⟩
          rw [← hm6.out] at hv6
          subst hv6
          have o1 : w6.cell? ⟨w.heap.size + 3, 1, none⟩ = some v := (box_cells hO6.ho).1 1
          have zo1 : w6.frozen? ⟨w.heap.size + 3, 1, none⟩ = false := (box_cells hO6.ho).2 1
          go_wp2
          go_roundw
          case rel => exact ⟨q + 1, .slice x6 m6 c6, by go_num, hlth.out, by rw [hnx.out], hO6.put, by rw [hnx.out]; exact hP6.put (by omega), by simpa using hs6⟩
          case measure => have := hlth.out; simp [intOf]; omega
    · have hnq : ¬ (q : Int) < n := by omega
      obtain rfl : q = n := by omega
      have hE : Hid (insP e qs = if (insQ e qs q).1 = true then (insQ e qs q).2 else (insQ e qs q).2 ++ [e]) := by unfold Hid insP; rw [hll.out]
      obtain ⟨D, hD⟩ : ∃ D, Hid (D = (insQ e qs q).1) := ⟨_, rfl⟩
      rw [← hD.out] at hE ⊢
      cases D with
      | true =>
        have hE2 : Hid (insP e qs = (insQ e qs q).2) := hE.out.trans (if_pos rfl)
        rw [← hE2.out] at hOv
        obtain ⟨x7, c7, hv7, -⟩ := hOv.mem
        obtain ⟨m7, hm7⟩ : ∃ m7, Hid (m7 = (insP e qs).length) := ⟨_, rfl⟩
        rw [← hm7.out] at hv7
        subst hv7
        have s0 : wr.cell? ⟨w.heap.size + 1 + 1, 0, none⟩ = some (.int .i64 0) := (box_cells hO.hs).1 0
        have s1 : wr.cell? ⟨w.heap.size + 1 + 1, 1, none⟩ = some (.slice none 0 0) := (box_cells hO.hs).1 1
        have zs0 := (box_cells hO.hs).2 0
        have zs1 := (box_cells hO.hs).2 1
        have o0 : wr.cell? ⟨w.heap.size + 3, 0, none⟩ = some (.int .i64 t) := (box_cells hO.ho).1 0
        have o1 : wr.cell? ⟨w.heap.size + 3, 1, none⟩ = some (.slice x7 m7 c7) := (box_cells hO.ho).1 1
        go_wp2
        refine bodyPost_ret (v := .agg #[.int .i64 t, .slice x7 m7 c7]) (by simp [results, Tryz.results30, go_sem, s0, s1]) rfl ?_
        exact ⟨_, rfl, ((hOv.put (b := w.heap.size + 1 + 1) (o := 0) (by omega)).put (b := w.heap.size + 1 + 1) (o := 1) (by omega)).low (by omega), Below.put9 (Below.put9 hO.below 0 _) 1 _⟩
      | false =>
        have hE2 : Hid (insP e qs = (insQ e qs q).2 ++ [e]) := hE.out.trans (if_neg (by decide))
        have y0 : wr.cell? ⟨w.heap.size + 1, 0, none⟩ = some (.int .i64 e.id) := (box_cells hO.hp).1 0
        have y1 : wr.cell? ⟨w.heap.size + 1, 1, none⟩ = some (.int .i64 e.up) := (box_cells hO.hp).1 1
        have y2 : wr.cell? ⟨w.heap.size + 1, 2, none⟩ = some (.int .i64 e.a) := (box_cells hO.hp).1 2
        have y3 : wr.cell? ⟨w.heap.size + 1, 3, none⟩ = some (.int .i64 e.l) := (box_cells hO.hp).1 3
        have y4 : wr.cell? ⟨w.heap.size + 1, 4, none⟩ = some (.int .i64 e.mn) := (box_cells hO.hp).1 4
        have y5 : wr.cell? ⟨w.heap.size + 1, 5, none⟩ = some (.int .i64 e.mx) := (box_cells hO.hp).1 5
        have y6 : wr.cell? ⟨w.heap.size + 1, 6, none⟩ = some (.int .i64 e.us) := (box_cells hO.hp).1 6
        have y7 : wr.cell? ⟨w.heap.size + 1, 7, none⟩ = some (.int .i64 e.co) := (box_cells hO.hp).1 7
        have y8 : wr.cell? ⟨w.heap.size + 1, 8, none⟩ = some (.slice e.x e.n e.c) := (box_cells hO.hp).1 8
        have yo : wr.cell? ⟨w.heap.size + 3, 1, none⟩ = some v := (box_cells hO.ho).1 1
        go_wp2_with (at_builtin; refine Hid.out ?_)
        unfold Hid
        refine wpList_append_P rfl _ _ rfl w3.heap.size _ _ rfl (hOv.later (bl1 _ _)) ⟨wr.heap.size, 0, none⟩ 1 1 [e] rfl rfl ?_ (by have := hvl.out; simp at this ⊢; omega) (by simp; omega) ?_
        · intro j u hj
          have hn := heap_new (W := wr) (poB e) rfl
          rw [addr_add, Nat.zero_add]
          exact ((box_cells hn).1 j).trans (by rw [List.getElem?_toArray]; exact hj)
        intro v5 w5 hP5 hg5
        have hO5 := (hO.later (bl1 wr _)).grown hs3 hg5 (fun k e => (hOv.lt k e).1)
        obtain ⟨x7, c7, hv7, -⟩ := hP5.mem
        obtain ⟨m7, hm7⟩ : ∃ m7, Hid (m7 = ((insQ e qs q).2 ++ [e]).length) := ⟨_, rfl⟩
        rw [← hm7.out] at hv7
        subst hv7
        rw [← hE2.out] at hP5
        clear y0 y1 y2 y3 y4 y5 y6 y7 y8 yo b1
        have yo : w5.cell? ⟨w.heap.size + 3, 1, none⟩ = some v := (box_cells hO5.ho).1 1
        have zo : w5.frozen? ⟨w.heap.size + 3, 1, none⟩ = false := (box_cells hO5.ho).2 1
        go_upto_region 12 with fail
        obtain ⟨w7, hw7⟩ : ∃ w7, w7 = w5.setCell ⟨w.heap.size + 3, 1, none⟩ (.slice x7 m7 c7) := ⟨_, rfl⟩
        rw [← hw7]
        have hO7 : AP4 w w7 t (.slice x q c) e (.slice x7 m7 c7) := by rw [hw7]; exact hO5.put
        have hV7 : OwnP w7 w3.heap.size (.slice x7 m7 c7) (insP e qs) := by rw [hw7]; exact hP5.put (by omega)
        clear hw7 yo zo
        have s0 : w7.cell? ⟨w.heap.size + 1 + 1, 0, none⟩ = some (.int .i64 0) := (box_cells hO7.hs).1 0
        have s1 : w7.cell? ⟨w.heap.size + 1 + 1, 1, none⟩ = some (.slice none 0 0) := (box_cells hO7.hs).1 1
        have zs0 := (box_cells hO7.hs).2 0
        have zs1 := (box_cells hO7.hs).2 1
        have o0 : w7.cell? ⟨w.heap.size + 3, 0, none⟩ = some (.int .i64 t) := (box_cells hO7.ho).1 0
        have o1 : w7.cell? ⟨w.heap.size + 3, 1, none⟩ = some (.slice x7 m7 c7) := (box_cells hO7.ho).1 1
        go_wp2
        refine bodyPost_ret (v := .agg #[.int .i64 t, .slice x7 m7 c7]) (by simp [results, Tryz.results30, go_sem, s0, s1]) rfl ?_
        exact ⟨_, rfl, ((hV7.put (b := w.heap.size + 1 + 1) (o := 0) (by omega)).put (b := w.heap.size + 1 + 1) (o := 1) (by omega)).low (by omega), Below.put9 (Below.put9 hO7.below 0 _) 1 _⟩
end Go.Proofs.YtpdoonkhnabfjaaGreat
/- What OpenOf of the reference comes to. -/
namespace Go.Proofs.YtpdoonkhnabfjaaGreat
open Go.RowKit Go.Shelf

theorem rt_of_chk {a l : Int} : (rt a l = true) = (chk a l = 0) := by unfold rt; simp
theorem rightR_at (a l : Int) (T : Bool) (h : rt a l = T) (w : World) :
    Calls Tryz.prog 26 #[.agg #[.int .i64 a, .int .i64 l]] w fun e w' => e = .returned (.bool T) ∧ Below w.heap.size w w' := by
  subst h
  exact right_any a l w

set_option maxRecDepth 100000 in
set_option maxHeartbeats 3200000 in
theorem openOf_any (t : Int) (x : Option Addr) (n c : Nat) (ps : List Po) (id a l mn mx us co : Int) (w : World) (hk : Bk w x n c ps) :
    Calls Tryz.prog 7 #[.agg #[.int .i64 t, .slice x n c], .int .i64 id, .agg #[.int .i64 a, .int .i64 l], .agg #[.int .i64 mn, .int .i64 mx, .int .i64 us, .int .i64 co]] w (OpenPost t ps id a l mn mx us co w) := by
  have hpl : Hid (ps.length = n) := hk.ps.len
  go_enter Tryz.func7, Tryz.ntmps7
  go_upto_region 1 with fail
  obtain ⟨w0, hw0⟩ : ∃ w0, w0 = (((w.alloc (bkV t (.slice x n c))).alloc (.cells #[.int .i64 a, .int .i64 l] 26)).alloc (.cells #[.int .i64 mn, .int .i64 mx, .int .i64 us, .int .i64 co] 28)).alloc (bkV 0 (.slice none 0 0)) := ⟨_, rfl⟩
  rw [← hw0]
  have hT0 : TO w w0 t a l mn mx us co (.slice x n c) := by
    rw [hw0]
    exact ⟨heap_old _ (heap_old _ (heap_old _ (heap_new _ rfl))), heap_old _ (heap_old _ (heap_new _ (by simp))), heap_old _ (heap_new _ (by simp)), heap_new _ (by simp), ((bl2 w _ _).alloc (by simp; omega) _).alloc (by simp; omega) _⟩
  clear hw0
  have b0 : w0.cell? ⟨w.heap.size, 0, none⟩ = some (.int .i64 t) := (box_cells hT0.hb).1 0
  have b1 : w0.cell? ⟨w.heap.size, 1, none⟩ = some (.slice x n c) := (box_cells hT0.hb).1 1
  have a0 : w0.cell? ⟨w.heap.size + 1, 0, none⟩ = some (.int .i64 a) := (box_cells hT0.hp).1 0
  have a1 : w0.cell? ⟨w.heap.size + 1, 1, none⟩ = some (.int .i64 l) := (box_cells hT0.hp).1 1
  have u0 : w0.cell? ⟨w.heap.size + 2, 0, none⟩ = some (.int .i64 mn) := (box_cells hT0.hu).1 0
  have u1 : w0.cell? ⟨w.heap.size + 2, 1, none⟩ = some (.int .i64 mx) := (box_cells hT0.hu).1 1
  have u2 : w0.cell? ⟨w.heap.size + 2, 2, none⟩ = some (.int .i64 us) := (box_cells hT0.hu).1 2
  have u3 : w0.cell? ⟨w.heap.size + 2, 3, none⟩ = some (.int .i64 co) := (box_cells hT0.hu).1 3
  have s0 : w0.cell? ⟨w.heap.size + 3, 0, none⟩ = some (.int .i64 0) := (box_cells hT0.hs).1 0
  have s1 : w0.cell? ⟨w.heap.size + 3, 1, none⟩ = some (.slice none 0 0) := (box_cells hT0.hs).1 1
  have zs0 : w0.frozen? ⟨w.heap.size + 3, 0, none⟩ = false := (box_cells hT0.hs).2 0
  have zs1 : w0.frozen? ⟨w.heap.size + 3, 1, none⟩ = false := (box_cells hT0.hs).2 1
  have hck := checkBook_any t x n c ps w0 (hk.later hT0.below)
  by_cases hc0 : chkB t ps = 0
  · rw [hc0] at hck
    obtain ⟨hn8, -⟩ := chk_ok hc0
    rw [hpl.out] at hn8
    have hE1 : Hid (openE t ps id a l mn mx us co = if wth id 1 65536 = false ∨ chk a l ≠ 0 then 3 else if 0 ≤ atId ps id ∨ anyAt ps.length (topB ps a l) = true then 6 else addE ps l mn mx us co) := if_neg (c := chkB t ps ≠ 0) (by simp [hc0])
    go_wp2_with fail
    refine hck.mono ?_
    rintro e w1 ⟨rfl, hb1⟩
    have hT1 := hT0.later hb1
    clear b0 b1 a0 a1 u0 u1 u2 u3 s0 s1 zs0 zs1 hb1 hck hT0
    have b0 : w1.cell? ⟨w.heap.size, 0, none⟩ = some (.int .i64 t) := (box_cells hT1.hb).1 0
    have b1 : w1.cell? ⟨w.heap.size, 1, none⟩ = some (.slice x n c) := (box_cells hT1.hb).1 1
    have a0 : w1.cell? ⟨w.heap.size + 1, 0, none⟩ = some (.int .i64 a) := (box_cells hT1.hp).1 0
    have a1 : w1.cell? ⟨w.heap.size + 1, 1, none⟩ = some (.int .i64 l) := (box_cells hT1.hp).1 1
    have u0 : w1.cell? ⟨w.heap.size + 2, 0, none⟩ = some (.int .i64 mn) := (box_cells hT1.hu).1 0
    have u1 : w1.cell? ⟨w.heap.size + 2, 1, none⟩ = some (.int .i64 mx) := (box_cells hT1.hu).1 1
    have u2 : w1.cell? ⟨w.heap.size + 2, 2, none⟩ = some (.int .i64 us) := (box_cells hT1.hu).1 2
    have u3 : w1.cell? ⟨w.heap.size + 2, 3, none⟩ = some (.int .i64 co) := (box_cells hT1.hu).1 3
    have s0 : w1.cell? ⟨w.heap.size + 3, 0, none⟩ = some (.int .i64 0) := (box_cells hT1.hs).1 0
    have s1 : w1.cell? ⟨w.heap.size + 3, 1, none⟩ = some (.slice none 0 0) := (box_cells hT1.hs).1 1
    have zs0 : w1.frozen? ⟨w.heap.size + 3, 0, none⟩ = false := (box_cells hT1.hs).2 0
    have zs1 : w1.frozen? ⟨w.heap.size + 3, 1, none⟩ = false := (box_cells hT1.hs).2 1
    cases hid : wth id 1 65536 with
    | false =>
      have hne : Hid (openE t ps id a l mn mx us co = 3 ∧ (3 : Int) ≠ 0) := ⟨hE1.out.trans (if_pos (.inl hid)), by decide⟩
      go_wp2_with fail
      refine (within_at id 1 65536 false hid _).mono ?_
      rintro e w1 ⟨rfl, rfl⟩
      go_wp2
      refine bodyPost_ret (v := .tuple #[.agg #[.int .i64 0, .slice none 0 0], .int .i64 3]) (by simp [results, Tryz.results7, go_sem, s0, s1]) rfl ?_
      exact OpenPost.err hne.out ((hT1.below.setCell (p := ⟨w.heap.size + 3, 0, none⟩) (Nat.le_add_right _ _) _).setCell (p := ⟨w.heap.size + 3, 1, none⟩) (Nat.le_add_right _ _) _)
    | true =>
      go_wp2_with fail
      refine (within_at id 1 65536 true hid _).mono ?_
      rintro e w1 ⟨rfl, rfl⟩
      cases hrt : rt a l with
      | false =>
        have hcz : chk a l ≠ 0 := fun h => by rw [← rt_of_chk] at h; rw [hrt] at h; cases h
        have hne : Hid (openE t ps id a l mn mx us co = 3 ∧ (3 : Int) ≠ 0) := ⟨hE1.out.trans (if_pos (.inr hcz)), by decide⟩
        go_wp2_with fail
        refine (rightR_at a l false hrt _).mono ?_
        rintro e w2 ⟨rfl, hb2⟩
        have hT2 := hT1.later hb2
        clear b0 b1 a0 a1 u0 u1 u2 u3 s0 s1 zs0 zs1
        have b0 : w2.cell? ⟨w.heap.size, 0, none⟩ = some (.int .i64 t) := (box_cells hT2.hb).1 0
        have b1 : w2.cell? ⟨w.heap.size, 1, none⟩ = some (.slice x n c) := (box_cells hT2.hb).1 1
        have a0 : w2.cell? ⟨w.heap.size + 1, 0, none⟩ = some (.int .i64 a) := (box_cells hT2.hp).1 0
        have a1 : w2.cell? ⟨w.heap.size + 1, 1, none⟩ = some (.int .i64 l) := (box_cells hT2.hp).1 1
        have u0 : w2.cell? ⟨w.heap.size + 2, 0, none⟩ = some (.int .i64 mn) := (box_cells hT2.hu).1 0
        have u1 : w2.cell? ⟨w.heap.size + 2, 1, none⟩ = some (.int .i64 mx) := (box_cells hT2.hu).1 1
        have u2 : w2.cell? ⟨w.heap.size + 2, 2, none⟩ = some (.int .i64 us) := (box_cells hT2.hu).1 2
        have u3 : w2.cell? ⟨w.heap.size + 2, 3, none⟩ = some (.int .i64 co) := (box_cells hT2.hu).1 3
        have s0 : w2.cell? ⟨w.heap.size + 3, 0, none⟩ = some (.int .i64 0) := (box_cells hT2.hs).1 0
        have s1 : w2.cell? ⟨w.heap.size + 3, 1, none⟩ = some (.slice none 0 0) := (box_cells hT2.hs).1 1
        have zs0 : w2.frozen? ⟨w.heap.size + 3, 0, none⟩ = false := (box_cells hT2.hs).2 0
        have zs1 : w2.frozen? ⟨w.heap.size + 3, 1, none⟩ = false := (box_cells hT2.hs).2 1
        go_wp2
        refine bodyPost_ret (v := .tuple #[.agg #[.int .i64 0, .slice none 0 0], .int .i64 3]) (by simp [results, Tryz.results7, go_sem, s0, s1]) rfl ?_
        exact OpenPost.err hne.out ((hT2.below.setCell (p := ⟨w.heap.size + 3, 0, none⟩) (Nat.le_add_right _ _) _).setCell (p := ⟨w.heap.size + 3, 1, none⟩) (Nat.le_add_right _ _) _)
      | true =>
        have hcz : chk a l = 0 := by rw [← rt_of_chk]; exact hrt
        have hE2 : Hid (openE t ps id a l mn mx us co = if 0 ≤ atId ps id ∨ anyAt ps.length (topB ps a l) = true then 6 else addE ps l mn mx us co) := hE1.out.trans (if_neg (c := wth id 1 65536 = false ∨ chk a l ≠ 0) (by simp [hid, hcz]))
        go_wp2_with fail
        refine (rightR_at a l true hrt _).mono ?_
        rintro e w2 ⟨rfl, hb2⟩
        have hT2 := hT1.later hb2
        clear b0 b1 a0 a1 u0 u1 u2 u3 s0 s1 zs0 zs1 hb2 hT1 hE1
        have b0 : w2.cell? ⟨w.heap.size, 0, none⟩ = some (.int .i64 t) := (box_cells hT2.hb).1 0
        have b1 : w2.cell? ⟨w.heap.size, 1, none⟩ = some (.slice x n c) := (box_cells hT2.hb).1 1
        have a0 : w2.cell? ⟨w.heap.size + 1, 0, none⟩ = some (.int .i64 a) := (box_cells hT2.hp).1 0
        have a1 : w2.cell? ⟨w.heap.size + 1, 1, none⟩ = some (.int .i64 l) := (box_cells hT2.hp).1 1
        have u0 : w2.cell? ⟨w.heap.size + 2, 0, none⟩ = some (.int .i64 mn) := (box_cells hT2.hu).1 0
        have u1 : w2.cell? ⟨w.heap.size + 2, 1, none⟩ = some (.int .i64 mx) := (box_cells hT2.hu).1 1
        have u2 : w2.cell? ⟨w.heap.size + 2, 2, none⟩ = some (.int .i64 us) := (box_cells hT2.hu).1 2
        have u3 : w2.cell? ⟨w.heap.size + 2, 3, none⟩ = some (.int .i64 co) := (box_cells hT2.hu).1 3
        have s0 : w2.cell? ⟨w.heap.size + 3, 0, none⟩ = some (.int .i64 0) := (box_cells hT2.hs).1 0
        have s1 : w2.cell? ⟨w.heap.size + 3, 1, none⟩ = some (.slice none 0 0) := (box_cells hT2.hs).1 1
        have zs0 : w2.frozen? ⟨w.heap.size + 3, 0, none⟩ = false := (box_cells hT2.hs).2 0
        have zs1 : w2.frozen? ⟨w.heap.size + 3, 1, none⟩ = false := (box_cells hT2.hs).2 1
        have hpc := poolAt_any t id x n c ps w2 (hk.later hT2.below).ps (by omega)
        obtain ⟨ia, hia⟩ : ∃ ia, Hid (ia = atId ps id) := ⟨_, rfl⟩
        rw [← hia.out] at hpc
        by_cases hat : ia ≥ 0
        · have hne : Hid (openE t ps id a l mn mx us co = 6 ∧ (6 : Int) ≠ 0) := ⟨hE2.out.trans (if_pos (.inl (by rw [← hia.out]; exact hat))), by decide⟩
          go_wp2_with fail
          refine hpc.mono ?_
          rintro e w3 ⟨rfl, hb3⟩
          have hT3 := hT2.later hb3
          clear b0 b1 a0 a1 u0 u1 u2 u3 s0 s1 zs0 zs1
          have b0 : w3.cell? ⟨w.heap.size, 0, none⟩ = some (.int .i64 t) := (box_cells hT3.hb).1 0
          have b1 : w3.cell? ⟨w.heap.size, 1, none⟩ = some (.slice x n c) := (box_cells hT3.hb).1 1
          have a0 : w3.cell? ⟨w.heap.size + 1, 0, none⟩ = some (.int .i64 a) := (box_cells hT3.hp).1 0
          have a1 : w3.cell? ⟨w.heap.size + 1, 1, none⟩ = some (.int .i64 l) := (box_cells hT3.hp).1 1
          have u0 : w3.cell? ⟨w.heap.size + 2, 0, none⟩ = some (.int .i64 mn) := (box_cells hT3.hu).1 0
          have u1 : w3.cell? ⟨w.heap.size + 2, 1, none⟩ = some (.int .i64 mx) := (box_cells hT3.hu).1 1
          have u2 : w3.cell? ⟨w.heap.size + 2, 2, none⟩ = some (.int .i64 us) := (box_cells hT3.hu).1 2
          have u3 : w3.cell? ⟨w.heap.size + 2, 3, none⟩ = some (.int .i64 co) := (box_cells hT3.hu).1 3
          have s0 : w3.cell? ⟨w.heap.size + 3, 0, none⟩ = some (.int .i64 0) := (box_cells hT3.hs).1 0
          have s1 : w3.cell? ⟨w.heap.size + 3, 1, none⟩ = some (.slice none 0 0) := (box_cells hT3.hs).1 1
          have zs0 : w3.frozen? ⟨w.heap.size + 3, 0, none⟩ = false := (box_cells hT3.hs).2 0
          have zs1 : w3.frozen? ⟨w.heap.size + 3, 1, none⟩ = false := (box_cells hT3.hs).2 1
          go_wp2
          refine bodyPost_ret (v := .tuple #[.agg #[.int .i64 0, .slice none 0 0], .int .i64 6]) (by simp [results, Tryz.results7, go_sem, s0, s1]) rfl ?_
          exact OpenPost.err hne.out ((hT3.below.setCell (p := ⟨w.heap.size + 3, 0, none⟩) (Nat.le_add_right _ _) _).setCell (p := ⟨w.heap.size + 3, 1, none⟩) (Nat.le_add_right _ _) _)
        · have hat' : Hid (¬ 0 ≤ atId ps id) := by unfold Hid; rw [← hia.out]; omega
          go_wp2_with fail
          refine hpc.mono ?_
          rintro e w3 ⟨rfl, hb3⟩
          have hT3 := hT2.later hb3
          clear b0 b1 a0 a1 u0 u1 u2 u3 s0 s1 zs0 zs1 hb3 hpc hT2
          go_wp2
          go_loopw [11] (fun kk wr => ∃ j : Nat, kk = .int .i64 j ∧ j ≤ n ∧ TO w wr t a l mn mx us co (.slice x n c) ∧ ∀ q, q < j → topB ps a l q = false) (fun kk _ => n - (intOf kk).toNat)
          case atStart => exact ⟨0, rfl, by omega, hT3, fun q hq => by omega⟩
          case round =>
            clear hT3 hia hat
            obtain ⟨j, rfl, hjn, hT, hno⟩ := hrel
            have hno' : Hid (∀ q, q < j → topB ps a l q = false) := hno
            clear hno
            have b1 : wr.cell? ⟨w.heap.size, 1, none⟩ = some (.slice x n c) := (box_cells hT.hb).1 1
            by_cases hlt : j < n
            · obtain ⟨b, o, rfl, -, c1, c2, c3, -⟩ := (hk.later hT.below).ps.cells j hlt
              have hj0 : (0 : Int) ≤ j := by omega
              have hjn2 : (j : Int) < n := by omega
              have hlth : Hid (j < n) := hlt
              clear hlt
              have htop : Hid (topB ps a l j = (((poAt ps j).up == 0) && mts (poAt ps j).a (poAt ps j).l a l)) := rfl
              go_upto_region 11 with fail
              have g1 := Ws.here b1
              have g2 := Ws.here c1
              have g3 := Ws.here c2
              have g4 := Ws.here c3
              have g5 := Ws.here (show wr.cell? ⟨w.heap.size + 1, 0, none⟩ = some (.int .i64 a) from (box_cells hT.hp).1 0)
              have g6 := Ws.here (show wr.cell? ⟨w.heap.size + 1, 1, none⟩ = some (.int .i64 l) from (box_cells hT.hp).1 1)
              clear b1 c1 c2 c3
              by_cases hup : (poAt ps j).up = 0
              · have hub : ((poAt ps j).up == 0) = true := by simpa using hup
                have hud : decide ((poAt ps j).up = 0) = true := by simpa using hup
                cases hM : mts (poAt ps j).a (poAt ps j).l a l
                all_goals refine wp_region_ws wr.heap.size (by kernel_rfl) (by kernel_rfl) ?_
                all_goals repeat (go_big_quiet_step ((go_at_call 28; exact Calls.in_ws (Nat.le_refl _) (meet_is _ _ _ _ _ hM _))))
                all_goals refine wpQuiet_nil ?_
                all_goals rintro _ ⟨u, rfl⟩
                all_goals have hu := hT.later u.property
                all_goals generalize u.val = wu at hu ⊢
                all_goals clear u g1 g2 g3 g4 g5 g6
                · go_wp2
                  go_roundw
                  case rel => exact ⟨j + 1, by go_num, hlth.out, hu, fun q hq => by
                    by_cases hq2 : q < j
                    · exact hno'.out q hq2
                    · obtain rfl : q = j := by omega
                      rw [htop.out, hM]
                      simp⟩
                  case measure => have := hlth.out; simp [intOf]; omega
                · have hany : Hid (anyAt ps.length (topB ps a l) = true) := any_yes (by rw [hpl.out]; exact hlth.out) (by rw [htop.out, hM, hub]; rfl)
                  have hne : Hid (openE t ps id a l mn mx us co = 6 ∧ (6 : Int) ≠ 0) := ⟨hE2.out.trans (if_pos (.inr hany.out)), by decide⟩
                  clear hE2 hany hno' htop
                  have b0 : wu.cell? ⟨w.heap.size, 0, none⟩ = some (.int .i64 t) := (box_cells hu.hb).1 0
                  have b1 : wu.cell? ⟨w.heap.size, 1, none⟩ = some (.slice (some ⟨b, o, none⟩) n c) := (box_cells hu.hb).1 1
                  have a0 : wu.cell? ⟨w.heap.size + 1, 0, none⟩ = some (.int .i64 a) := (box_cells hu.hp).1 0
                  have a1 : wu.cell? ⟨w.heap.size + 1, 1, none⟩ = some (.int .i64 l) := (box_cells hu.hp).1 1
                  have u0 : wu.cell? ⟨w.heap.size + 2, 0, none⟩ = some (.int .i64 mn) := (box_cells hu.hu).1 0
                  have u1 : wu.cell? ⟨w.heap.size + 2, 1, none⟩ = some (.int .i64 mx) := (box_cells hu.hu).1 1
                  have u2 : wu.cell? ⟨w.heap.size + 2, 2, none⟩ = some (.int .i64 us) := (box_cells hu.hu).1 2
                  have u3 : wu.cell? ⟨w.heap.size + 2, 3, none⟩ = some (.int .i64 co) := (box_cells hu.hu).1 3
                  have s0 : wu.cell? ⟨w.heap.size + 3, 0, none⟩ = some (.int .i64 0) := (box_cells hu.hs).1 0
                  have s1 : wu.cell? ⟨w.heap.size + 3, 1, none⟩ = some (.slice none 0 0) := (box_cells hu.hs).1 1
                  have zs0 : wu.frozen? ⟨w.heap.size + 3, 0, none⟩ = false := (box_cells hu.hs).2 0
                  have zs1 : wu.frozen? ⟨w.heap.size + 3, 1, none⟩ = false := (box_cells hu.hs).2 1
                  go_wp2
                  refine bodyPost_ret (v := .tuple #[.agg #[.int .i64 0, .slice none 0 0], .int .i64 6]) (by simp [results, Tryz.results7, go_sem, s0, s1]) rfl ?_
                  exact OpenPost.err hne.out ((hu.below.setCell (p := ⟨w.heap.size + 3, 0, none⟩) (Nat.le_add_right _ _) _).setCell (p := ⟨w.heap.size + 3, 1, none⟩) (Nat.le_add_right _ _) _)
              · have hub : ((poAt ps j).up == 0) = false := by simpa using hup
                have hud : decide ((poAt ps j).up = 0) = false := by simpa using hup
                refine wp_region_ws wr.heap.size (by kernel_rfl) (by kernel_rfl) ?_
                repeat (go_big_quiet_step (fail))
                refine wpQuiet_nil ?_
                rintro _ ⟨u, rfl⟩
                have hu := hT.later u.property
                generalize u.val = wu at hu ⊢
                clear u g1 g2 g3 g4 g5 g6
                go_wp2
                go_roundw
                case rel => exact ⟨j + 1, by go_num, hlth.out, hu, fun q hq => by
                  by_cases hq2 : q < j
                  · exact hno'.out q hq2
                  · obtain rfl : q = j := by omega
                    rw [htop.out, hub]
                    rfl⟩
                case measure => have := hlth.out; simp [intOf]; omega
            · have hnj : ¬ (j : Int) < n := by omega
              have hany : anyAt ps.length (topB ps a l) = false := any_no fun q hq => hno'.out q (by rw [hpl.out] at hq; omega)
              have hE3 : Hid (openE t ps id a l mn mx us co = addE ps l mn mx us co) := hE2.out.trans (if_neg (by rw [hany]; simp; have := hat'.out; omega))
              clear hE2 hany hno' hat'
              have a0 : wr.cell? ⟨w.heap.size + 1, 0, none⟩ = some (.int .i64 a) := (box_cells hT.hp).1 0
              have a1 : wr.cell? ⟨w.heap.size + 1, 1, none⟩ = some (.int .i64 l) := (box_cells hT.hp).1 1
              have u0 : wr.cell? ⟨w.heap.size + 2, 0, none⟩ = some (.int .i64 mn) := (box_cells hT.hu).1 0
              have u1 : wr.cell? ⟨w.heap.size + 2, 1, none⟩ = some (.int .i64 mx) := (box_cells hT.hu).1 1
              have u2 : wr.cell? ⟨w.heap.size + 2, 2, none⟩ = some (.int .i64 us) := (box_cells hT.hu).1 2
              have u3 : wr.cell? ⟨w.heap.size + 2, 3, none⟩ = some (.int .i64 co) := (box_cells hT.hu).1 3
              cases hru : ruleB mn mx us co l with
              | false =>
                have hne : Hid (openE t ps id a l mn mx us co = 1 ∧ (1 : Int) ≠ 0) := ⟨hE3.out.trans (if_pos hru), by decide⟩
                go_wp2_with fail
                refine (ruleFine_at mn mx us co a l false hru _).mono ?_
                rintro e w5 ⟨rfl, hb5⟩
                have hT5 := hT.later hb5
                clear a0 a1 u0 u1 u2 u3 b1 hE3
                have b0 : w5.cell? ⟨w.heap.size, 0, none⟩ = some (.int .i64 t) := (box_cells hT5.hb).1 0
                have b1 : w5.cell? ⟨w.heap.size, 1, none⟩ = some (.slice x n c) := (box_cells hT5.hb).1 1
                have a0 : w5.cell? ⟨w.heap.size + 1, 0, none⟩ = some (.int .i64 a) := (box_cells hT5.hp).1 0
                have a1 : w5.cell? ⟨w.heap.size + 1, 1, none⟩ = some (.int .i64 l) := (box_cells hT5.hp).1 1
                have u0 : w5.cell? ⟨w.heap.size + 2, 0, none⟩ = some (.int .i64 mn) := (box_cells hT5.hu).1 0
                have u1 : w5.cell? ⟨w.heap.size + 2, 1, none⟩ = some (.int .i64 mx) := (box_cells hT5.hu).1 1
                have u2 : w5.cell? ⟨w.heap.size + 2, 2, none⟩ = some (.int .i64 us) := (box_cells hT5.hu).1 2
                have u3 : w5.cell? ⟨w.heap.size + 2, 3, none⟩ = some (.int .i64 co) := (box_cells hT5.hu).1 3
                have s0 : w5.cell? ⟨w.heap.size + 3, 0, none⟩ = some (.int .i64 0) := (box_cells hT5.hs).1 0
                have s1 : w5.cell? ⟨w.heap.size + 3, 1, none⟩ = some (.slice none 0 0) := (box_cells hT5.hs).1 1
                have zs0 : w5.frozen? ⟨w.heap.size + 3, 0, none⟩ = false := (box_cells hT5.hs).2 0
                have zs1 : w5.frozen? ⟨w.heap.size + 3, 1, none⟩ = false := (box_cells hT5.hs).2 1
                go_wp2
                refine bodyPost_ret (v := .tuple #[.agg #[.int .i64 0, .slice none 0 0], .int .i64 1]) (by simp [results, Tryz.results7, go_sem, s0, s1]) rfl ?_
                exact OpenPost.err hne.out ((hT5.below.setCell (p := ⟨w.heap.size + 3, 0, none⟩) (Nat.le_add_right _ _) _).setCell (p := ⟨w.heap.size + 3, 1, none⟩) (Nat.le_add_right _ _) _)
              | true =>
                go_wp2_with fail
                refine (ruleFine_at mn mx us co a l true hru _).mono ?_
                rintro e w5 ⟨rfl, hb5⟩
                have hT5 := hT.later hb5
                clear a0 a1 u0 u1 u2 u3 b1 hb5
                by_cases hn8' : n = 8
                · have hne : Hid (openE t ps id a l mn mx us co = 2 ∧ (2 : Int) ≠ 0) := ⟨hE3.out.trans (by unfold addE; rw [if_neg (by simp [hru]), if_pos (by rw [hpl.out]; exact hn8')]), by decide⟩
                  have hge : (n : Int) ≥ 8 := by omega
                  clear hE3
                  have b0 : w5.cell? ⟨w.heap.size, 0, none⟩ = some (.int .i64 t) := (box_cells hT5.hb).1 0
                  have b1 : w5.cell? ⟨w.heap.size, 1, none⟩ = some (.slice x n c) := (box_cells hT5.hb).1 1
                  have a0 : w5.cell? ⟨w.heap.size + 1, 0, none⟩ = some (.int .i64 a) := (box_cells hT5.hp).1 0
                  have a1 : w5.cell? ⟨w.heap.size + 1, 1, none⟩ = some (.int .i64 l) := (box_cells hT5.hp).1 1
                  have u0 : w5.cell? ⟨w.heap.size + 2, 0, none⟩ = some (.int .i64 mn) := (box_cells hT5.hu).1 0
                  have u1 : w5.cell? ⟨w.heap.size + 2, 1, none⟩ = some (.int .i64 mx) := (box_cells hT5.hu).1 1
                  have u2 : w5.cell? ⟨w.heap.size + 2, 2, none⟩ = some (.int .i64 us) := (box_cells hT5.hu).1 2
                  have u3 : w5.cell? ⟨w.heap.size + 2, 3, none⟩ = some (.int .i64 co) := (box_cells hT5.hu).1 3
                  have s0 : w5.cell? ⟨w.heap.size + 3, 0, none⟩ = some (.int .i64 0) := (box_cells hT5.hs).1 0
                  have s1 : w5.cell? ⟨w.heap.size + 3, 1, none⟩ = some (.slice none 0 0) := (box_cells hT5.hs).1 1
                  have zs0 : w5.frozen? ⟨w.heap.size + 3, 0, none⟩ = false := (box_cells hT5.hs).2 0
                  have zs1 : w5.frozen? ⟨w.heap.size + 3, 1, none⟩ = false := (box_cells hT5.hs).2 1
                  go_wp2
                  refine bodyPost_ret (v := .tuple #[.agg #[.int .i64 0, .slice none 0 0], .int .i64 2]) (by simp [results, Tryz.results7, go_sem, s0, s1]) rfl ?_
                  exact OpenPost.err hne.out ((hT5.below.setCell (p := ⟨w.heap.size + 3, 0, none⟩) (Nat.le_add_right _ _) _).setCell (p := ⟨w.heap.size + 3, 1, none⟩) (Nat.le_add_right _ _) _)
                · have hE0 : Hid (openE t ps id a l mn mx us co = 0) := hE3.out.trans (by unfold addE; rw [if_neg (by simp [hru]), if_neg (by rw [hpl.out]; exact hn8')])
                  have hge : ¬ (n : Int) ≥ 8 := by omega
                  clear hE3
                  have b0 : w5.cell? ⟨w.heap.size, 0, none⟩ = some (.int .i64 t) := (box_cells hT5.hb).1 0
                  have b1 : w5.cell? ⟨w.heap.size, 1, none⟩ = some (.slice x n c) := (box_cells hT5.hb).1 1
                  have a0 : w5.cell? ⟨w.heap.size + 1, 0, none⟩ = some (.int .i64 a) := (box_cells hT5.hp).1 0
                  have a1 : w5.cell? ⟨w.heap.size + 1, 1, none⟩ = some (.int .i64 l) := (box_cells hT5.hp).1 1
                  have u0 : w5.cell? ⟨w.heap.size + 2, 0, none⟩ = some (.int .i64 mn) := (box_cells hT5.hu).1 0
                  have u1 : w5.cell? ⟨w.heap.size + 2, 1, none⟩ = some (.int .i64 mx) := (box_cells hT5.hu).1 1
                  have u2 : w5.cell? ⟨w.heap.size + 2, 2, none⟩ = some (.int .i64 us) := (box_cells hT5.hu).1 2
                  have u3 : w5.cell? ⟨w.heap.size + 2, 3, none⟩ = some (.int .i64 co) := (box_cells hT5.hu).1 3
                  have s0 : w5.cell? ⟨w.heap.size + 3, 0, none⟩ = some (.int .i64 0) := (box_cells hT5.hs).1 0
                  have s1 : w5.cell? ⟨w.heap.size + 3, 1, none⟩ = some (.slice none 0 0) := (box_cells hT5.hs).1 1
                  have zs0 : w5.frozen? ⟨w.heap.size + 3, 0, none⟩ = false := (box_cells hT5.hs).2 0
                  have zs1 : w5.frozen? ⟨w.heap.size + 3, 1, none⟩ = false := (box_cells hT5.hs).2 1
                  go_upto_region 17 with fail
                  have g0 := Ws.here b0
                  have g1 := Ws.here b1
                  have h0 := Ws.here a0
                  have h1 := Ws.here a1
                  have e0 := Ws.here u0
                  have e1 := Ws.here u1
                  have e2 := Ws.here u2
                  have e3 := Ws.here u3
                  refine wp_region_ix w5.heap.size [0, 2, 3, 4, 5] 1 [6, 7, 8] (by kernel_rfl) (by kernel_rfl) (fun d _ _ _ _ h => by cases d <;> exact h) ?_
                  simp only [List.map_cons, List.map_nil, List.getD_cons_zero, List.getD_cons_succ]
                  repeat (go_big_quiet_step (fail))
                  refine wpQuiet_nil ?_
                  intro uu
                  have hBu := uu.property
                  generalize uu.val = wu at hBu ⊢
                  clear uu g0 g1 h0 h1 e0 e1 e2 e3
                  clear b0 b1 a0 a1 u0 u1 u2 u3 s0 s1 zs0 zs1
                  have hTu := hT5.later hBu
                  go_wp2_with fail
                  refine (ownBook_any t x n c ps wu (hk.later hTu.below) (by omega)).mono ?_
                  rintro e w6 ⟨v6, qs, rfl, hs, hOB, hb6⟩
                  obtain ⟨x6, c6, rfl⟩ := hOB.val rfl
                  have hsm := (chk_small hc0).same hs
                  obtain ⟨xq, cq, hvq, hBq⟩ := hOB.bk hsm.2
                  simp only [Value.slice.injEq] at hvq
                  obtain ⟨rfl, -, rfl⟩ := hvq
                  go_wp2_with fail
                  refine wildQ_normal ⟨⟨w6, hBu.trans (hb6.mono hBu.size)⟩, rfl⟩ ?_
                  go_wp2_with fail
                  refine (addPoolR_any t x6 qs.length c6 qs ⟨id, 0, a, l, mn, mx, us, co, none, 0, 0, []⟩ w6 hBq.ps hsm.1).mono ?_
                  rintro e w7 ⟨v7, rfl, hP7, hb7⟩
                  have hput := insp_put ⟨id, 0, a, l, mn, mx, us, co, none, 0, 0, []⟩ qs
                  have hOB7 : OBk w7 wu.heap.size v7 (insP ⟨id, 0, a, l, mn, mx, us, co, none, 0, 0, []⟩ qs) (insP ⟨id, 0, a, l, mn, mx, us, co, none, 0, 0, []⟩ qs).length := by
                    obtain ⟨i7, hi7, -, -, hins⟩ := insp_put ⟨id, 0, a, l, mn, mx, us, co, none, 0, 0, []⟩ qs
                    rw [hins] at hP7 ⊢
                    exact hOB.ins hi7 hb7 rfl rfl rfl rfl (hP7.low hb6.size)
                  have hT7 := (hTu.later hb6).later hb7
                  have hsu : w.heap.size + 3 < wu.heap.size := (Array.getElem?_eq_some_iff.1 hTu.hs).1
                  obtain ⟨x7, c7, hv7, -⟩ := hP7.mem
                  obtain ⟨m7, hm7⟩ : ∃ m7, Hid (m7 = (insP ⟨id, 0, a, l, mn, mx, us, co, none, 0, 0, []⟩ qs).length) := ⟨_, rfl⟩
                  rw [← hm7.out] at hv7
                  subst hv7
                  have s0 : w7.cell? ⟨w.heap.size + 3, 0, none⟩ = some (.int .i64 0) := (box_cells hT7.hs).1 0
                  have s1 : w7.cell? ⟨w.heap.size + 3, 1, none⟩ = some (.slice none 0 0) := (box_cells hT7.hs).1 1
                  have zs0 : w7.frozen? ⟨w.heap.size + 3, 0, none⟩ = false := (box_cells hT7.hs).2 0
                  have zs1 : w7.frozen? ⟨w.heap.size + 3, 1, none⟩ = false := (box_cells hT7.hs).2 1
                  go_wp2
                  refine bodyPost_ret (v := .tuple #[.agg #[.int .i64 t, .slice x7 m7 c7], .int .i64 0]) (by simp [results, Tryz.results7, go_sem, s0, s1]) rfl ?_
                  exact ⟨_, insP ⟨id, 0, a, l, mn, mx, us, co, none, 0, 0, []⟩ qs, t, by rw [hE0.out], (hT7.below.setCell (p := ⟨w.heap.size + 3, 0, none⟩) (Nat.le_add_right _ _) _).setCell (p := ⟨w.heap.size + 3, 1, none⟩) (Nat.le_add_right _ _) _, ((hOB7.put (b := w.heap.size + 3) (o := 0) (by omega)).put (b := w.heap.size + 3) (o := 1) (by omega)).low hTu.below.size, fun h => absurd hE0.out h, fun _ => ⟨rfl, qs, hs, hput⟩⟩
  · have hne : Hid (openE t ps id a l mn mx us co = chkB t ps ∧ chkB t ps ≠ 0) := ⟨if_pos hc0, hc0⟩
    go_wp2_with fail
    refine hck.mono ?_
    rintro e w1 ⟨rfl, hb1⟩
    have hT1 := hT0.later hb1
    clear b0 b1 a0 a1 u0 u1 u2 u3 s0 s1 zs0 zs1 hck hb1
    have b0 : w1.cell? ⟨w.heap.size, 0, none⟩ = some (.int .i64 t) := (box_cells hT1.hb).1 0
    have b1 : w1.cell? ⟨w.heap.size, 1, none⟩ = some (.slice x n c) := (box_cells hT1.hb).1 1
    have a0 : w1.cell? ⟨w.heap.size + 1, 0, none⟩ = some (.int .i64 a) := (box_cells hT1.hp).1 0
    have a1 : w1.cell? ⟨w.heap.size + 1, 1, none⟩ = some (.int .i64 l) := (box_cells hT1.hp).1 1
    have u0 : w1.cell? ⟨w.heap.size + 2, 0, none⟩ = some (.int .i64 mn) := (box_cells hT1.hu).1 0
    have u1 : w1.cell? ⟨w.heap.size + 2, 1, none⟩ = some (.int .i64 mx) := (box_cells hT1.hu).1 1
    have u2 : w1.cell? ⟨w.heap.size + 2, 2, none⟩ = some (.int .i64 us) := (box_cells hT1.hu).1 2
    have u3 : w1.cell? ⟨w.heap.size + 2, 3, none⟩ = some (.int .i64 co) := (box_cells hT1.hu).1 3
    have s0 : w1.cell? ⟨w.heap.size + 3, 0, none⟩ = some (.int .i64 0) := (box_cells hT1.hs).1 0
    have s1 : w1.cell? ⟨w.heap.size + 3, 1, none⟩ = some (.slice none 0 0) := (box_cells hT1.hs).1 1
    have zs0 : w1.frozen? ⟨w.heap.size + 3, 0, none⟩ = false := (box_cells hT1.hs).2 0
    have zs1 : w1.frozen? ⟨w.heap.size + 3, 1, none⟩ = false := (box_cells hT1.hs).2 1
    go_wp2
    refine bodyPost_ret (v := .tuple #[.agg #[.int .i64 0, .slice none 0 0], .int .i64 (chkB t ps)]) (by simp [results, Tryz.results7, go_sem, s0, s1]) rfl ?_
    exact OpenPost.err hne.out ((hT1.below.setCell (p := ⟨w.heap.size + 3, 0, none⟩) (Nat.le_add_right _ _) _).setCell (p := ⟨w.heap.size + 3, 1, none⟩) (Nat.le_add_right _ _) _)
end Go.Proofs.YtpdoonkhnabfjaaGreat
/- What NestOf of the reference comes to. -/
namespace Go.Proofs.YtpdoonkhnabfjaaGreat
open Go.RowKit Go.Shelf

/-- The pool up has a lease for e, and then e stands at its place. -/
def Nest2At (ps : List Po) (e : Po) (up : Int) (rs : List Po) : Prop :=
  ∃ qs x' c' ls', sameB ps qs ∧ PutLe ⟨e.a, e.l, 2, e.id, 0⟩ (poAt ps (atId ps up).toNat).ls ls' ∧ PutPo e (qs.set (atId ps up).toNat (withL (poAt qs (atId ps up).toNat) x' ls'.length c' ls')) rs
def NestPost2 (t : Int) (ps : List Po) (id up z mn mx us co : Int) (w : World) (r : Ending) (w' : World) : Prop :=
  ∃ v rs t' a l, r = .returned (.tuple #[.agg #[.int .i64 t', v], .agg #[.int .i64 a, .int .i64 l], .int .i64 (nestE t ps id up z mn mx us co)]) ∧ Below w.heap.size w w' ∧ OBk w' w.heap.size v rs rs.length ∧
    (nestE t ps id up z mn mx us co ≠ 0 → t' = 0 ∧ rs = [] ∧ a = 0 ∧ l = 0) ∧
    (nestE t ps id up z mn mx us co = 0 → t' = t ∧ (a, l) = nestRO t ps id up z ∧ Nest2At ps ⟨id, up, a, l, mn, mx, us, co, none, 0, 0, []⟩ up rs)
theorem NestPost2.err {t : Int} {ps : List Po} {id up z mn mx us co E : Int} {w w' : World} (hE : nestE t ps id up z mn mx us co = E ∧ E ≠ 0) (hb : Below w.heap.size w w') :
    NestPost2 t ps id up z mn mx us co w (.returned (.tuple #[.agg #[.int .i64 0, .slice none 0 0], .agg #[.int .i64 0, .int .i64 0], .int .i64 E])) w' :=
  ⟨_, [], 0, 0, 0, by rw [hE.1], hb, OBk.nil _ _, fun _ => ⟨rfl, rfl, rfl, rfl⟩, fun h => absurd (hE.1.symm.trans h) hE.2⟩
theorem nest_root {t : Int} {ps : List Po} {id up z mn mx us co E : Int} (h : nestRE t ps id up z = E) (h0 : E ≠ 0) : nestE t ps id up z mn mx us co = E := by
  unfold nestE
  rw [if_pos (by rw [h]; exact h0), h]
theorem nest_add {t : Int} {ps : List Po} {id up z mn mx us co : Int} (h : nestRE t ps id up z = 0) : nestE t ps id up z mn mx us co = addE ps (pfitO (poAt ps (atId ps up).toNat) z).2 mn mx us co ∧ nestRO t ps id up z = pfitO (poAt ps (atId ps up).toNat) z := by
  have h1 : nestRO t ps id up z = pfitO (poAt ps (atId ps up).toNat) z := by unfold nestRO; rw [if_neg (by simp [h])]
  exact ⟨by unfold nestE; rw [if_neg (by simp [h]), h1], h1⟩

set_option maxRecDepth 100000 in
set_option maxHeartbeats 6400000 in
theorem nestOf_any (t : Int) (x : Option Addr) (n c : Nat) (ps : List Po) (id up z mn mx us co : Int) (w : World) (hk : Bk w x n c ps) :
    Calls Tryz.prog 8 #[.agg #[.int .i64 t, .slice x n c], .int .i64 id, .int .i64 up, .int .i64 z, .agg #[.int .i64 mn, .int .i64 mx, .int .i64 us, .int .i64 co]] w (NestPost2 t ps id up z mn mx us co w) := by
  have hpl : Hid (ps.length = n) := hk.ps.len
  go_enter Tryz.func8, Tryz.ntmps8
  go_upto_region 1 with fail
  obtain ⟨w0, hw0⟩ : ∃ w0, w0 = (((w.alloc (bkV t (.slice x n c))).alloc (.cells #[.int .i64 mn, .int .i64 mx, .int .i64 us, .int .i64 co] 28)).alloc (bkV 0 (.slice none 0 0))).alloc (.cells #[.int .i64 0, .int .i64 0] 26) := ⟨_, rfl⟩
  rw [← hw0]
  have hT0 : TN w w0 t mn mx us co (.slice x n c) := by
    rw [hw0]
    exact ⟨heap_old _ (heap_old _ (heap_old _ (heap_new _ rfl))), heap_old _ (heap_old _ (heap_new _ (by simp))), heap_old _ (heap_new _ (by simp)), heap_new _ (by simp), ((bl2 w _ _).alloc (by simp; omega) _).alloc (by simp; omega) _⟩
  clear hw0
  have b0 : w0.cell? ⟨w.heap.size, 0, none⟩ = some (.int .i64 t) := (box_cells hT0.hb).1 0
  have b1 : w0.cell? ⟨w.heap.size, 1, none⟩ = some (.slice x n c) := (box_cells hT0.hb).1 1
  have u0 : w0.cell? ⟨w.heap.size + 1, 0, none⟩ = some (.int .i64 mn) := (box_cells hT0.hu).1 0
  have u1 : w0.cell? ⟨w.heap.size + 1, 1, none⟩ = some (.int .i64 mx) := (box_cells hT0.hu).1 1
  have u2 : w0.cell? ⟨w.heap.size + 1, 2, none⟩ = some (.int .i64 us) := (box_cells hT0.hu).1 2
  have u3 : w0.cell? ⟨w.heap.size + 1, 3, none⟩ = some (.int .i64 co) := (box_cells hT0.hu).1 3
  have s0 : w0.cell? ⟨w.heap.size + 2, 0, none⟩ = some (.int .i64 0) := (box_cells hT0.hs).1 0
  have s1 : w0.cell? ⟨w.heap.size + 2, 1, none⟩ = some (.slice none 0 0) := (box_cells hT0.hs).1 1
  have r0 : w0.cell? ⟨w.heap.size + 3, 0, none⟩ = some (.int .i64 0) := (box_cells hT0.hr).1 0
  have r1 : w0.cell? ⟨w.heap.size + 3, 1, none⟩ = some (.int .i64 0) := (box_cells hT0.hr).1 1
  have zs0 : w0.frozen? ⟨w.heap.size + 2, 0, none⟩ = false := (box_cells hT0.hs).2 0
  have zs1 : w0.frozen? ⟨w.heap.size + 2, 1, none⟩ = false := (box_cells hT0.hs).2 1
  have zr0 : w0.frozen? ⟨w.heap.size + 3, 0, none⟩ = false := (box_cells hT0.hr).2 0
  have zr1 : w0.frozen? ⟨w.heap.size + 3, 1, none⟩ = false := (box_cells hT0.hr).2 1
  have hck := checkBook_any t x n c ps w0 (hk.later hT0.below)
  by_cases hc0 : chkB t ps = 0
  · rw [hc0] at hck
    obtain ⟨hn8, -, -, -, hpools⟩ := chk_ok hc0
    rw [hpl.out] at hn8
    have hR1 : Hid (nestRE t ps id up z = if wth id 1 65536 = false then 3 else if atId ps up < 0 then 5 else if 0 ≤ atId ps id then 6 else pfitE (poAt ps (atId ps up).toNat) z) := if_neg (c := chkB t ps ≠ 0) (by simp [hc0])
    go_wp2_with fail
    refine hck.mono ?_
    rintro e w1 ⟨rfl, hb1⟩
    have hT1 := hT0.later hb1
    clear b0 b1 u0 u1 u2 u3 s0 s1 r0 r1 zs0 zs1 zr0 zr1 hb1 hck hT0
    have b0 : w1.cell? ⟨w.heap.size, 0, none⟩ = some (.int .i64 t) := (box_cells hT1.hb).1 0
    have b1 : w1.cell? ⟨w.heap.size, 1, none⟩ = some (.slice x n c) := (box_cells hT1.hb).1 1
    have u0 : w1.cell? ⟨w.heap.size + 1, 0, none⟩ = some (.int .i64 mn) := (box_cells hT1.hu).1 0
    have u1 : w1.cell? ⟨w.heap.size + 1, 1, none⟩ = some (.int .i64 mx) := (box_cells hT1.hu).1 1
    have u2 : w1.cell? ⟨w.heap.size + 1, 2, none⟩ = some (.int .i64 us) := (box_cells hT1.hu).1 2
    have u3 : w1.cell? ⟨w.heap.size + 1, 3, none⟩ = some (.int .i64 co) := (box_cells hT1.hu).1 3
    have s0 : w1.cell? ⟨w.heap.size + 2, 0, none⟩ = some (.int .i64 0) := (box_cells hT1.hs).1 0
    have s1 : w1.cell? ⟨w.heap.size + 2, 1, none⟩ = some (.slice none 0 0) := (box_cells hT1.hs).1 1
    have r0 : w1.cell? ⟨w.heap.size + 3, 0, none⟩ = some (.int .i64 0) := (box_cells hT1.hr).1 0
    have r1 : w1.cell? ⟨w.heap.size + 3, 1, none⟩ = some (.int .i64 0) := (box_cells hT1.hr).1 1
    have zs0 : w1.frozen? ⟨w.heap.size + 2, 0, none⟩ = false := (box_cells hT1.hs).2 0
    have zs1 : w1.frozen? ⟨w.heap.size + 2, 1, none⟩ = false := (box_cells hT1.hs).2 1
    have zr0 : w1.frozen? ⟨w.heap.size + 3, 0, none⟩ = false := (box_cells hT1.hr).2 0
    have zr1 : w1.frozen? ⟨w.heap.size + 3, 1, none⟩ = false := (box_cells hT1.hr).2 1
    have hpc := poolAt_any t up x n c ps w1 (hk.later hT1.below).ps (by omega)
    obtain ⟨ia, hia⟩ : ∃ ia, Hid (ia = atId ps up) := ⟨_, rfl⟩
    rw [← hia.out] at hpc
    go_wp2_with fail
    refine hpc.mono ?_
    rintro e w2 ⟨rfl, hb2⟩
    have hT2 := hT1.later hb2
    clear b0 b1 u0 u1 u2 u3 s0 s1 r0 r1 zs0 zs1 zr0 zr1 hb2 hpc hT1
    have b0 : w2.cell? ⟨w.heap.size, 0, none⟩ = some (.int .i64 t) := (box_cells hT2.hb).1 0
    have b1 : w2.cell? ⟨w.heap.size, 1, none⟩ = some (.slice x n c) := (box_cells hT2.hb).1 1
    have u0 : w2.cell? ⟨w.heap.size + 1, 0, none⟩ = some (.int .i64 mn) := (box_cells hT2.hu).1 0
    have u1 : w2.cell? ⟨w.heap.size + 1, 1, none⟩ = some (.int .i64 mx) := (box_cells hT2.hu).1 1
    have u2 : w2.cell? ⟨w.heap.size + 1, 2, none⟩ = some (.int .i64 us) := (box_cells hT2.hu).1 2
    have u3 : w2.cell? ⟨w.heap.size + 1, 3, none⟩ = some (.int .i64 co) := (box_cells hT2.hu).1 3
    have s0 : w2.cell? ⟨w.heap.size + 2, 0, none⟩ = some (.int .i64 0) := (box_cells hT2.hs).1 0
    have s1 : w2.cell? ⟨w.heap.size + 2, 1, none⟩ = some (.slice none 0 0) := (box_cells hT2.hs).1 1
    have r0 : w2.cell? ⟨w.heap.size + 3, 0, none⟩ = some (.int .i64 0) := (box_cells hT2.hr).1 0
    have r1 : w2.cell? ⟨w.heap.size + 3, 1, none⟩ = some (.int .i64 0) := (box_cells hT2.hr).1 1
    have zs0 : w2.frozen? ⟨w.heap.size + 2, 0, none⟩ = false := (box_cells hT2.hs).2 0
    have zs1 : w2.frozen? ⟨w.heap.size + 2, 1, none⟩ = false := (box_cells hT2.hs).2 1
    have zr0 : w2.frozen? ⟨w.heap.size + 3, 0, none⟩ = false := (box_cells hT2.hr).2 0
    have zr1 : w2.frozen? ⟨w.heap.size + 3, 1, none⟩ = false := (box_cells hT2.hr).2 1
    cases hid : wth id 1 65536 with
    | false =>
      have hne : Hid (nestE t ps id up z mn mx us co = 3 ∧ (3 : Int) ≠ 0) := ⟨nest_root (hR1.out.trans (if_pos hid)) (by decide), by decide⟩
      go_wp2_with fail
      refine (within_at id 1 65536 false hid _).mono ?_
      rintro e w2 ⟨rfl, rfl⟩
      go_wp2
      refine bodyPost_ret (v := .tuple #[.agg #[.int .i64 0, .slice none 0 0], .agg #[.int .i64 0, .int .i64 0], .int .i64 3]) (by simp [results, Tryz.results8, go_sem, s0, s1, r0, r1]) rfl ?_
      exact NestPost2.err hne.out (hT2.fin _ _ _ _)
    | true =>
      go_wp2_with fail
      refine (within_at id 1 65536 true hid _).mono ?_
      rintro e w2 ⟨rfl, rfl⟩
      have hR2 : Hid (nestRE t ps id up z = if atId ps up < 0 then 5 else if 0 ≤ atId ps id then 6 else pfitE (poAt ps (atId ps up).toNat) z) := hR1.out.trans (if_neg (by simp [hid]))
      clear hR1
      by_cases hneg : ia < 0
      · have hne : Hid (nestE t ps id up z mn mx us co = 5 ∧ (5 : Int) ≠ 0) := ⟨nest_root (hR2.out.trans (if_pos (by rw [← hia.out]; exact hneg))) (by decide), by decide⟩
        clear hR2 hia
        go_wp2
        refine bodyPost_ret (v := .tuple #[.agg #[.int .i64 0, .slice none 0 0], .agg #[.int .i64 0, .int .i64 0], .int .i64 5]) (by simp [results, Tryz.results8, go_sem, s0, s1, r0, r1]) rfl ?_
        exact NestPost2.err hne.out (hT2.fin _ _ _ _)
      · obtain ⟨i, hi, hati, -⟩ := atId_range (ps := ps) (id := up) (by rw [← hia.out]; exact hneg)
        have hto : Hid ((atId ps up).toNat = i) := by unfold Hid; rw [hati]; rfl
        have hR3 : Hid (nestRE t ps id up z = if 0 ≤ atId ps id then 6 else pfitE (poAt ps i) z) := by
          have h := hR2.out
          rw [if_neg (by rw [← hia.out]; exact hneg), hto.out] at h
          exact h
        obtain rfl : ia = (i : Int) := hia.out.trans hati
        obtain ⟨hchk, hrule, -, -⟩ := pool_ok (hpools i hi)
        obtain ⟨hu1, hu2, hu3, hu4, -, -⟩ := rule_ok hrule
        have hl32 := (chkS_ok hchk).1
        have hip : Hid (i < ps.length) := hi
        rw [hpl.out] at hi
        have hi0 : (0 : Int) ≤ i := by omega
        have hin : (i : Int) < n := by omega
        have hng : ¬ (i : Int) < 0 := by omega
        clear hR2 hia hneg hpools hrule hati
        have hpc := poolAt_any t id x n c ps w2 (hk.later hT2.below).ps (by omega)
        obtain ⟨ja, hja⟩ : ∃ ja, Hid (ja = atId ps id) := ⟨_, rfl⟩
        rw [← hja.out] at hpc
        by_cases hge : ja ≥ 0
        · have hne : Hid (nestE t ps id up z mn mx us co = 6 ∧ (6 : Int) ≠ 0) := ⟨nest_root (hR3.out.trans (if_pos (by rw [← hja.out]; exact hge))) (by decide), by decide⟩
          go_wp2_with fail
          refine hpc.mono ?_
          rintro e w3 ⟨rfl, hb3⟩
          have hT3 := hT2.later hb3
          clear b0 b1 u0 u1 u2 u3 s0 s1 r0 r1 zs0 zs1 zr0 zr1
          have b0 : w3.cell? ⟨w.heap.size, 0, none⟩ = some (.int .i64 t) := (box_cells hT3.hb).1 0
          have b1 : w3.cell? ⟨w.heap.size, 1, none⟩ = some (.slice x n c) := (box_cells hT3.hb).1 1
          have u0 : w3.cell? ⟨w.heap.size + 1, 0, none⟩ = some (.int .i64 mn) := (box_cells hT3.hu).1 0
          have u1 : w3.cell? ⟨w.heap.size + 1, 1, none⟩ = some (.int .i64 mx) := (box_cells hT3.hu).1 1
          have u2 : w3.cell? ⟨w.heap.size + 1, 2, none⟩ = some (.int .i64 us) := (box_cells hT3.hu).1 2
          have u3 : w3.cell? ⟨w.heap.size + 1, 3, none⟩ = some (.int .i64 co) := (box_cells hT3.hu).1 3
          have s0 : w3.cell? ⟨w.heap.size + 2, 0, none⟩ = some (.int .i64 0) := (box_cells hT3.hs).1 0
          have s1 : w3.cell? ⟨w.heap.size + 2, 1, none⟩ = some (.slice none 0 0) := (box_cells hT3.hs).1 1
          have r0 : w3.cell? ⟨w.heap.size + 3, 0, none⟩ = some (.int .i64 0) := (box_cells hT3.hr).1 0
          have r1 : w3.cell? ⟨w.heap.size + 3, 1, none⟩ = some (.int .i64 0) := (box_cells hT3.hr).1 1
          have zs0 : w3.frozen? ⟨w.heap.size + 2, 0, none⟩ = false := (box_cells hT3.hs).2 0
          have zs1 : w3.frozen? ⟨w.heap.size + 2, 1, none⟩ = false := (box_cells hT3.hs).2 1
          have zr0 : w3.frozen? ⟨w.heap.size + 3, 0, none⟩ = false := (box_cells hT3.hr).2 0
          have zr1 : w3.frozen? ⟨w.heap.size + 3, 1, none⟩ = false := (box_cells hT3.hr).2 1
          go_wp2
          refine bodyPost_ret (v := .tuple #[.agg #[.int .i64 0, .slice none 0 0], .agg #[.int .i64 0, .int .i64 0], .int .i64 6]) (by simp [results, Tryz.results8, go_sem, s0, s1, r0, r1]) rfl ?_
          exact NestPost2.err hne.out (hT3.fin _ _ _ _)
        · have hR4 : Hid (nestRE t ps id up z = pfitE (poAt ps i) z) := hR3.out.trans (if_neg (by rw [← hja.out]; omega))
          go_wp2_with fail
          refine hpc.mono ?_
          rintro e w3 ⟨rfl, hb3⟩
          have hT3 := hT2.later hb3
          have hk3 := hk.later hT3.below
          clear b0 b1 u0 u1 u2 u3 s0 s1 r0 r1 zs0 zs1 zr0 zr1 hb3 hpc hT2 hja hR3
          obtain ⟨b, o, rfl, c0, c1, c2, c3, c4, c5, c6, c7, c8⟩ := hk3.ps.cells i hi
          have b1 : w3.cell? ⟨w.heap.size, 1, none⟩ = some (.slice (some ⟨b, o, none⟩) n c) := (box_cells hT3.hb).1 1
          go_upto_region 11 with fail
          have g1 := Ws.here b1
          have g4 := Ws.here c4
          have g5 := Ws.here c5
          clear b1 c0 c1 c2 c3 c4 c5 c6 c7 c8
          cases hwz : wth z (poAt ps i).mn (poAt ps i).mx with
          | false =>
            have hout : z < (poAt ps i).mn ∨ (poAt ps i).mx < z := by
              unfold wth at hwz
              simp only [Bool.and_eq_false_iff, decide_eq_false_iff_not] at hwz
              omega
            have hne : Hid (nestE t ps id up z mn mx us co = 7 ∧ (7 : Int) ≠ 0) := ⟨nest_root (hR4.out.trans (by unfold pfitE; rw [if_pos hout])) (by decide), by decide⟩
            refine wp_region_ws w3.heap.size (by kernel_rfl) (by kernel_rfl) ?_
            repeat (go_big_quiet_step ((go_at_call 25; exact Calls.in_ws_same (within_at _ _ _ _ hwz _))))
            refine wpQuiet_nil ?_
            rintro _ ⟨u, rfl⟩
            have hu := hT3.later u.property
            generalize u.val = wu at hu ⊢
            clear u g1 g4 g5
            have b0 : wu.cell? ⟨w.heap.size, 0, none⟩ = some (.int .i64 t) := (box_cells hu.hb).1 0
            have b1 : wu.cell? ⟨w.heap.size, 1, none⟩ = some (.slice (some ⟨b, o, none⟩) n c) := (box_cells hu.hb).1 1
            have u0 : wu.cell? ⟨w.heap.size + 1, 0, none⟩ = some (.int .i64 mn) := (box_cells hu.hu).1 0
            have u1 : wu.cell? ⟨w.heap.size + 1, 1, none⟩ = some (.int .i64 mx) := (box_cells hu.hu).1 1
            have u2 : wu.cell? ⟨w.heap.size + 1, 2, none⟩ = some (.int .i64 us) := (box_cells hu.hu).1 2
            have u3 : wu.cell? ⟨w.heap.size + 1, 3, none⟩ = some (.int .i64 co) := (box_cells hu.hu).1 3
            have s0 : wu.cell? ⟨w.heap.size + 2, 0, none⟩ = some (.int .i64 0) := (box_cells hu.hs).1 0
            have s1 : wu.cell? ⟨w.heap.size + 2, 1, none⟩ = some (.slice none 0 0) := (box_cells hu.hs).1 1
            have r0 : wu.cell? ⟨w.heap.size + 3, 0, none⟩ = some (.int .i64 0) := (box_cells hu.hr).1 0
            have r1 : wu.cell? ⟨w.heap.size + 3, 1, none⟩ = some (.int .i64 0) := (box_cells hu.hr).1 1
            have zs0 : wu.frozen? ⟨w.heap.size + 2, 0, none⟩ = false := (box_cells hu.hs).2 0
            have zs1 : wu.frozen? ⟨w.heap.size + 2, 1, none⟩ = false := (box_cells hu.hs).2 1
            have zr0 : wu.frozen? ⟨w.heap.size + 3, 0, none⟩ = false := (box_cells hu.hr).2 0
            have zr1 : wu.frozen? ⟨w.heap.size + 3, 1, none⟩ = false := (box_cells hu.hr).2 1
            go_wp2
            refine bodyPost_ret (v := .tuple #[.agg #[.int .i64 0, .slice none 0 0], .agg #[.int .i64 0, .int .i64 0], .int .i64 7]) (by simp [results, Tryz.results8, go_sem, s0, s1, r0, r1]) rfl ?_
            exact NestPost2.err hne.out (hu.fin _ _ _ _)
          | true =>
            have hin2 : ¬ (z < (poAt ps i).mn ∨ (poAt ps i).mx < z) := by
              unfold wth at hwz
              simp only [Bool.and_eq_true, decide_eq_true_eq] at hwz
              omega
            have hE3 : Hid (pfitS (poAt ps i) z = none → nestE t ps id up z mn mx us co = 8) := fun h => nest_root (hR4.out.trans (by unfold pfitE; rw [if_neg hin2, h])) (by decide)
            have hE4 : Hid (∀ y, pfitS (poAt ps i) z = some y → nestE t ps id up z mn mx us co = addE ps z mn mx us co ∧ nestRO t ps id up z = (y, z)) := fun y h => by
              have h0 : nestRE t ps id up z = 0 := hR4.out.trans (by unfold pfitE; rw [if_neg hin2, h])
              have h1 := nest_add (mn := mn) (mx := mx) (us := us) (co := co) h0
              rw [hto.out] at h1
              have h2 : pfitO (poAt ps i) z = (y, z) := by unfold pfitO; rw [if_neg hin2, h]
              rw [h2] at h1
              exact h1
            have hz1 : (poAt ps i).l ≤ z := by omega
            have hz2 : z ≤ 16 := by omega
            refine wp_region_ws w3.heap.size (by kernel_rfl) (by kernel_rfl) ?_
            repeat (go_big_quiet_step ((go_at_call 25; exact Calls.in_ws_same (within_at _ _ _ _ hwz _))))
            refine wpQuiet_nil ?_
            rintro _ ⟨u, rfl⟩
            have hB4 := u.property
            generalize u.val = w4 at hB4 ⊢
            clear u g1 g4 g5 hwz hin2 hR4
            have hT4 := hT3.later hB4
            have hk4 := hk3.later hB4
            clear hT3 hk3 hB4
            obtain ⟨b', o', hbo, c0, c1, c2, c3, c4, c5, c6, c7, c8⟩ := hk4.ps.cells i hi
            simp only [Option.some.injEq, Addr.mk.injEq, and_true] at hbo
            obtain ⟨rfl, rfl⟩ := hbo
            obtain ⟨-, -, hLS⟩ := hk4.ps.leases i hi
            have b1 : w4.cell? ⟨w.heap.size, 1, none⟩ = some (.slice (some ⟨b, o, none⟩) n c) := (box_cells hT4.hb).1 1
            have hroom := room_any (poAt ps i) z w4 hLS hchk hz1 hz2
            cases hq : pfitS (poAt ps i) z with
            | none =>
              rw [hq] at hroom
              have hne : Hid (nestE t ps id up z mn mx us co = 8 ∧ (8 : Int) ≠ 0) := ⟨hE3.out hq, by decide⟩
              unfold fitR at hroom
              go_wp2_with fail
              refine hroom.mono ?_
              rintro e w5 ⟨rfl, hb5⟩
              have hT5 := hT4.later hb5
              clear b1 c0 c1 c2 c3 c4 c5 c6 c7 c8 hroom
              go_upto_region 14 with fail
              have hT6 := hT5.later (bl1 w5 (.cells #[.int .i64 0, .int .i64 0] 26))
              generalize w5.alloc (.cells #[.int .i64 0, .int .i64 0] 26) = w6 at hT6 ⊢
              have b0 : w6.cell? ⟨w.heap.size, 0, none⟩ = some (.int .i64 t) := (box_cells hT6.hb).1 0
              have b1 : w6.cell? ⟨w.heap.size, 1, none⟩ = some (.slice (some ⟨b, o, none⟩) n c) := (box_cells hT6.hb).1 1
              have u0 : w6.cell? ⟨w.heap.size + 1, 0, none⟩ = some (.int .i64 mn) := (box_cells hT6.hu).1 0
              have u1 : w6.cell? ⟨w.heap.size + 1, 1, none⟩ = some (.int .i64 mx) := (box_cells hT6.hu).1 1
              have u2 : w6.cell? ⟨w.heap.size + 1, 2, none⟩ = some (.int .i64 us) := (box_cells hT6.hu).1 2
              have u3 : w6.cell? ⟨w.heap.size + 1, 3, none⟩ = some (.int .i64 co) := (box_cells hT6.hu).1 3
              have s0 : w6.cell? ⟨w.heap.size + 2, 0, none⟩ = some (.int .i64 0) := (box_cells hT6.hs).1 0
              have s1 : w6.cell? ⟨w.heap.size + 2, 1, none⟩ = some (.slice none 0 0) := (box_cells hT6.hs).1 1
              have r0 : w6.cell? ⟨w.heap.size + 3, 0, none⟩ = some (.int .i64 0) := (box_cells hT6.hr).1 0
              have r1 : w6.cell? ⟨w.heap.size + 3, 1, none⟩ = some (.int .i64 0) := (box_cells hT6.hr).1 1
              have zs0 : w6.frozen? ⟨w.heap.size + 2, 0, none⟩ = false := (box_cells hT6.hs).2 0
              have zs1 : w6.frozen? ⟨w.heap.size + 2, 1, none⟩ = false := (box_cells hT6.hs).2 1
              have zr0 : w6.frozen? ⟨w.heap.size + 3, 0, none⟩ = false := (box_cells hT6.hr).2 0
              have zr1 : w6.frozen? ⟨w.heap.size + 3, 1, none⟩ = false := (box_cells hT6.hr).2 1
              go_wp2
              refine bodyPost_ret (v := .tuple #[.agg #[.int .i64 0, .slice none 0 0], .agg #[.int .i64 0, .int .i64 0], .int .i64 8]) (by simp [results, Tryz.results8, go_sem, s0, s1, r0, r1]) rfl ?_
              exact NestPost2.err hne.out (hT6.fin _ _ _ _)
            | some y =>
              rw [hq] at hroom
              obtain ⟨hadd0, hro0⟩ := hE4.out y hq
              have hadd : Hid (nestE t ps id up z mn mx us co = addE ps z mn mx us co) := hadd0
              have hro : Hid (nestRO t ps id up z = (y, z)) := hro0
              clear hE3 hE4 hadd0 hro0 hq
              unfold fitR at hroom
              go_wp2_with fail
              refine hroom.mono ?_
              rintro e w5 ⟨rfl, hb5⟩
              have hT5 := hT4.later hb5
              clear b1 c0 c1 c2 c3 c4 c5 c6 c7 c8 hroom hb5 hLS hk4 hT4
              go_upto_region 14 with fail
              obtain ⟨w6, hw6⟩ : ∃ w6, w6 = w5.alloc (.cells #[.int .i64 y, .int .i64 z] 26) := ⟨_, rfl⟩
              rw [← hw6]
              have hT6 : TN w w6 t mn mx us co (.slice (some ⟨b, o, none⟩) n c) := by rw [hw6]; exact hT5.later (bl1 _ _)
              have hp6 : w6.heap[w5.heap.size]? = some (.cells #[.int .i64 y, .int .i64 z] 26) := by rw [hw6]; exact heap_new _ rfl
              have hkp : w.heap.size + 3 < w5.heap.size := (Array.getElem?_eq_some_iff.1 hT5.hr).1
              clear hw6 hT5
              generalize w5.heap.size = kp at hp6 hkp ⊢
              have b0 : w6.cell? ⟨w.heap.size, 0, none⟩ = some (.int .i64 t) := (box_cells hT6.hb).1 0
              have b1 : w6.cell? ⟨w.heap.size, 1, none⟩ = some (.slice (some ⟨b, o, none⟩) n c) := (box_cells hT6.hb).1 1
              have u0 : w6.cell? ⟨w.heap.size + 1, 0, none⟩ = some (.int .i64 mn) := (box_cells hT6.hu).1 0
              have u1 : w6.cell? ⟨w.heap.size + 1, 1, none⟩ = some (.int .i64 mx) := (box_cells hT6.hu).1 1
              have u2 : w6.cell? ⟨w.heap.size + 1, 2, none⟩ = some (.int .i64 us) := (box_cells hT6.hu).1 2
              have u3 : w6.cell? ⟨w.heap.size + 1, 3, none⟩ = some (.int .i64 co) := (box_cells hT6.hu).1 3
              have s0 : w6.cell? ⟨w.heap.size + 2, 0, none⟩ = some (.int .i64 0) := (box_cells hT6.hs).1 0
              have s1 : w6.cell? ⟨w.heap.size + 2, 1, none⟩ = some (.slice none 0 0) := (box_cells hT6.hs).1 1
              have r0 : w6.cell? ⟨w.heap.size + 3, 0, none⟩ = some (.int .i64 0) := (box_cells hT6.hr).1 0
              have r1 : w6.cell? ⟨w.heap.size + 3, 1, none⟩ = some (.int .i64 0) := (box_cells hT6.hr).1 1
              have zs0 : w6.frozen? ⟨w.heap.size + 2, 0, none⟩ = false := (box_cells hT6.hs).2 0
              have zs1 : w6.frozen? ⟨w.heap.size + 2, 1, none⟩ = false := (box_cells hT6.hs).2 1
              have zr0 : w6.frozen? ⟨w.heap.size + 3, 0, none⟩ = false := (box_cells hT6.hr).2 0
              have zr1 : w6.frozen? ⟨w.heap.size + 3, 1, none⟩ = false := (box_cells hT6.hr).2 1
              have p0 : w6.cell? ⟨kp, 0, none⟩ = some (.int .i64 y) := (box_cells hp6).1 0
              have p1 : w6.cell? ⟨kp, 1, none⟩ = some (.int .i64 z) := (box_cells hp6).1 1
              cases hru : ruleB mn mx us co z with
              | false =>
                have hne : Hid (nestE t ps id up z mn mx us co = 1 ∧ (1 : Int) ≠ 0) := ⟨hadd.out.trans (if_pos hru), by decide⟩
                go_wp2_with fail
                refine (ruleFine_at mn mx us co y z false hru _).mono ?_
                rintro e w7 ⟨rfl, hb7⟩
                have hT7 := hT6.later hb7
                clear b0 b1 u0 u1 u2 u3 s0 s1 r0 r1 zs0 zs1 zr0 zr1 p0 p1
                have b0 : w7.cell? ⟨w.heap.size, 0, none⟩ = some (.int .i64 t) := (box_cells hT7.hb).1 0
                have b1 : w7.cell? ⟨w.heap.size, 1, none⟩ = some (.slice (some ⟨b, o, none⟩) n c) := (box_cells hT7.hb).1 1
                have u0 : w7.cell? ⟨w.heap.size + 1, 0, none⟩ = some (.int .i64 mn) := (box_cells hT7.hu).1 0
                have u1 : w7.cell? ⟨w.heap.size + 1, 1, none⟩ = some (.int .i64 mx) := (box_cells hT7.hu).1 1
                have u2 : w7.cell? ⟨w.heap.size + 1, 2, none⟩ = some (.int .i64 us) := (box_cells hT7.hu).1 2
                have u3 : w7.cell? ⟨w.heap.size + 1, 3, none⟩ = some (.int .i64 co) := (box_cells hT7.hu).1 3
                have s0 : w7.cell? ⟨w.heap.size + 2, 0, none⟩ = some (.int .i64 0) := (box_cells hT7.hs).1 0
                have s1 : w7.cell? ⟨w.heap.size + 2, 1, none⟩ = some (.slice none 0 0) := (box_cells hT7.hs).1 1
                have r0 : w7.cell? ⟨w.heap.size + 3, 0, none⟩ = some (.int .i64 0) := (box_cells hT7.hr).1 0
                have r1 : w7.cell? ⟨w.heap.size + 3, 1, none⟩ = some (.int .i64 0) := (box_cells hT7.hr).1 1
                have zs0 : w7.frozen? ⟨w.heap.size + 2, 0, none⟩ = false := (box_cells hT7.hs).2 0
                have zs1 : w7.frozen? ⟨w.heap.size + 2, 1, none⟩ = false := (box_cells hT7.hs).2 1
                have zr0 : w7.frozen? ⟨w.heap.size + 3, 0, none⟩ = false := (box_cells hT7.hr).2 0
                have zr1 : w7.frozen? ⟨w.heap.size + 3, 1, none⟩ = false := (box_cells hT7.hr).2 1
                go_wp2
                refine bodyPost_ret (v := .tuple #[.agg #[.int .i64 0, .slice none 0 0], .agg #[.int .i64 0, .int .i64 0], .int .i64 1]) (by simp [results, Tryz.results8, go_sem, s0, s1, r0, r1]) rfl ?_
                exact NestPost2.err hne.out (hT7.fin _ _ _ _)
              | true =>
                go_wp2_with fail
                refine (ruleFine_at mn mx us co y z true hru _).mono ?_
                rintro e w7 ⟨rfl, hb7⟩
                have hT7 := hT6.later hb7
                have hp7 := heap_later hb7 hp6
                clear b0 b1 u0 u1 u2 u3 s0 s1 r0 r1 zs0 zs1 zr0 zr1 p0 p1 hb7 hT6 hp6
                by_cases hn8' : n = 8
                · have hne : Hid (nestE t ps id up z mn mx us co = 2 ∧ (2 : Int) ≠ 0) := ⟨hadd.out.trans (by unfold addE; rw [if_neg (by simp [hru]), if_pos (by rw [hpl.out]; exact hn8')]), by decide⟩
                  have hge8 : (n : Int) ≥ 8 := by omega
                  have b0 : w7.cell? ⟨w.heap.size, 0, none⟩ = some (.int .i64 t) := (box_cells hT7.hb).1 0
                  have b1 : w7.cell? ⟨w.heap.size, 1, none⟩ = some (.slice (some ⟨b, o, none⟩) n c) := (box_cells hT7.hb).1 1
                  have u0 : w7.cell? ⟨w.heap.size + 1, 0, none⟩ = some (.int .i64 mn) := (box_cells hT7.hu).1 0
                  have u1 : w7.cell? ⟨w.heap.size + 1, 1, none⟩ = some (.int .i64 mx) := (box_cells hT7.hu).1 1
                  have u2 : w7.cell? ⟨w.heap.size + 1, 2, none⟩ = some (.int .i64 us) := (box_cells hT7.hu).1 2
                  have u3 : w7.cell? ⟨w.heap.size + 1, 3, none⟩ = some (.int .i64 co) := (box_cells hT7.hu).1 3
                  have s0 : w7.cell? ⟨w.heap.size + 2, 0, none⟩ = some (.int .i64 0) := (box_cells hT7.hs).1 0
                  have s1 : w7.cell? ⟨w.heap.size + 2, 1, none⟩ = some (.slice none 0 0) := (box_cells hT7.hs).1 1
                  have r0 : w7.cell? ⟨w.heap.size + 3, 0, none⟩ = some (.int .i64 0) := (box_cells hT7.hr).1 0
                  have r1 : w7.cell? ⟨w.heap.size + 3, 1, none⟩ = some (.int .i64 0) := (box_cells hT7.hr).1 1
                  have zs0 : w7.frozen? ⟨w.heap.size + 2, 0, none⟩ = false := (box_cells hT7.hs).2 0
                  have zs1 : w7.frozen? ⟨w.heap.size + 2, 1, none⟩ = false := (box_cells hT7.hs).2 1
                  have zr0 : w7.frozen? ⟨w.heap.size + 3, 0, none⟩ = false := (box_cells hT7.hr).2 0
                  have zr1 : w7.frozen? ⟨w.heap.size + 3, 1, none⟩ = false := (box_cells hT7.hr).2 1
                  go_wp2
                  refine bodyPost_ret (v := .tuple #[.agg #[.int .i64 0, .slice none 0 0], .agg #[.int .i64 0, .int .i64 0], .int .i64 2]) (by simp [results, Tryz.results8, go_sem, s0, s1, r0, r1]) rfl ?_
                  exact NestPost2.err hne.out (hT7.fin _ _ _ _)
                · have hE0 : Hid (nestE t ps id up z mn mx us co = 0) := hadd.out.trans (by unfold addE; rw [if_neg (by simp [hru]), if_neg (by rw [hpl.out]; exact hn8')])
                  have hge8 : ¬ (n : Int) ≥ 8 := by omega
                  have b0 : w7.cell? ⟨w.heap.size, 0, none⟩ = some (.int .i64 t) := (box_cells hT7.hb).1 0
                  have b1 : w7.cell? ⟨w.heap.size, 1, none⟩ = some (.slice (some ⟨b, o, none⟩) n c) := (box_cells hT7.hb).1 1
                  go_wp2_with fail
                  refine (ownBook_any t (some ⟨b, o, none⟩) n c ps w7 (hk.later hT7.below) (by omega)).mono ?_
                  rintro e w8 ⟨v8, qs, rfl, hs, hOB, hb8⟩
                  have hql : i < qs.length := by rw [← hs.1]; exact hip.out
                  rcases hOB.row.2 with ⟨-, h0⟩ | ⟨g, cap, cur, rfl, hg1, hg2, -⟩
                  · omega
                  clear b0 b1
                  go_upto_region 21 with fail
                  obtain ⟨w9, hw9⟩ : ∃ w9, w9 = w8.alloc (bkV t (.slice (some ⟨g, 0, none⟩) qs.length cap)) := ⟨_, rfl⟩
                  rw [← hw9]
                  have hB9 : Below w7.heap.size w7 w9 := by rw [hw9]; exact hb8.trans ((bl1 _ _).mono hb8.size)
                  have hT9 := hT7.later hB9
                  have hp9 := heap_later hB9 hp7
                  have hn9 : w9.heap[w8.heap.size]? = some (bkV t (.slice (some ⟨g, 0, none⟩) qs.length cap)) := by rw [hw9]; exact heap_new _ rfl
                  have hOB9 : OBk w9 w7.heap.size (.slice (some ⟨g, 0, none⟩) qs.length cap) qs qs.length := by rw [hw9]; exact hOB.later (bl1 _ _)
                  have hs9 : w7.heap.size ≤ w9.heap.size := hB9.size
                  have hko : w.heap.size + 3 < w8.heap.size := by have := (Array.getElem?_eq_some_iff.1 hT7.hr).1; have := hb8.size; omega
                  clear hw9 hOB hb8 hg2
                  generalize w8.heap.size = ko at hn9 hko ⊢
                  have hsp := hs.2 i hip.out
                  have hqn : (poAt qs i).n ≤ 32 := by rw [← hsp.2.2.2.2.2.2.2.2.1]; omega
                  have hql2 : (i : Int) < qs.length := by omega
                  obtain ⟨hbg, cur9, hg9⟩ := hOB9.row.block
                  obtain ⟨d0, d1, d2, d3, d4, d5, d6, d7, d8⟩ := hOB9.row.cells9 i hql
                  have m1 : w9.cell? ⟨ko, 1, none⟩ = some (.slice (some ⟨g, 0, none⟩) qs.length cap) := (box_cells hn9).1 1
                  have p0 : w9.cell? ⟨kp, 0, none⟩ = some (.int .i64 y) := (box_cells hp9).1 0
                  have p1 : w9.cell? ⟨kp, 1, none⟩ = some (.int .i64 z) := (box_cells hp9).1 1
                  go_cut [17] (fun s wd => s = .pointer (some ⟨ko, 0, none⟩) ∧ ∃ x' c' wa, OwnL wa w9.heap.size (.slice x' (insE ⟨y, z, 2, id, 0⟩ (poAt qs i).ls).length c') (insE ⟨y, z, 2, id, 0⟩ (poAt qs i).ls) ∧ Below w9.heap.size w9 wa ∧ wd = wa.setCell ⟨g, i * 9 + 8, none⟩ (.slice x' (insE ⟨y, z, 2, id, 0⟩ (poAt qs i).ls).length c'))
                  case first =>
                    have g1 := Ws.here m1
                    have h0 := Ws.here p0
                    have h1 := Ws.here p1
                    have e0 := Ws.here d0
                    have e1 := Ws.here d1
                    have e2 := Ws.here d2
                    have e3 := Ws.here d3
                    have e4 := Ws.here d4
                    have e5 := Ws.here d5
                    have e6 := Ws.here d6
                    have e7 := Ws.here d7
                    have e8 := Ws.here d8
                    refine wp_region_wild w9.heap.size 11 (by kernel_rfl) (by kernel_rfl) (by kernel_rfl) (fun d _ _ _ _ h => by cases d <;> exact h) ?_
                    simp only [List.take_succ_cons, List.take_zero, List.drop_succ_cons, List.drop_zero]
                    repeat (go_big_quiet_step (fail))
                    refine wpQuiet_nil ?_
                    intro uu
                    have hBu := uu.property
                    generalize uu.val = wu at hBu ⊢
                    clear uu g1 h0 h1 e0 e1 e2 e3 e4 e5 e6 e7 e8
                    go_wp2_with fail
                    refine (addLeaseR_any (poAt qs i) ⟨y, z, 2, id, 0⟩ wu ((hOB9.own i hql).ls.1.later hBu) hqn).mono ?_
                    rintro e wa ⟨x', c', rfl, hOa, hBa'⟩
                    have hBa : Below w9.heap.size w9 wa := hBu.trans (hBa'.mono hBu.size)
                    clear hBa'
                    go_wp2_with fail
                    refine wildQ_normal ⟨⟨wa, hBa⟩, rfl⟩ ?_
                    have f0 := cell_later_add hBa d0
                    have f1 := cell_later_add hBa d1
                    have f2 := cell_later_add hBa d2
                    have f3 := cell_later_add hBa d3
                    have f4 := cell_later_add hBa d4
                    have f5 := cell_later_add hBa d5
                    have f6 := cell_later_add hBa d6
                    have f7 := cell_later_add hBa d7
                    have f8 := cell_later_add hBa d8
                    have zg8 := (box_cells (heap_later hBa hg9)).2
                    clear m1 p0 p1 d0 d1 d2 d3 d4 d5 d6 d7 d8
                    have hself : (((((((((wa.setCell ⟨g, i * 9, none⟩ (.int .i64 (poAt qs i).id)).setCell ⟨g, i * 9 + 1, none⟩ (.int .i64 (poAt qs i).up)).setCell ⟨g, i * 9 + 2, none⟩ (.int .i64 (poAt qs i).a)).setCell ⟨g, i * 9 + 3, none⟩ (.int .i64 (poAt qs i).l)).setCell ⟨g, i * 9 + 4, none⟩ (.int .i64 (poAt qs i).mn)).setCell ⟨g, i * 9 + 5, none⟩ (.int .i64 (poAt qs i).mx)).setCell ⟨g, i * 9 + 6, none⟩ (.int .i64 (poAt qs i).us)).setCell ⟨g, i * 9 + 7, none⟩ (.int .i64 (poAt qs i).co)).setCell ⟨g, i * 9 + 8, none⟩ (.slice x' (insE ⟨y, z, 2, id, 0⟩ (poAt qs i).ls).length c')) = wa.setCell ⟨g, i * 9 + 8, none⟩ (.slice x' (insE ⟨y, z, 2, id, 0⟩ (poAt qs i).ls).length c') := by rw [setCell_self f0, setCell_self f1, setCell_self f2, setCell_self f3, setCell_self f4, setCell_self f5, setCell_self f6, setCell_self f7]
                    go_wp2
                    go_meet
                    case rel => exact ⟨rfl, x', c', wa, hOa.low hBu.size, hBa, hself⟩
                  case rest =>
                    obtain ⟨rfl, x', c', wa, hOa, hBa, hwd⟩ := hcut
                    clear m1 p0 p1 d0 d1 d2 d3 d4 d5 d6 d7 d8
                    rw [hwd]
                    have hOBf := hOB9.swap (i := i) hql hBa hOa hs9
                    have hKf : Kept w7.heap.size w9 (wa.setCell ⟨g, i * 9 + 8, none⟩ (.slice x' (insE ⟨y, z, 2, id, 0⟩ (poAt qs i).ls).length c')) := (Kept.of_below hBa hs9).trans (Kept.of_grown (set_grown _ _ _ _) hbg (Nat.le_trans hs9 hBa.size) (heap_later hBa hg9) (.inl rfl))
                    obtain ⟨wb, hwb⟩ : ∃ wb, wb = wa.setCell ⟨g, i * 9 + 8, none⟩ (.slice x' (insE ⟨y, z, 2, id, 0⟩ (poAt qs i).ls).length c') := ⟨_, rfl⟩
                    rw [← hwb] at hOBf hKf ⊢
                    have hTb := hT9.kept hKf hT7.below.size
                    have hnb := hKf.box _ _ _ hn9 (by decide) (by decide)
                    have hpb := hKf.box _ _ _ hp9 (by decide) (by decide)
                    have hsz7 : w.heap.size + 3 < w7.heap.size := (Array.getElem?_eq_some_iff.1 hT7.hr).1
                    have hsb : w7.heap.size ≤ wb.heap.size := Nat.le_trans hs9 hKf.size
                    clear hwb hwd hKf hOa hBa
                    obtain ⟨qt, hqt⟩ : ∃ qt, Hid (qt = qs.set i (withL (poAt qs i) x' (insE ⟨y, z, 2, id, 0⟩ (poAt qs i).ls).length c' (insE ⟨y, z, 2, id, 0⟩ (poAt qs i).ls))) := ⟨_, rfl⟩
                    rw [← hqt.out] at hOBf
                    have hqtl : qt.length = qs.length := by rw [hqt.out, List.length_set]
                    have hsmt : ∀ j, j < qt.length → (poAt qt j).n ≤ 1048576 := fun j hj => by
                      rw [hqtl] at hj
                      rw [hqt.out, poAt_set hql]
                      split
                      · show (insE ⟨y, z, 2, id, 0⟩ (poAt qs i).ls).length ≤ 1048576
                        have h1 := (ins_put ⟨y, z, 2, id, 0⟩ (poAt qs i).ls).len
                        have h2 := (hOB9.own i hql).ls.2.1
                        omega
                      · exact ((chk_small hc0).same hs).2 j hj
                    obtain ⟨xq, cq, hvq, hBq⟩ := hOBf.bk hsmt
                    simp only [Value.slice.injEq] at hvq
                    obtain ⟨rfl, -, rfl⟩ := hvq
                    rw [hqtl] at hBq
                    have hq64 : qs.length ≤ 64 := ((chk_small hc0).same hs).1
                    have m0 : wb.cell? ⟨ko, 0, none⟩ = some (.int .i64 t) := (box_cells hnb).1 0
                    have m1 : wb.cell? ⟨ko, 1, none⟩ = some (.slice (some ⟨g, 0, none⟩) qs.length cap) := (box_cells hnb).1 1
                    have p0 : wb.cell? ⟨kp, 0, none⟩ = some (.int .i64 y) := (box_cells hpb).1 0
                    have p1 : wb.cell? ⟨kp, 1, none⟩ = some (.int .i64 z) := (box_cells hpb).1 1
                    have u0 : wb.cell? ⟨w.heap.size + 1, 0, none⟩ = some (.int .i64 mn) := (box_cells hTb.hu).1 0
                    have u1 : wb.cell? ⟨w.heap.size + 1, 1, none⟩ = some (.int .i64 mx) := (box_cells hTb.hu).1 1
                    have u2 : wb.cell? ⟨w.heap.size + 1, 2, none⟩ = some (.int .i64 us) := (box_cells hTb.hu).1 2
                    have u3 : wb.cell? ⟨w.heap.size + 1, 3, none⟩ = some (.int .i64 co) := (box_cells hTb.hu).1 3
                    have k1 : ko ≠ w.heap.size + 2 := by omega
                    have k2 : ko ≠ w.heap.size + 3 := by omega
                    have k3 : kp ≠ w.heap.size + 2 := by omega
                    have k4 : kp ≠ w.heap.size + 3 := by omega
                    have k5 : ¬ ko = w.heap.size + 1 + 1 := by omega
                    have k6 : ¬ kp = w.heap.size + 1 + 1 := by omega
                    have hadp := addPoolR_any t (some ⟨g, 0, none⟩) qs.length cap qt ⟨id, up, y, z, mn, mx, us, co, none, 0, 0, []⟩ wb.drew (hBq.ps.later (Below.refl _ _).drew) hq64
                    go_upto_region 22 with fail
                    go_region_held3 (fun w' => w'.cell? ⟨ko, 0, none⟩ = some (.int .i64 t) ∧ w'.cell? ⟨ko, 1, none⟩ = some (.slice (some ⟨g, 0, none⟩) qs.length cap) ∧ w'.cell? ⟨kp, 0, none⟩ = some (.int .i64 y) ∧ w'.cell? ⟨kp, 1, none⟩ = some (.int .i64 z) ∧ w'.cell? ⟨w.heap.size + 1, 0, none⟩ = some (.int .i64 mn) ∧ w'.cell? ⟨w.heap.size + 1, 1, none⟩ = some (.int .i64 mx) ∧ w'.cell? ⟨w.heap.size + 1, 2, none⟩ = some (.int .i64 us) ∧ w'.cell? ⟨w.heap.size + 1, 3, none⟩ = some (.int .i64 co)) (first | (go_keep; done) | exact ⟨cell_later_add hBc m0, cell_later_add hBc m1, cell_later_add hBc p0, cell_later_add hBc p1, cell_later_add hBc u0, cell_later_add hBc u1, cell_later_add hBc u2, cell_later_add hBc u3⟩ | (refine ⟨?_, ?_, ?_, ?_, ?_, ?_, ?_, ?_⟩ <;> (show World.cell? _ _ = _; (repeat rw [cell_set_ne (by omega)]); assumption))) (first | (go_at_call 30; refine hadp.mono ?_; rintro e wc ⟨v7, rfl, hP7, hBc'⟩; have hBc : Below wb.heap.size wb wc := ⟨hBc'.os, hBc'.tape, hBc'.output, hBc'.size, hBc'.block⟩; obtain ⟨x7, c7, hv7, -⟩ := hP7.mem; obtain ⟨m7, hm7⟩ : ∃ m7, Hid (m7 = (insP ⟨id, up, y, z, mn, mx, us, co, none, 0, 0, []⟩ qt).length) := ⟨_, rfl⟩; rw [← hm7.out] at hv7; subst hv7; have hTc := hTb.later hBc; have s0 : wc.cell? ⟨w.heap.size + 2, 0, none⟩ = some (.int .i64 0) := (box_cells hTc.hs).1 0; have s1 : wc.cell? ⟨w.heap.size + 2, 1, none⟩ = some (.slice none 0 0) := (box_cells hTc.hs).1 1; have r0 : wc.cell? ⟨w.heap.size + 3, 0, none⟩ = some (.int .i64 0) := (box_cells hTc.hr).1 0; have r1 : wc.cell? ⟨w.heap.size + 3, 1, none⟩ = some (.int .i64 0) := (box_cells hTc.hr).1 1; have zs0 := (box_cells hTc.hs).2; have zr0 := (box_cells hTc.hr).2; have t0 := cell_later_add hBc m0; have t1 := cell_later_add hBc m1; have t2 := cell_later_add hBc p0; have t3 := cell_later_add hBc p1; have t4 := cell_later_add hBc u0; have t5 := cell_later_add hBc u1; have t6 := cell_later_add hBc u2; have t7 := cell_later_add hBc u3) | fail)
                    go_wp2
                    refine bodyPost_ret (v := .tuple #[.agg #[.int .i64 t, .slice x7 m7 c7], .agg #[.int .i64 y, .int .i64 z], .int .i64 0]) (by simp [results, Tryz.results8, go_sem, s0, s1, r0, r1]) rfl ?_
                    have hput := insp_put ⟨id, up, y, z, mn, mx, us, co, none, 0, 0, []⟩ qt
                    have hOBc : OBk wc w7.heap.size (.slice x7 m7 c7) (insP ⟨id, up, y, z, mn, mx, us, co, none, 0, 0, []⟩ qt) (insP ⟨id, up, y, z, mn, mx, us, co, none, 0, 0, []⟩ qt).length := by
                      obtain ⟨i7, hi7, -, -, hins⟩ := insp_put ⟨id, up, y, z, mn, mx, us, co, none, 0, 0, []⟩ qt
                      rw [hins] at hP7 ⊢
                      exact hOBf.ins hi7 hBc rfl rfl rfl rfl (hP7.low hsb)
                    have hfin := hTc.fin (.int .i64 t) (.slice x7 m7 c7) (.int .i64 y) (.int .i64 z)
                    have hsz2 : w.heap.size + 2 < w7.heap.size := by omega
                    have hob := ((((hOBc.put (o := 0) (u := .int .i64 t) hsz2).put (o := 1) (u := .slice x7 m7 c7) hsz2).put (o := 0) (u := .int .i64 y) hsz7).put (o := 1) (u := .int .i64 z) hsz7).low hT7.below.size
                    refine ⟨_, insP ⟨id, up, y, z, mn, mx, us, co, none, 0, 0, []⟩ qt, t, y, z, by rw [hE0.out], hfin, hob, fun h => absurd hE0.out h, fun _ => ⟨rfl, hro.out.symm, qs, x', c', insE ⟨y, z, 2, id, 0⟩ (poAt qs i).ls, hs, ?_, ?_⟩⟩
                    · rw [hto.out, hsp.2.2.2.2.2.2.2.2.2]
                      exact ins_put _ _
                    · rw [hto.out, ← hqt.out]
                      exact hput
  · have hne : Hid (nestE t ps id up z mn mx us co = chkB t ps ∧ chkB t ps ≠ 0) := ⟨nest_root (if_pos hc0) hc0, hc0⟩
    go_wp2_with fail
    refine hck.mono ?_
    rintro e w1 ⟨rfl, hb1⟩
    have hT1 := hT0.later hb1
    clear b0 b1 u0 u1 u2 u3 s0 s1 r0 r1 zs0 zs1 zr0 zr1 hck hb1
    have b0 : w1.cell? ⟨w.heap.size, 0, none⟩ = some (.int .i64 t) := (box_cells hT1.hb).1 0
    have b1 : w1.cell? ⟨w.heap.size, 1, none⟩ = some (.slice x n c) := (box_cells hT1.hb).1 1
    have u0 : w1.cell? ⟨w.heap.size + 1, 0, none⟩ = some (.int .i64 mn) := (box_cells hT1.hu).1 0
    have u1 : w1.cell? ⟨w.heap.size + 1, 1, none⟩ = some (.int .i64 mx) := (box_cells hT1.hu).1 1
    have u2 : w1.cell? ⟨w.heap.size + 1, 2, none⟩ = some (.int .i64 us) := (box_cells hT1.hu).1 2
    have u3 : w1.cell? ⟨w.heap.size + 1, 3, none⟩ = some (.int .i64 co) := (box_cells hT1.hu).1 3
    have s0 : w1.cell? ⟨w.heap.size + 2, 0, none⟩ = some (.int .i64 0) := (box_cells hT1.hs).1 0
    have s1 : w1.cell? ⟨w.heap.size + 2, 1, none⟩ = some (.slice none 0 0) := (box_cells hT1.hs).1 1
    have r0 : w1.cell? ⟨w.heap.size + 3, 0, none⟩ = some (.int .i64 0) := (box_cells hT1.hr).1 0
    have r1 : w1.cell? ⟨w.heap.size + 3, 1, none⟩ = some (.int .i64 0) := (box_cells hT1.hr).1 1
    have zs0 : w1.frozen? ⟨w.heap.size + 2, 0, none⟩ = false := (box_cells hT1.hs).2 0
    have zs1 : w1.frozen? ⟨w.heap.size + 2, 1, none⟩ = false := (box_cells hT1.hs).2 1
    have zr0 : w1.frozen? ⟨w.heap.size + 3, 0, none⟩ = false := (box_cells hT1.hr).2 0
    have zr1 : w1.frozen? ⟨w.heap.size + 3, 1, none⟩ = false := (box_cells hT1.hr).2 1
    go_wp2
    refine bodyPost_ret (v := .tuple #[.agg #[.int .i64 0, .slice none 0 0], .agg #[.int .i64 0, .int .i64 0], .int .i64 (chkB t ps)]) (by simp [results, Tryz.results8, go_sem, s0, s1, r0, r1]) rfl ?_
    exact NestPost2.err hne.out (hT1.fin _ _ _ _)
end Go.Proofs.YtpdoonkhnabfjaaGreat
/- What PoolTakes comes to: it answers true. -/
namespace Go.Proofs.YtpdoonkhnabfjaaGreat
open Go.RowKit Go.Shelf

theorem PutLe.one {e : Le} {ls l1 l2 : List Le} (h1 : PutLe e ls l1) (h2 : PutLe e ls l2) : l1 = l2 := by
  obtain ⟨i, hi, a1, a2, rfl⟩ := h1
  obtain ⟨j, hj, b1, b2, rfl⟩ := h2
  rcases Nat.lt_trichotomy i j with h | h | h
  · exact absurd (a2 (by omega)) (b1 i h)
  · rw [h]
  · exact absurd (b2 (by omega)) (a1 j h)
theorem take_ok {t : Int} {ps : List Po} {id z ow : Int} (h : takeE t ps id z ow = 0) : chkB t ps = 0 ∧ (atId ps id).toNat < ps.length := by
  unfold takeE at h
  by_cases h1 : chkB t ps = 0
  · rw [if_neg (by simp [h1])] at h
    by_cases h2 : atId ps id < 0
    · rw [if_pos h2] at h; cases h
    · obtain ⟨i, hi, he, -⟩ := atId_range h2
      exact ⟨h1, by rw [he, Int.toNat_natCast]; exact hi⟩
  · rw [if_pos h1] at h; exact absurd h h1
def TakeR (t : Int) (ps : List Po) (id z ow : Int) (t' a l : Int) (rs : List Po) : Prop :=
  t' = t ∧ (a, l) = pfitO (poAt ps (atId ps id).toNat) (sizeZ (poAt ps (atId ps id).toNat) z) ∧
      ∃ qs x' c' ls', sameB ps qs ∧ PutLe ⟨a, l, 1, ow, 0⟩ (poAt ps (atId ps id).toNat).ls ls' ∧ rs = qs.set (atId ps id).toNat (withL (poAt qs (atId ps id).toNat) x' ls'.length c' ls')
theorem twin_take {W : World} {b b' : Nat} {t t1 t2 a1 l1 a2 l2 id z ow : Int} {v1 v2 : Value} {ps rs1 rs2 : List Po} (hF : Full ps) (o1 : OBk W b v1 rs1 rs1.length) (o2 : OBk W b' v2 rs2 rs2.length)
    (z1 : takeE t ps id z ow ≠ 0 → t1 = 0 ∧ rs1 = [] ∧ a1 = 0 ∧ l1 = 0) (z2 : takeE t ps id z ow ≠ 0 → t2 = 0 ∧ rs2 = [] ∧ a2 = 0 ∧ l2 = 0) (r1 : takeE t ps id z ow = 0 → TakeR t ps id z ow t1 a1 l1 rs1) (r2 : takeE t ps id z ow = 0 → TakeR t ps id z ow t2 a2 l2 rs2) : a1 = a2 ∧ l1 = l2 ∧ Twin W t1 t2 v1 v2 := by
  by_cases h : takeE t ps id z ow = 0
  · obtain ⟨hc, hi⟩ := take_ok h
    obtain ⟨e1, p1, q1, x1, c1, m1, s1, u1, rfl⟩ := r1 h
    obtain ⟨e2, p2, q2, x2, c2, m2, s2, u2, rfl⟩ := r2 h
    have hp := p1.trans p2.symm
    simp only [Prod.mk.injEq] at hp
    obtain ⟨rfl, rfl⟩ := hp
    obtain rfl := PutLe.one u1 u2
    have hi1 : (atId ps id).toNat < q1.length := by rw [← s1.1]; exact hi
    have hm := (chk_small hc).same s1
    refine ⟨rfl, rfl, Twin.of (e1.trans e2.symm) o1 o2 ((s1.symm.trans s2).set2 hi1 ((s1.2 _ hi).symm.trans (s2.2 _ hi)).withL) ⟨by rw [List.length_set]; exact hm.1, fun q hq => ?_⟩⟩
    rw [List.length_set] at hq
    rw [poAt_set hi1]
    split
    · show m1.length ≤ 1048576
      have h1 := u1.len
      rw [hF _ hi] at h1
      have h2 := (chk_pool hc _ hi).1
      omega
    · exact hm.2 q hq
  · obtain ⟨e1, rfl, rfl, rfl⟩ := z1 h
    obtain ⟨e2, rfl, rfl, rfl⟩ := z2 h
    exact ⟨rfl, rfl, Twin.of (e1.trans e2.symm) o1 o2 (sameB.refl _) Small.nil⟩
theorem twin_give {W : World} {b b' : Nat} {t t1 t2 id a l : Int} {v1 v2 : Value} {ps rs1 rs2 : List Po} (hF : Full ps) (o1 : OBk W b v1 rs1 rs1.length) (o2 : OBk W b' v2 rs2 rs2.length)
    (z1 : giveE t ps id a l ≠ 0 → t1 = 0 ∧ rs1 = [] ∧ v1 = .slice none 0 0) (z2 : giveE t ps id a l ≠ 0 → t2 = 0 ∧ rs2 = [] ∧ v2 = .slice none 0 0) (r1 : giveE t ps id a l = 0 → GiveR t ps id a l t1 rs1) (r2 : giveE t ps id a l = 0 → Give2R t ps id a l t2 rs2) : Twin W t1 t2 v1 v2 := by
  by_cases h : giveE t ps id a l = 0
  · obtain ⟨hc, i, j, hi, hat, hj, hfj, hkd, hja, hjl⟩ := give_ok h
    obtain ⟨e1, f1⟩ := r1 h
    obtain ⟨e2, f2⟩ := r2 h
    rw [hat, Int.toNat_natCast] at f1 f2
    rw [hfj, Int.toNat_natCast] at f1
    have hsm := (Small.cool hc hF hi hj f1).1
    obtain ⟨q1, x1, c1, s1, rfl⟩ := f1
    obtain ⟨q2, x2, c2, s2, rfl⟩ := f2
    have hcb := back_cools (t := t) (used_mem hc i hi) (by rw [hF i hi]; exact hj) hja hjl
    rw [hcb] at o2
    exact Twin.of (e1.trans e2.symm) o1 o2 ((s1.symm.trans s2).set2 (by rw [← s1.1]; exact hi) ((s1.2 i hi).symm.trans (s2.2 i hi)).withL) hsm
  · obtain ⟨e1, rfl, rfl⟩ := z1 h
    obtain ⟨e2, rfl, rfl⟩ := z2 h
    exact Twin.of (e1.trans e2.symm) o1 o2 (sameB.refl _) Small.nil

set_option maxRecDepth 100000 in
set_option maxHeartbeats 3200000 in
theorem poolTakes_any (t : Int) (x : Option Addr) (n c : Nat) (ps : List Po) (id z ow a l : Int) (w : World) (hk : Bk w x n c ps) :
    Calls Tryz.prog 4 #[.agg #[.int .i64 t, .slice x n c], .int .i64 id, .int .i64 z, .int .i64 ow, .agg #[.int .i64 a, .int .i64 l]] w fun e w' => e = .returned (.bool true) ∧ Below w.heap.size w w' := by
  have hF : Hid (Full ps) := hk.full
  obtain ⟨E, hE⟩ : ∃ E, Hid (E = takeE t ps id z ow) := ⟨_, rfl⟩
  obtain ⟨P, hP⟩ : ∃ P, Hid (P = giveE t ps id a l) := ⟨_, rfl⟩
  go_enter Tryz.func4, Tryz.ntmps4
  go_upto_region 1 with fail
  obtain ⟨w0, hw0⟩ : ∃ w0, w0 = (w.alloc (bkV t (.slice x n c))).alloc (.cells #[.int .i64 a, .int .i64 l] 26) := ⟨_, rfl⟩
  rw [← hw0]
  have hC0 : TF w w0 t a l (.slice x n c) := by
    rw [hw0]
    exact ⟨heap_old _ (heap_new _ rfl), heap_new _ (by simp), bl2 w _ _⟩
  clear hw0
  have b0 : w0.cell? ⟨w.heap.size, 0, none⟩ = some (.int .i64 t) := (box_cells hC0.hb).1 0
  have b1 : w0.cell? ⟨w.heap.size, 1, none⟩ = some (.slice x n c) := (box_cells hC0.hb).1 1
  have h0 : w0.cell? ⟨w.heap.size + 1, 0, none⟩ = some (.int .i64 a) := (box_cells hC0.hp).1 0
  have h1 : w0.cell? ⟨w.heap.size + 1, 1, none⟩ = some (.int .i64 l) := (box_cells hC0.hp).1 1
  go_wp2_with fail
  refine (take_any t x n c ps id z ow w0 (hk.later hC0.below)).mono ?_
  rintro e w1 ⟨v1, rs1, t1, A1, L1, rfl, hb1, ho1, z1, r1⟩
  rw [← hE.out]
  obtain ⟨x1, c1, rfl⟩ := ho1.val rfl
  have hC1 := hC0.later hb1
  have z1' := hid_mk z1
  have r1' := hid_mk r1
  clear b0 b1 h0 h1 z1 r1
  go_upto_region 2 with fail
  obtain ⟨w2, hw2⟩ : ∃ w2, w2 = (w1.alloc (bkV t1 (.slice x1 rs1.length c1))).alloc (.cells #[.int .i64 A1, .int .i64 L1] 26) := ⟨_, rfl⟩
  rw [show (w1.alloc (.cells #[.int .i64 t1, .slice x1 rs1.length c1] 24)).alloc (.cells #[.int .i64 A1, .int .i64 L1] 26) = w2 from hw2.symm]
  have hn1 : Below w1.heap.size w1 w2 := by rw [hw2]; exact bl2 _ _ _
  have hv1 : w2.heap[w1.heap.size]? = some (bkV t1 (.slice x1 rs1.length c1)) := by rw [hw2]; exact heap_old _ (heap_new _ rfl)
  have hq1 : w2.heap[w1.heap.size + 1]? = some (.cells #[.int .i64 A1, .int .i64 L1] 26) := by rw [hw2]; exact heap_new _ (by simp)
  have hC2 : TF w w2 t a l (.slice x n c) := hC1.later hn1
  have ho1' := ho1.later hn1
  generalize w1.heap.size = k1 at hv1 hq1 ⊢
  clear hw2 hC1 hC0 ho1 hb1 hn1
  have b0 : w2.cell? ⟨w.heap.size, 0, none⟩ = some (.int .i64 t) := (box_cells hC2.hb).1 0
  have b1 : w2.cell? ⟨w.heap.size, 1, none⟩ = some (.slice x n c) := (box_cells hC2.hb).1 1
  have h0 : w2.cell? ⟨w.heap.size + 1, 0, none⟩ = some (.int .i64 a) := (box_cells hC2.hp).1 0
  have h1 : w2.cell? ⟨w.heap.size + 1, 1, none⟩ = some (.int .i64 l) := (box_cells hC2.hp).1 1
  go_wp2_with fail
  refine (give_any t x n c ps id a l w2 (hk.later hC2.below)).mono ?_
  rintro e w3 ⟨v2, rs2, t2, rfl, hb2, ho2, z2, r2⟩
  rw [← hP.out]
  obtain ⟨x2, c2, rfl⟩ := ho2.val rfl
  have hC3 := hC2.later hb2
  have z2' := hid_mk z2
  have r2' := hid_mk r2
  clear b0 b1 h0 h1 z2 r2
  go_upto_region 3 with fail
  obtain ⟨w4, hw4⟩ : ∃ w4, w4 = w3.alloc (bkV t2 (.slice x2 rs2.length c2)) := ⟨_, rfl⟩
  rw [show w3.alloc (.cells #[.int .i64 t2, .slice x2 rs2.length c2] 24) = w4 from hw4.symm]
  have hn2 : Below w3.heap.size w3 w4 := by rw [hw4]; exact bl1 _ _
  have hv2 : w4.heap[w3.heap.size]? = some (bkV t2 (.slice x2 rs2.length c2)) := by rw [hw4]; exact heap_new _ rfl
  have hC4 : TF w w4 t a l (.slice x n c) := hC3.later hn2
  have ho2' := ho2.later hn2
  generalize w3.heap.size = k2 at hv2 ⊢
  have hv1 := heap_later (hb2.trans (hn2.mono hb2.size)) hv1
  have ho1' := ho1'.later (hb2.trans (hn2.mono hb2.size))
  have hq1 := heap_later (hb2.trans (hn2.mono hb2.size)) hq1
  clear hw4 hC3 hC2 ho2 hb2 hn2
  have b0 : w4.cell? ⟨w.heap.size, 0, none⟩ = some (.int .i64 t) := (box_cells hC4.hb).1 0
  have b1 : w4.cell? ⟨w.heap.size, 1, none⟩ = some (.slice x n c) := (box_cells hC4.hb).1 1
  have h0 : w4.cell? ⟨w.heap.size + 1, 0, none⟩ = some (.int .i64 a) := (box_cells hC4.hp).1 0
  have h1 : w4.cell? ⟨w.heap.size + 1, 1, none⟩ = some (.int .i64 l) := (box_cells hC4.hp).1 1
  go_wp2_with fail
  refine (takeOf_any t x n c ps id z ow w4 (hk.later hC4.below)).mono ?_
  rintro e w5 ⟨v3, rs3, t3, A3, L3, rfl, hb3, ho3, z3, r3⟩
  rw [← hE.out]
  obtain ⟨x3, c3, rfl⟩ := ho3.val rfl
  have hC5 := hC4.later hb3
  have z3' := hid_mk z3
  have r3' := hid_mk r3
  clear b0 b1 h0 h1 z3 r3
  go_upto_region 4 with fail
  obtain ⟨w6, hw6⟩ : ∃ w6, w6 = (w5.alloc (bkV t3 (.slice x3 rs3.length c3))).alloc (.cells #[.int .i64 A3, .int .i64 L3] 26) := ⟨_, rfl⟩
  rw [show (w5.alloc (.cells #[.int .i64 t3, .slice x3 rs3.length c3] 24)).alloc (.cells #[.int .i64 A3, .int .i64 L3] 26) = w6 from hw6.symm]
  have hn3 : Below w5.heap.size w5 w6 := by rw [hw6]; exact bl2 _ _ _
  have hv3 : w6.heap[w5.heap.size]? = some (bkV t3 (.slice x3 rs3.length c3)) := by rw [hw6]; exact heap_old _ (heap_new _ rfl)
  have hq3 : w6.heap[w5.heap.size + 1]? = some (.cells #[.int .i64 A3, .int .i64 L3] 26) := by rw [hw6]; exact heap_new _ (by simp)
  have hC6 : TF w w6 t a l (.slice x n c) := hC5.later hn3
  have ho3' := ho3.later hn3
  generalize w5.heap.size = k3 at hv3 hq3 ⊢
  have hv1 := heap_later (hb3.trans (hn3.mono hb3.size)) hv1
  have ho1' := ho1'.later (hb3.trans (hn3.mono hb3.size))
  have hq1 := heap_later (hb3.trans (hn3.mono hb3.size)) hq1
  have hv2 := heap_later (hb3.trans (hn3.mono hb3.size)) hv2
  have ho2' := ho2'.later (hb3.trans (hn3.mono hb3.size))
  clear hw6 hC5 hC4 ho3 hb3 hn3
  have b0 : w6.cell? ⟨w.heap.size, 0, none⟩ = some (.int .i64 t) := (box_cells hC6.hb).1 0
  have b1 : w6.cell? ⟨w.heap.size, 1, none⟩ = some (.slice x n c) := (box_cells hC6.hb).1 1
  have h0 : w6.cell? ⟨w.heap.size + 1, 0, none⟩ = some (.int .i64 a) := (box_cells hC6.hp).1 0
  have h1 : w6.cell? ⟨w.heap.size + 1, 1, none⟩ = some (.int .i64 l) := (box_cells hC6.hp).1 1
  go_wp2_with fail
  refine (giveOf_any t x n c ps id a l w6 (hk.later hC6.below)).mono ?_
  rintro e w7 ⟨v4, rs4, t4, rfl, hb4, ho4, z4, r4⟩
  rw [← hP.out]
  obtain ⟨x4, c4, rfl⟩ := ho4.val rfl
  have hC7 := hC6.later hb4
  have z4' := hid_mk z4
  have r4' := hid_mk r4
  clear b0 b1 h0 h1 z4 r4
  go_upto_region 5 with fail
  obtain ⟨w8, hw8⟩ : ∃ w8, w8 = w7.alloc (bkV t4 (.slice x4 rs4.length c4)) := ⟨_, rfl⟩
  rw [show w7.alloc (.cells #[.int .i64 t4, .slice x4 rs4.length c4] 24) = w8 from hw8.symm]
  have hn4 : Below w7.heap.size w7 w8 := by rw [hw8]; exact bl1 _ _
  have hv4 : w8.heap[w7.heap.size]? = some (bkV t4 (.slice x4 rs4.length c4)) := by rw [hw8]; exact heap_new _ rfl
  have hC8 : TF w w8 t a l (.slice x n c) := hC7.later hn4
  have ho4' := ho4.later hn4
  generalize w7.heap.size = k4 at hv4 ⊢
  have hv1 := heap_later (hb4.trans (hn4.mono hb4.size)) hv1
  have ho1' := ho1'.later (hb4.trans (hn4.mono hb4.size))
  have hq1 := heap_later (hb4.trans (hn4.mono hb4.size)) hq1
  have hv2 := heap_later (hb4.trans (hn4.mono hb4.size)) hv2
  have ho2' := ho2'.later (hb4.trans (hn4.mono hb4.size))
  have hv3 := heap_later (hb4.trans (hn4.mono hb4.size)) hv3
  have ho3' := ho3'.later (hb4.trans (hn4.mono hb4.size))
  have hq3 := heap_later (hb4.trans (hn4.mono hb4.size)) hq3
  clear hw8 hC7 hC6 ho4 hb4 hn4
  obtain ⟨hA, hL, tw1⟩ : A1 = A3 ∧ L1 = L3 ∧ Twin w8 t1 t3 (.slice x1 rs1.length c1) (.slice x3 rs3.length c3) := twin_take hF.out ho1' ho3' z1'.out z3'.out r1'.out r3'.out
  have tw2 : Twin w8 t2 t4 (.slice x2 rs2.length c2) (.slice x4 rs4.length c4) := twin_give hF.out ho2' ho4' z2'.out z4'.out r2'.out r4'.out
  clear ho1' ho2' ho3' ho4' z1' z2' z3' z4' r1' r2' r3' r4' hE hP hF
  subst hA hL
  go_wp2_with fail
  refine (poolBegun_any _).mono ?_
  rintro e w9 ⟨rfl, hb9⟩
  have hC9 := hC8.later hb9
  have tw1' := tw1.later hb9
  have tw2' := tw2.later hb9
  have hv1 := heap_later hb9 hv1
  have hv2 := heap_later hb9 hv2
  have hv3 := heap_later hb9 hv3
  have hv4 := heap_later hb9 hv4
  have hq1 := heap_later hb9 hq1
  have hq3 := heap_later hb9 hq3
  clear hb9 hC8 tw1 tw2
  have a0 : w9.cell? ⟨k1, 0, none⟩ = some (.int .i64 t1) := (box_cells hv1).1 0
  have a1 : w9.cell? ⟨k1, 1, none⟩ = some (.slice x1 rs1.length c1) := (box_cells hv1).1 1
  have d0 : w9.cell? ⟨k3, 0, none⟩ = some (.int .i64 t3) := (box_cells hv3).1 0
  have d1 : w9.cell? ⟨k3, 1, none⟩ = some (.slice x3 rs3.length c3) := (box_cells hv3).1 1
  have f0 : w9.cell? ⟨k1 + 1, 0, none⟩ = some (.int .i64 A1) := (box_cells hq1).1 0
  have f1 : w9.cell? ⟨k1 + 1, 1, none⟩ = some (.int .i64 L1) := (box_cells hq1).1 1
  have g0 : w9.cell? ⟨k3 + 1, 0, none⟩ = some (.int .i64 A1) := (box_cells hq3).1 0
  have g1 : w9.cell? ⟨k3 + 1, 1, none⟩ = some (.int .i64 L1) := (box_cells hq3).1 1
  go_wp2_with fail
  refine (sameBooks_twin tw1').mono ?_
  rintro e wa ⟨rfl, hba⟩
  have hCa := hC9.later hba
  have tw2'' := tw2'.later hba
  have hv2 := heap_later hba hv2
  have hv4 := heap_later hba hv4
  clear a0 a1 d0 d1 f0 f1 g0 g1 tw1' tw2' hba hC9
  have a0 : wa.cell? ⟨k2, 0, none⟩ = some (.int .i64 t2) := (box_cells hv2).1 0
  have a1 : wa.cell? ⟨k2, 1, none⟩ = some (.slice x2 rs2.length c2) := (box_cells hv2).1 1
  have d0 : wa.cell? ⟨k4, 0, none⟩ = some (.int .i64 t4) := (box_cells hv4).1 0
  have d1 : wa.cell? ⟨k4, 1, none⟩ = some (.slice x4 rs4.length c4) := (box_cells hv4).1 1
  go_wp2_with fail
  refine (sameBooks_twin tw2'').mono ?_
  rintro e wb ⟨rfl, hbb⟩
  have hCb := hCa.later hbb
  clear a0 a1 d0 d1 tw2'' hbb
  go_wp2
  go_ret
  exact ⟨rfl, hCb.below⟩
end Go.Proofs.YtpdoonkhnabfjaaGreat
/- What PoolOpens comes to: it answers true. -/
namespace Go.Proofs.YtpdoonkhnabfjaaGreat
open Go.RowKit Go.Shelf

theorem PutPo.place {e : Po} {q1 q2 m1 m2 : List Po} (h1 : PutPo e q1 m1) (h2 : PutPo e q2 m2) (hl : q1.length = q2.length) (hid : ∀ j, j < q1.length → (poAt q1 j).id = (poAt q2 j).id) :
    ∃ j, j ≤ q1.length ∧ m1 = q1.take j ++ [e] ++ q1.drop j ∧ m2 = q2.take j ++ [e] ++ q2.drop j := by
  obtain ⟨i, hi, a1, a2, rfl⟩ := h1
  obtain ⟨j, hj, b1, b2, rfl⟩ := h2
  rcases Nat.lt_trichotomy i j with h | h | h
  · have := a2 (by omega)
    rw [hid i (by omega)] at this
    exact absurd this (b1 i h)
  · subst h
    exact ⟨i, hi, rfl, rfl⟩
  · have := b2 (by omega)
    rw [← hid j (by omega)] at this
    exact absurd this (a1 j h)
theorem sameB.ins {q1 q2 : List Po} {e : Po} {j : Nat} (h : sameB q1 q2) (hj : j ≤ q1.length) : sameB (q1.take j ++ [e] ++ q1.drop j) (q2.take j ++ [e] ++ q2.drop j) := by
  have hl := h.1
  have l1 : (q1.take j ++ [e] ++ q1.drop j).length = q1.length + 1 := by simp; omega
  have l2 : (q2.take j ++ [e] ++ q2.drop j).length = q2.length + 1 := by simp; omega
  refine ⟨by rw [l1, l2, hl], fun m hm => ?_⟩
  rw [l1] at hm
  rw [poAt_ins hj, poAt_ins (by omega)]
  by_cases c1 : m < j
  · rw [if_pos c1, if_pos c1]; exact h.2 m (by omega)
  · rw [if_neg c1, if_neg c1]
    by_cases c2 : m = j
    · rw [if_pos c2, if_pos c2]; exact sameP.refl _
    · rw [if_neg c2, if_neg c2]; exact h.2 (m - 1) (by omega)
theorem Small.ins {qs : List Po} {e : Po} {j : Nat} (h : Small qs) (h63 : qs.length ≤ 63) (hj : j ≤ qs.length) (he : e.n ≤ 1048576) : Small (qs.take j ++ [e] ++ qs.drop j) := by
  have l1 : (qs.take j ++ [e] ++ qs.drop j).length = qs.length + 1 := by simp; omega
  refine ⟨by omega, fun m hm => ?_⟩
  rw [l1] at hm
  rw [poAt_ins hj]
  split
  · exact h.2 m (by omega)
  · split
    · exact he
    · exact h.2 (m - 1) (by omega)
theorem open_ok {t : Int} {ps : List Po} {id a l mn mx us co : Int} (h : openE t ps id a l mn mx us co = 0) : chkB t ps = 0 := by
  unfold openE at h
  by_cases h1 : chkB t ps = 0
  · exact h1
  · rw [if_pos h1] at h; exact absurd h h1
theorem twin_open {W : World} {b b' : Nat} {t t1 t2 id a l mn mx us co : Int} {v1 v2 : Value} {ps rs1 rs2 : List Po} (o1 : OBk W b v1 rs1 rs1.length) (o2 : OBk W b' v2 rs2 rs2.length)
    (z1 : openE t ps id a l mn mx us co ≠ 0 → t1 = 0 ∧ rs1 = []) (z2 : openE t ps id a l mn mx us co ≠ 0 → t2 = 0 ∧ rs2 = []) (r1 : openE t ps id a l mn mx us co = 0 → t1 = t ∧ ∃ qs, sameB ps qs ∧ PutPo ⟨id, 0, a, l, mn, mx, us, co, none, 0, 0, []⟩ qs rs1) (r2 : openE t ps id a l mn mx us co = 0 → t2 = t ∧ ∃ qs, sameB ps qs ∧ PutPo ⟨id, 0, a, l, mn, mx, us, co, none, 0, 0, []⟩ qs rs2) : Twin W t1 t2 v1 v2 := by
  by_cases h : openE t ps id a l mn mx us co = 0
  · have hc := open_ok h
    obtain ⟨e1, q1, s1, u1⟩ := r1 h
    obtain ⟨e2, q2, s2, u2⟩ := r2 h
    have hs := s1.symm.trans s2
    obtain ⟨j, hj, m1, m2⟩ := PutPo.place u1 u2 hs.1 (fun m hm => (hs.2 m hm).1)
    have hm := (chk_small hc).same s1
    have h8 := (chk_ok hc).1
    rw [s1.1] at h8
    rw [m1] at o1
    rw [m2] at o2
    exact Twin.of (e1.trans e2.symm) o1 o2 (hs.ins hj) (hm.ins (by omega) hj (by simp))
  · obtain ⟨e1, rfl⟩ := z1 h
    obtain ⟨e2, rfl⟩ := z2 h
    exact Twin.of (e1.trans e2.symm) o1 o2 (sameB.refl _) Small.nil
theorem nest_ok {t : Int} {ps : List Po} {id up z mn mx us co : Int} (h : nestE t ps id up z mn mx us co = 0) : chkB t ps = 0 ∧ ¬ atId ps up < 0 ∧ atId ps id < 0 := by
  have h0 : nestRE t ps id up z = 0 := by
    unfold nestE at h
    by_cases h1 : nestRE t ps id up z = 0
    · exact h1
    · rw [if_pos h1] at h; exact absurd h h1
  unfold nestRE at h0
  by_cases h1 : chkB t ps = 0
  · rw [if_neg (by simp [h1])] at h0
    by_cases h2 : wth id 1 65536 = false
    · rw [if_pos h2] at h0; cases h0
    · rw [if_neg h2] at h0
      by_cases h3 : atId ps up < 0
      · rw [if_pos h3] at h0; cases h0
      · rw [if_neg h3] at h0
        by_cases h4 : 0 ≤ atId ps id
        · rw [if_pos h4] at h0; cases h0
        · exact ⟨h1, h3, by omega⟩
  · rw [if_pos h1] at h0; exact absurd h0 h1
theorem nest_same {ps rs1 rs2 : List Po} {e : Po} {up : Int} (hF : Full ps) (hu : ¬ atId ps up < 0) (hne : e.id ≠ up) (h1 : NestAt ps e up rs1) (h2 : Nest2At ps e up rs2) (hsm : Small ps) (h62 : ps.length ≤ 62) (hn : ∀ j, j < ps.length → (poAt ps j).n ≤ 1000) (he : e.n ≤ 1048576) : sameB rs1 rs2 ∧ Small rs1 := by
  obtain ⟨i, hi, hat, -⟩ := atId_range hu
  obtain ⟨-, hid, hfirst⟩ := atId_first hat
  obtain ⟨q1, ms, x1, c1, l1, s1, u1, w1, rfl⟩ := h1
  obtain ⟨q2, x2, c2, l2, s2, w2, u2⟩ := h2
  rw [hat, Int.toNat_natCast] at w2 u2
  have hi1 : i < q1.length := by rw [← s1.1]; exact hi
  have hi2 : i < q2.length := by rw [← s2.1]; exact hi
  have hs := s1.symm.trans s2
  have hidp : ∀ j, j < q1.length → (poAt q1 j).id = (poAt (q2.set i (withL (poAt q2 i) x2 l2.length c2 l2)) j).id := fun j hj => by
    rw [poAt_set hi2]
    split
    · rename_i hij; subst hij; exact (hs.2 i hj).1
    · exact (hs.2 j hj).1
  obtain ⟨j, hj, rfl, rfl⟩ := PutPo.place u1 u2 (by rw [List.length_set]; exact hs.1) hidp
  have hlm : (q1.take j ++ [e] ++ q1.drop j).length = q1.length + 1 := by simp; omega
  have hids : ∀ m, m < ps.length → (poAt q1 m).id = (poAt ps m).id := fun m hm => (s1.2 m hm).1.symm
  have hk : atId (q1.take j ++ [e] ++ q1.drop j) up = ((if i < j then i else i + 1 : Nat) : Int) := by
    refine atId_yes (by rw [hlm]; split <;> omega) ?_ fun m hm => ?_
    · rw [poAt_ins hj]
      by_cases c : i < j
      · rw [if_pos c, if_pos c, hids i hi]; exact hid
      · rw [if_neg c, if_neg (by omega), if_neg (by omega), Nat.add_sub_cancel, hids i hi]; exact hid
    · rw [poAt_ins hj]
      by_cases c : i < j
      · rw [if_pos c] at hm
        rw [if_pos (by omega), hids m (by omega)]
        exact hfirst m hm
      · rw [if_neg c] at hm
        by_cases c1 : m < j
        · rw [if_pos c1, hids m (by omega)]; exact hfirst m (by omega)
        · rw [if_neg c1]
          by_cases c2 : m = j
          · rw [if_pos c2]; exact hne
          · rw [if_neg c2, hids (m - 1) (by omega)]; exact hfirst (m - 1) (by omega)
  rw [hk, Int.toNat_natCast] at w1 ⊢
  have hkp : poAt (q1.take j ++ [e] ++ q1.drop j) (if i < j then i else i + 1) = poAt q1 i := by
    rw [poAt_ins hj]
    by_cases c : i < j
    · rw [if_pos c, if_pos c]
    · rw [if_neg c, if_neg (by omega), if_neg (by omega), Nat.add_sub_cancel]
  rw [hkp] at w1 ⊢
  rw [← (s1.2 i hi).2.2.2.2.2.2.2.2.2] at w1
  obtain rfl := PutLe.one w1 w2
  have hkl : (if i < j then i else i + 1) < (q1.take j ++ [e] ++ q1.drop j).length := by rw [hlm]; split <;> omega
  have hPP : sameP (withL (poAt q1 i) x1 l1.length c1 l1) (withL (poAt q2 i) x2 l1.length c2 l1) := (hs.2 i hi1).withL
  have hl2 := hs.1
  constructor
  · refine ⟨by rw [List.length_set, hlm]; simp; omega, fun m hm => ?_⟩
    rw [List.length_set, hlm] at hm
    rw [poAt_set hkl, poAt_ins hj, poAt_ins (by rw [List.length_set]; omega), poAt_set hi2, poAt_set hi2]
    by_cases c : i < j
    · rw [if_pos c]
      by_cases cm : i = m
      · subst cm
        rw [if_pos rfl, if_pos c, if_pos rfl]
        exact hPP
      · rw [if_neg cm, if_neg cm]
        by_cases c1 : m < j
        · rw [if_pos c1, if_pos c1]; exact hs.2 m (by omega)
        · rw [if_neg c1, if_neg c1]
          by_cases c2 : m = j
          · rw [if_pos c2, if_pos c2]; exact sameP.refl _
          · rw [if_neg c2, if_neg c2, if_neg (by omega)]; exact hs.2 (m - 1) (by omega)
    · rw [if_neg c]
      by_cases cm : i + 1 = m
      · subst cm
        rw [if_pos rfl, if_neg (by omega), if_neg (by omega), if_pos (by omega)]
        exact hPP
      · rw [if_neg cm]
        by_cases c1 : m < j
        · rw [if_pos c1, if_pos c1, if_neg (by omega)]; exact hs.2 m (by omega)
        · rw [if_neg c1, if_neg c1]
          by_cases c2 : m = j
          · rw [if_pos c2, if_pos c2]; exact sameP.refl _
          · rw [if_neg c2, if_neg c2, if_neg (by omega)]; exact hs.2 (m - 1) (by omega)
  · have hm1 := (hsm.same s1).ins (e := e) (j := j) (by rw [← s1.1]; omega) hj he
    refine ⟨by rw [List.length_set]; exact hm1.1, fun m hm => ?_⟩
    rw [List.length_set] at hm
    rw [poAt_set hkl]
    by_cases hmk : (if i < j then i else i + 1) = m
    · rw [if_pos hmk]
      show l1.length ≤ 1048576
      have h1 := w1.len
      rw [hF i hi] at h1
      have h2 := hn i hi
      omega
    · rw [if_neg hmk]
      exact hm1.2 m hm
def NestZ (t : Int) (ps : List Po) (id up z mn mx us co t' a l : Int) (rs : List Po) : Prop := nestE t ps id up z mn mx us co ≠ 0 → t' = 0 ∧ rs = [] ∧ a = 0 ∧ l = 0
theorem twin_nest {W : World} {b b' : Nat} {t t1 t2 a1 l1 a2 l2 id up z mn mx us co : Int} {v1 v2 : Value} {ps rs1 rs2 : List Po} (hF : Full ps) (o1 : OBk W b v1 rs1 rs1.length) (o2 : OBk W b' v2 rs2 rs2.length)
    (z1 : nestE t ps id up z mn mx us co ≠ 0 → t1 = 0 ∧ rs1 = [] ∧ a1 = 0 ∧ l1 = 0) (z2 : nestE t ps id up z mn mx us co ≠ 0 → t2 = 0 ∧ rs2 = [] ∧ a2 = 0 ∧ l2 = 0)
    (r1 : nestE t ps id up z mn mx us co = 0 → t1 = t ∧ (a1, l1) = nestRO t ps id up z ∧ NestAt ps ⟨id, up, a1, l1, mn, mx, us, co, none, 0, 0, []⟩ up rs1) (r2 : nestE t ps id up z mn mx us co = 0 → t2 = t ∧ (a2, l2) = nestRO t ps id up z ∧ Nest2At ps ⟨id, up, a2, l2, mn, mx, us, co, none, 0, 0, []⟩ up rs2) : a1 = a2 ∧ l1 = l2 ∧ Twin W t1 t2 v1 v2 := by
  by_cases h : nestE t ps id up z mn mx us co = 0
  · obtain ⟨hc, hu, hid⟩ := nest_ok h
    obtain ⟨e1, p1, n1⟩ := r1 h
    obtain ⟨e2, p2, n2⟩ := r2 h
    have hp := p1.trans p2.symm
    simp only [Prod.mk.injEq] at hp
    obtain ⟨rfl, rfl⟩ := hp
    have hne : id ≠ up := fun e => by rw [e] at hid; exact hu hid
    have h8 := (chk_ok hc).1
    obtain ⟨s, m⟩ := nest_same hF hu hne n1 n2 (chk_small hc) (by omega) (fun j hj => by have := (chk_pool hc j hj).1; omega) (by simp)
    exact ⟨rfl, rfl, Twin.of (e1.trans e2.symm) o1 o2 s m⟩
  · obtain ⟨e1, rfl, rfl, rfl⟩ := z1 h
    obtain ⟨e2, rfl, rfl, rfl⟩ := z2 h
    exact ⟨rfl, rfl, Twin.of (e1.trans e2.symm) o1 o2 (sameB.refl _) Small.nil⟩
/-- The boxes of the book, the prefix and the rule. -/
structure TP3 (w W : World) (t a l mn mx us co : Int) (v : Value) : Prop where
  hb : W.heap[w.heap.size]? = some (bkV t v)
  hp : W.heap[w.heap.size + 1]? = some (.cells #[.int .i64 a, .int .i64 l] 26)
  hu : W.heap[w.heap.size + 1 + 1]? = some (.cells #[.int .i64 mn, .int .i64 mx, .int .i64 us, .int .i64 co] 28)
  below : Below w.heap.size w W
theorem TP3.later {w W W' : World} {t a l mn mx us co : Int} {v : Value} (h : TP3 w W t a l mn mx us co v) (hb : Below W.heap.size W W') : TP3 w W' t a l mn mx us co v :=
  ⟨heap_later hb h.hb, heap_later hb h.hp, heap_later hb h.hu, h.below.trans (hb.mono h.below.size)⟩

set_option maxRecDepth 100000 in
set_option maxHeartbeats 3200000 in
theorem poolOpens_any (t : Int) (x : Option Addr) (n c : Nat) (ps : List Po) (id up z a l mn mx us co : Int) (w : World) (hk : Bk w x n c ps) :
    Calls Tryz.prog 3 #[.agg #[.int .i64 t, .slice x n c], .int .i64 id, .int .i64 up, .int .i64 z, .agg #[.int .i64 a, .int .i64 l], .agg #[.int .i64 mn, .int .i64 mx, .int .i64 us, .int .i64 co]] w fun e w' => e = .returned (.bool true) ∧ Below w.heap.size w w' := by
  have hF : Hid (Full ps) := hk.full
  obtain ⟨E, hE⟩ : ∃ E, Hid (E = openE t ps id a l mn mx us co) := ⟨_, rfl⟩
  obtain ⟨P, hP⟩ : ∃ P, Hid (P = nestE t ps id up z mn mx us co) := ⟨_, rfl⟩
  go_enter Tryz.func3, Tryz.ntmps3
  go_upto_region 1 with fail
  obtain ⟨w0, hw0⟩ : ∃ w0, w0 = ((w.alloc (bkV t (.slice x n c))).alloc (.cells #[.int .i64 a, .int .i64 l] 26)).alloc (.cells #[.int .i64 mn, .int .i64 mx, .int .i64 us, .int .i64 co] 28) := ⟨_, rfl⟩
  rw [← hw0]
  have hC0 : TP3 w w0 t a l mn mx us co (.slice x n c) := by
    rw [hw0]
    exact ⟨heap_old _ (heap_old _ (heap_new _ rfl)), heap_old _ (heap_new _ (by simp)), heap_new _ (by simp), (bl2 w _ _).alloc (by simp; omega) _⟩
  clear hw0
  have b0 : w0.cell? ⟨w.heap.size, 0, none⟩ = some (.int .i64 t) := (box_cells hC0.hb).1 0
  have b1 : w0.cell? ⟨w.heap.size, 1, none⟩ = some (.slice x n c) := (box_cells hC0.hb).1 1
  have h0 : w0.cell? ⟨w.heap.size + 1, 0, none⟩ = some (.int .i64 a) := (box_cells hC0.hp).1 0
  have h1 : w0.cell? ⟨w.heap.size + 1, 1, none⟩ = some (.int .i64 l) := (box_cells hC0.hp).1 1
  have u0 : w0.cell? ⟨w.heap.size + 1 + 1, 0, none⟩ = some (.int .i64 mn) := (box_cells hC0.hu).1 0
  have u1 : w0.cell? ⟨w.heap.size + 1 + 1, 1, none⟩ = some (.int .i64 mx) := (box_cells hC0.hu).1 1
  have u2 : w0.cell? ⟨w.heap.size + 1 + 1, 2, none⟩ = some (.int .i64 us) := (box_cells hC0.hu).1 2
  have u3 : w0.cell? ⟨w.heap.size + 1 + 1, 3, none⟩ = some (.int .i64 co) := (box_cells hC0.hu).1 3
  go_wp2_with fail
  refine (open_any t x n c ps id a l mn mx us co w0 (hk.later hC0.below)).mono ?_
  rintro e w1 ⟨v1, rs1, t1, rfl, hb1, ho1, z1, r1⟩
  rw [← hE.out]
  obtain ⟨x1, c1, rfl⟩ := ho1.val rfl
  have hC1 := hC0.later hb1
  have z1' := hid_mk z1
  have r1' := hid_mk r1
  clear b0 b1 h0 h1 u0 u1 u2 u3 z1 r1
  go_upto_region 2 with fail
  obtain ⟨w2, hw2⟩ : ∃ w2, w2 = w1.alloc (bkV t1 (.slice x1 rs1.length c1)) := ⟨_, rfl⟩
  rw [show w1.alloc (.cells #[.int .i64 t1, .slice x1 rs1.length c1] 24) = w2 from hw2.symm]
  have hn1 : Below w1.heap.size w1 w2 := by rw [hw2]; exact bl1 _ _
  have hv1 : w2.heap[w1.heap.size]? = some (bkV t1 (.slice x1 rs1.length c1)) := by rw [hw2]; exact heap_new _ rfl
  have hC2 : TP3 w w2 t a l mn mx us co (.slice x n c) := hC1.later hn1
  have ho1' := ho1.later hn1
  generalize w1.heap.size = k1 at hv1 ⊢
  clear hw2 hC1 hC0 ho1 hb1 hn1
  have b0 : w2.cell? ⟨w.heap.size, 0, none⟩ = some (.int .i64 t) := (box_cells hC2.hb).1 0
  have b1 : w2.cell? ⟨w.heap.size, 1, none⟩ = some (.slice x n c) := (box_cells hC2.hb).1 1
  have h0 : w2.cell? ⟨w.heap.size + 1, 0, none⟩ = some (.int .i64 a) := (box_cells hC2.hp).1 0
  have h1 : w2.cell? ⟨w.heap.size + 1, 1, none⟩ = some (.int .i64 l) := (box_cells hC2.hp).1 1
  have u0 : w2.cell? ⟨w.heap.size + 1 + 1, 0, none⟩ = some (.int .i64 mn) := (box_cells hC2.hu).1 0
  have u1 : w2.cell? ⟨w.heap.size + 1 + 1, 1, none⟩ = some (.int .i64 mx) := (box_cells hC2.hu).1 1
  have u2 : w2.cell? ⟨w.heap.size + 1 + 1, 2, none⟩ = some (.int .i64 us) := (box_cells hC2.hu).1 2
  have u3 : w2.cell? ⟨w.heap.size + 1 + 1, 3, none⟩ = some (.int .i64 co) := (box_cells hC2.hu).1 3
  go_wp2_with fail
  refine (nest_any t x n c ps id up z mn mx us co w2 (hk.later hC2.below)).mono ?_
  rintro e w3 ⟨v2, rs2, t2, A2, L2, rfl, hb2, ho2, z2, r2⟩
  rw [← hP.out]
  obtain ⟨x2, c2, rfl⟩ := ho2.val rfl
  have hC3 := hC2.later hb2
  have z2' := hid_mk z2
  have r2' := hid_mk r2
  clear b0 b1 h0 h1 u0 u1 u2 u3 z2 r2
  go_upto_region 3 with fail
  obtain ⟨w4, hw4⟩ : ∃ w4, w4 = (w3.alloc (bkV t2 (.slice x2 rs2.length c2))).alloc (.cells #[.int .i64 A2, .int .i64 L2] 26) := ⟨_, rfl⟩
  rw [show (w3.alloc (.cells #[.int .i64 t2, .slice x2 rs2.length c2] 24)).alloc (.cells #[.int .i64 A2, .int .i64 L2] 26) = w4 from hw4.symm]
  have hn2 : Below w3.heap.size w3 w4 := by rw [hw4]; exact bl2 _ _ _
  have hv2 : w4.heap[w3.heap.size]? = some (bkV t2 (.slice x2 rs2.length c2)) := by rw [hw4]; exact heap_old _ (heap_new _ rfl)
  have hq2 : w4.heap[w3.heap.size + 1]? = some (.cells #[.int .i64 A2, .int .i64 L2] 26) := by rw [hw4]; exact heap_new _ (by simp)
  have hC4 : TP3 w w4 t a l mn mx us co (.slice x n c) := hC3.later hn2
  have ho2' := ho2.later hn2
  generalize w3.heap.size = k2 at hv2 hq2 ⊢
  have hv1 := heap_later (hb2.trans (hn2.mono hb2.size)) hv1
  have ho1' := ho1'.later (hb2.trans (hn2.mono hb2.size))
  clear hw4 hC3 hC2 ho2 hb2 hn2
  have b0 : w4.cell? ⟨w.heap.size, 0, none⟩ = some (.int .i64 t) := (box_cells hC4.hb).1 0
  have b1 : w4.cell? ⟨w.heap.size, 1, none⟩ = some (.slice x n c) := (box_cells hC4.hb).1 1
  have h0 : w4.cell? ⟨w.heap.size + 1, 0, none⟩ = some (.int .i64 a) := (box_cells hC4.hp).1 0
  have h1 : w4.cell? ⟨w.heap.size + 1, 1, none⟩ = some (.int .i64 l) := (box_cells hC4.hp).1 1
  have u0 : w4.cell? ⟨w.heap.size + 1 + 1, 0, none⟩ = some (.int .i64 mn) := (box_cells hC4.hu).1 0
  have u1 : w4.cell? ⟨w.heap.size + 1 + 1, 1, none⟩ = some (.int .i64 mx) := (box_cells hC4.hu).1 1
  have u2 : w4.cell? ⟨w.heap.size + 1 + 1, 2, none⟩ = some (.int .i64 us) := (box_cells hC4.hu).1 2
  have u3 : w4.cell? ⟨w.heap.size + 1 + 1, 3, none⟩ = some (.int .i64 co) := (box_cells hC4.hu).1 3
  go_wp2_with fail
  refine (openOf_any t x n c ps id a l mn mx us co w4 (hk.later hC4.below)).mono ?_
  rintro e w5 ⟨v3, rs3, t3, rfl, hb3, ho3, z3, r3⟩
  rw [← hE.out]
  obtain ⟨x3, c3, rfl⟩ := ho3.val rfl
  have hC5 := hC4.later hb3
  have z3' := hid_mk z3
  have r3' := hid_mk r3
  clear b0 b1 h0 h1 u0 u1 u2 u3 z3 r3
  go_upto_region 4 with fail
  obtain ⟨w6, hw6⟩ : ∃ w6, w6 = w5.alloc (bkV t3 (.slice x3 rs3.length c3)) := ⟨_, rfl⟩
  rw [show w5.alloc (.cells #[.int .i64 t3, .slice x3 rs3.length c3] 24) = w6 from hw6.symm]
  have hn3 : Below w5.heap.size w5 w6 := by rw [hw6]; exact bl1 _ _
  have hv3 : w6.heap[w5.heap.size]? = some (bkV t3 (.slice x3 rs3.length c3)) := by rw [hw6]; exact heap_new _ rfl
  have hC6 : TP3 w w6 t a l mn mx us co (.slice x n c) := hC5.later hn3
  have ho3' := ho3.later hn3
  generalize w5.heap.size = k3 at hv3 ⊢
  have hv1 := heap_later (hb3.trans (hn3.mono hb3.size)) hv1
  have ho1' := ho1'.later (hb3.trans (hn3.mono hb3.size))
  have hv2 := heap_later (hb3.trans (hn3.mono hb3.size)) hv2
  have ho2' := ho2'.later (hb3.trans (hn3.mono hb3.size))
  have hq2 := heap_later (hb3.trans (hn3.mono hb3.size)) hq2
  clear hw6 hC5 hC4 ho3 hb3 hn3
  have b0 : w6.cell? ⟨w.heap.size, 0, none⟩ = some (.int .i64 t) := (box_cells hC6.hb).1 0
  have b1 : w6.cell? ⟨w.heap.size, 1, none⟩ = some (.slice x n c) := (box_cells hC6.hb).1 1
  have h0 : w6.cell? ⟨w.heap.size + 1, 0, none⟩ = some (.int .i64 a) := (box_cells hC6.hp).1 0
  have h1 : w6.cell? ⟨w.heap.size + 1, 1, none⟩ = some (.int .i64 l) := (box_cells hC6.hp).1 1
  have u0 : w6.cell? ⟨w.heap.size + 1 + 1, 0, none⟩ = some (.int .i64 mn) := (box_cells hC6.hu).1 0
  have u1 : w6.cell? ⟨w.heap.size + 1 + 1, 1, none⟩ = some (.int .i64 mx) := (box_cells hC6.hu).1 1
  have u2 : w6.cell? ⟨w.heap.size + 1 + 1, 2, none⟩ = some (.int .i64 us) := (box_cells hC6.hu).1 2
  have u3 : w6.cell? ⟨w.heap.size + 1 + 1, 3, none⟩ = some (.int .i64 co) := (box_cells hC6.hu).1 3
  go_wp2_with fail
  refine (nestOf_any t x n c ps id up z mn mx us co w6 (hk.later hC6.below)).mono ?_
  rintro e w7 ⟨v4, rs4, t4, A4, L4, rfl, hb4, ho4, z4, r4⟩
  rw [← hP.out]
  obtain ⟨x4, c4, rfl⟩ := ho4.val rfl
  have hC7 := hC6.later hb4
  have z4' := hid_mk z4
  have r4' := hid_mk r4
  clear b0 b1 h0 h1 u0 u1 u2 u3 z4 r4
  go_upto_region 5 with fail
  obtain ⟨w8, hw8⟩ : ∃ w8, w8 = (w7.alloc (bkV t4 (.slice x4 rs4.length c4))).alloc (.cells #[.int .i64 A4, .int .i64 L4] 26) := ⟨_, rfl⟩
  rw [show (w7.alloc (.cells #[.int .i64 t4, .slice x4 rs4.length c4] 24)).alloc (.cells #[.int .i64 A4, .int .i64 L4] 26) = w8 from hw8.symm]
  have hn4 : Below w7.heap.size w7 w8 := by rw [hw8]; exact bl2 _ _ _
  have hv4 : w8.heap[w7.heap.size]? = some (bkV t4 (.slice x4 rs4.length c4)) := by rw [hw8]; exact heap_old _ (heap_new _ rfl)
  have hq4 : w8.heap[w7.heap.size + 1]? = some (.cells #[.int .i64 A4, .int .i64 L4] 26) := by rw [hw8]; exact heap_new _ (by simp)
  have hC8 : TP3 w w8 t a l mn mx us co (.slice x n c) := hC7.later hn4
  have ho4' := ho4.later hn4
  generalize w7.heap.size = k4 at hv4 hq4 ⊢
  have hv1 := heap_later (hb4.trans (hn4.mono hb4.size)) hv1
  have ho1' := ho1'.later (hb4.trans (hn4.mono hb4.size))
  have hv2 := heap_later (hb4.trans (hn4.mono hb4.size)) hv2
  have ho2' := ho2'.later (hb4.trans (hn4.mono hb4.size))
  have hq2 := heap_later (hb4.trans (hn4.mono hb4.size)) hq2
  have hv3 := heap_later (hb4.trans (hn4.mono hb4.size)) hv3
  have ho3' := ho3'.later (hb4.trans (hn4.mono hb4.size))
  clear hw8 hC7 hC6 ho4 hb4 hn4
  have tw1 : Twin w8 t1 t3 (.slice x1 rs1.length c1) (.slice x3 rs3.length c3) := twin_open ho1' ho3' z1'.out z3'.out r1'.out r3'.out
  obtain ⟨hA, hL, tw2⟩ : A2 = A4 ∧ L2 = L4 ∧ Twin w8 t2 t4 (.slice x2 rs2.length c2) (.slice x4 rs4.length c4) := twin_nest hF.out ho2' ho4' z2'.out z4'.out r2'.out r4'.out
  clear ho1' ho2' ho3' ho4' z1' z2' z3' z4' r1' r2' r3' r4' hE hP hF
  subst hA hL
  have hk8 := hk.later hC8.below
  obtain ⟨K, hK⟩ : ∃ K, Hid (K = chkB t ps) := ⟨_, rfl⟩
  have hc1 := fun (W : World) (hW : Bk W x n c ps) => checkB_any t x n c ps W hW
  have hc2 := fun (W : World) (hW : Bk W x n c ps) => checkBook_any t x n c ps W hW
  rw [← hK.out] at hc1 hc2
  have b0 := Ws.here (show w8.cell? ⟨w.heap.size, 0, none⟩ = some (.int .i64 t) from (box_cells hC8.hb).1 0)
  have b1 := Ws.here (show w8.cell? ⟨w.heap.size, 1, none⟩ = some (.slice x n c) from (box_cells hC8.hb).1 1)
  have a0 := Ws.here (show w8.cell? ⟨k1, 0, none⟩ = some (.int .i64 t1) from (box_cells hv1).1 0)
  have a1 := Ws.here (show w8.cell? ⟨k1, 1, none⟩ = some (.slice x1 rs1.length c1) from (box_cells hv1).1 1)
  have d0 := Ws.here (show w8.cell? ⟨k3, 0, none⟩ = some (.int .i64 t3) from (box_cells hv3).1 0)
  have d1 := Ws.here (show w8.cell? ⟨k3, 1, none⟩ = some (.slice x3 rs3.length c3) from (box_cells hv3).1 1)
  have e0 := Ws.here (show w8.cell? ⟨k2, 0, none⟩ = some (.int .i64 t2) from (box_cells hv2).1 0)
  have e1 := Ws.here (show w8.cell? ⟨k2, 1, none⟩ = some (.slice x2 rs2.length c2) from (box_cells hv2).1 1)
  have f0 := Ws.here (show w8.cell? ⟨k4, 0, none⟩ = some (.int .i64 t4) from (box_cells hv4).1 0)
  have f1 := Ws.here (show w8.cell? ⟨k4, 1, none⟩ = some (.slice x4 rs4.length c4) from (box_cells hv4).1 1)
  have g0 := Ws.here (show w8.cell? ⟨k2 + 1, 0, none⟩ = some (.int .i64 A2) from (box_cells hq2).1 0)
  have g1 := Ws.here (show w8.cell? ⟨k2 + 1, 1, none⟩ = some (.int .i64 L2) from (box_cells hq2).1 1)
  have i0 := Ws.here (show w8.cell? ⟨k4 + 1, 0, none⟩ = some (.int .i64 A2) from (box_cells hq4).1 0)
  have i1 := Ws.here (show w8.cell? ⟨k4 + 1, 1, none⟩ = some (.int .i64 L2) from (box_cells hq4).1 1)
  refine wp_region_ws w8.heap.size (by kernel_rfl) (by kernel_rfl) ?_
  repeat (go_big_quiet_step (first | (go_at_call 9; exact Calls.in_ws (Nat.le_refl _) (poolBegun_any _)) | (go_at_call 10; exact Calls.in_ws (Nat.le_refl _) (hc1 _ (hk8.later (Ws.property _)))) | (go_at_call 11; exact Calls.in_ws (Nat.le_refl _) (hc2 _ (hk8.later (Ws.property _)))) | (go_at_call 12; first | exact Calls.in_ws (Nat.le_refl _) (sameBooks_twin (tw1.later (Ws.property _))) | exact Calls.in_ws (Nat.le_refl _) (sameBooks_twin (tw2.later (Ws.property _))))))
  refine wpQuiet_nil ?_
  rintro _ ⟨u, rfl⟩
  have hu := hC8.later u.property
  generalize u.val = wu at hu ⊢
  clear u
  go_wp2
  go_ret
  exact ⟨rfl, hu.below⟩
end Go.Proofs.YtpdoonkhnabfjaaGreat
/- An argument of type Rule. -/
namespace Go.Proofs.YtpdoonkhnabfjaaGreat
open Go.ChangeShapes Go.WideShapes Go.ChangeAt Go.RowKit Go.Joins

set_option maxRecDepth 100000 in
theorem open_rule {H : Type} {enc : TypeId × Value → H} {w : World} {r : Reach} {b0 : Nat} {v : Value} {d : DataW H} {p : List MemPlace}
    (hv : Value.okWide Tryz.prog w r b0 28 v) (h : DataW.Trod enc Tryz.prog w 0 (fun _ => true) true 28 v d p) :
    ∃ (mn mx us co : Int), v = .agg #[.int .i64 mn, .int .i64 mx, .int .i64 us, .int .i64 co] := by
  obtain ⟨c0, c1, c2, c3, y0, y1, y2, y3, m0, rfl, -, -, h0, h1, h2, h3⟩ := open_agg4 Tryz.underlying28 (by kernel_rfl) cellsR hv h
  obtain ⟨a0, e0, -, -⟩ := DataW.trod_int Tryz.underlying3 h0
  obtain ⟨a1, e1, -, -⟩ := DataW.trod_int Tryz.underlying3 h1
  obtain ⟨a2, e2, -, -⟩ := DataW.trod_int Tryz.underlying3 h2
  obtain ⟨a3, e3, -, -⟩ := DataW.trod_int Tryz.underlying3 h3
  simp at e0 e1 e2 e3
  subst e0 e1 e2 e3
  exact ⟨a0, a1, a2, a3, rfl⟩
end Go.Proofs.YtpdoonkhnabfjaaGreat
