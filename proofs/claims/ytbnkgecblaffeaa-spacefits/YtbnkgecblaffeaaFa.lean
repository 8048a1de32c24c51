/- What FitOf of package parcelwayref comes to. -/
import Derived.Test.YtbnkgecblaffeaaRd
import Derived.Lib.MinMax
namespace Go.Proofs.Ytbnkgecblaffeaa
open Go.RowKit Go.Shelf

/-- How far the first q used ones reach that a place meets. -/
def farTo (ps : List (Int × Int)) (x z : Int) (q : Nat) : Int := farOf (ps.take q) x z
theorem farTo_all (ps : List (Int × Int)) (x z : Int) : farTo ps x z ps.length = farOf ps x z := by unfold farTo; rw [List.take_length]
theorem farTo_no {ps : List (Int × Int)} {x z : Int} {q : Nat} (hq : q < ps.length) (h : mts (at0 ps q) (at1 ps q) x z = false) : farTo ps x z (q + 1) = farTo ps x z q := by
  unfold farTo farOf
  rw [take_next hq, List.foldl_append]
  simp [h]
theorem farTo_yes {ps : List (Int × Int)} {x z : Int} {q : Nat} (hq : q < ps.length) (h : mts (at0 ps q) (at1 ps q) x z = true) : farTo ps x z (q + 1) = max (farTo ps x z q) (at0 ps q + sp (at1 ps q) - 1) := by
  unfold farTo farOf
  rw [take_next hq, List.foldl_append]
  simp [h]
theorem far_bounds {ps : List (Int × Int)} {x z : Int} (h1 : x ≤ 65535) : x ≤ farOf ps x z ∧ farOf ps x z ≤ 65535 := by
  obtain ⟨h2, h3⟩ := far_foldl (ps := ps) (x := x) (z := z) x
  refine ⟨h2, ?_⟩
  unfold farOf
  rcases h3 with h3 | ⟨u, hu, h4, h5⟩
  · rw [h3]; exact h1
  · rw [h5]
    have := rt_top (mts_nums h4).1
    omega

/-- Where the next place is. -/
def nextAt (ps : List (Int × Int)) (x z : Int) : Int := max x (farOf ps x z / sp z * sp z) + sp z
theorem next_facts {ps : List (Int × Int)} {x z : Int} (h0 : 0 ≤ x) (h1 : x ≤ 65535) (hd : sp z ∣ x) : sp z ∣ nextAt ps x z ∧ x < nextAt ps x z ∧ nextAt ps x z ≤ 131071 := by
  have pz := sp_pos z
  have lz := sp_le z
  have hf := far_bounds (ps := ps) (z := z) h1
  have hq : farOf ps x z / sp z * sp z ≤ farOf ps x z := Int.ediv_mul_le _ (by omega)
  unfold nextAt
  refine ⟨?_, by omega, by omega⟩
  refine Int.dvd_add ?_ (Int.dvd_refl _)
  rcases Int.le_total x (farOf ps x z / sp z * sp z) with h | h
  · rw [Int.max_eq_right h]; exact Int.dvd_mul_left _ _
  · rw [Int.max_eq_left h]; exact hd

def fitR (z : Int) : Option Int → Value
  | some x => .tuple #[.agg #[.int .i64 x, .int .i64 z], .bool true]
  | none => .tuple #[.agg #[.int .i64 0, .int .i64 0], .bool false]
def FitPostR (a l z : Int) (ps : List (Int × Int)) (w : World) (e : Ending) (w' : World) : Prop :=
  Below w.heap.size w w' ∧ ∃ r, FitIs ps a l z r ∧ e = .returned (fitR z r)

theorem wrap_id {v : Int} (h0 : -1000000 ≤ v) (h1 : v ≤ 1000000) : wrap64 v = v := by unfold wrap64; omega

/-- The two boxes of FitOf. -/
structure FB (w : World) (a l : Int) (x : Option Addr) (n k : Nat) (wr : World) : Prop where
  b : Below w.heap.size w wr
  s : wr.heap[w.heap.size]? = some (.cells #[.int .i64 a, .int .i64 l, .slice x n k] 26)
  r : wr.heap[w.heap.size + 1]? = some (.cells #[.int .i64 0, .int .i64 0] 23)
theorem FB.start (w : World) (a l : Int) (x : Option Addr) (n k : Nat) : FB w a l x n k ((w.alloc (.cells #[.int .i64 a, .int .i64 l, .slice x n k] 26)).alloc (.cells #[.int .i64 0, .int .i64 0] 23)) :=
  ⟨bl2 w _ _, heap_old _ (heap_new _ rfl), heap_new _ (by simp)⟩
theorem FB.later {w : World} {a l : Int} {x : Option Addr} {n k : Nat} {wr wq : World} (h : FB w a l x n k wr) (hb : Below wr.heap.size wr wq) : FB w a l x n k wq :=
  ⟨h.b.trans (hb.mono h.b.size), (hb.block _ (Array.getElem?_eq_some_iff.1 h.s).1).trans h.s, (hb.block _ (Array.getElem?_eq_some_iff.1 h.r).1).trans h.r⟩

def PlaceAt (a l z : Int) (ps : List (Int × Int)) (y : Int) : Prop := sp z ∣ y ∧ a ≤ y ∧ y ≤ 131071 ∧ ∀ v, okFit ps a l z v → y ≤ v

theorem last_is (a l r : Int) (h : a + sp l - 1 = r) (hr : rt a l = true) (w : World) :
    Calls Try.prog 32 #[.agg #[.int .i64 a, .int .i64 l]] w fun e w' => e = .returned (.int .i64 r) ∧ Below w.heap.size w w' := by
  subst h
  obtain ⟨h0, h1, h2, h3, -⟩ := rt_range hr
  exact last_any a l w h0 h1 h2 h3

set_option maxRecDepth 100000 in
set_option maxHeartbeats 1600000 in
theorem fitOf_any (a l z : Int) (x : Option Addr) (n k : Nat) (ps : List (Int × Int)) (w : World) (hp : PS w x n ps) (hn : n ≤ 32) (hr : rt a l = true) (hl : l ≤ z) (h16 : z ≤ 16) :
    Calls Try.prog 10 #[.agg #[.int .i64 a, .int .i64 l, .slice x n k], .int .i64 z] w (FitPostR a l z ps w) := by
  obtain ⟨q0, q1, q2, q3, q4⟩ := rt_range hr
  have htop := rt_top hr
  have pz := sp_pos z
  have lz := sp_le z
  have hsz := fun w => sizeOf_any z w (by omega) h16
  generalize hst : sp z = st at hsz
  have Hst : Hid (sp z = st) := hst
  generalize hla : a + sp l - 1 = la
  have Hla : Hid (a + sp l - 1 = la) := hla
  have hla0 : a ≤ la := by have := sp_pos l; omega
  have hla1 : la ≤ 65535 := by omega
  have hst0 : 0 < st := by omega
  have hst1 : st ≤ 65536 := by omega
  clear hst hla
  go_enter Try.func10, Try.ntmps10
  go_wp2_with (go_at_call 31; refine (hsz _).mono ?_; rintro e w1 ⟨rfl, rfl⟩)
  go_loopw [7] (fun i wr => ∃ y : Int, i = .int .i64 y ∧ PlaceAt a l z ps y ∧ FB w a l x n k wr) (fun i _ => (200000 - intOf i).toNat)
  case atStart => exact ⟨a, rfl, ⟨Int.dvd_of_emod_eq_zero (rt_range (rt_part hr hl h16)).2.2.2.2, by omega, by omega, fun v hv => (ins_nums hv.1).2.2.2.1⟩, FB.start w a l x n k⟩
  case round =>
    obtain ⟨y, rfl, hP, hF⟩ := hrel
    have hy0 : 0 ≤ y := by have := hP.2.1; omega
    have hy1 : y ≤ 131071 := hP.2.2.1
    obtain ⟨s0, s1, s2, -⟩ := box3 hF.s
    obtain ⟨r0, r1, z0, z1⟩ := box2 hF.r
    go_wp2_with fail
    refine (last_is _ _ _ Hla.out hr _).mono ?_
    rintro e w1 ⟨rfl, hu⟩
    clear s0 s1 s2 r0 r1 z0 z1
    replace hF := hF.later hu
    clear hu
    obtain ⟨s0, s1, s2, -⟩ := box3 hF.s
    obtain ⟨r0, r1, z0, z1⟩ := box2 hF.r
    by_cases hle : y ≤ la
    · have hy2 : y ≤ 65535 := by omega
      have hw1 : FB w a l x n k (w1.alloc (.cells #[.int .i64 y, .int .i64 z] 23)) := hF.later (bl1 w1 _)
      have hw2 : (w1.alloc (.cells #[.int .i64 y, .int .i64 z] 23)).heap[w1.heap.size]? = some (.cells #[.int .i64 y, .int .i64 z] 23) := heap_new _ rfl
      go_wp2
      clear s0 s1 s2 r0 r1 z0 z1
      go_loopw [10, 9] (fun i t wq => ∃ q : Nat, q ≤ n ∧ i = .int .i64 q ∧ t = .int .i64 (farTo ps y z q) ∧ FB w a l x n k wq ∧ wq.heap[w1.heap.size]? = some (.cells #[.int .i64 y, .int .i64 z] 23)) (fun i _ _ => n - (intOf i).toNat)
      case atStart => exact ⟨0, by omega, rfl, rfl, hw1, hw2⟩
      case round =>
        obtain ⟨q, hq, rfl, rfl, hG, hb⟩ := hrel
        clear hw1 hw2 hF
        have hpl := hp.len
        obtain ⟨s0, s1, s2, -⟩ := box3 hG.s
        obtain ⟨r0, r1, z0, z1⟩ := box2 hG.r
        obtain ⟨p0, p1, -⟩ := box2 hb
        by_cases hlt : q < n
        · obtain ⟨b, o, rfl, c0, c1⟩ := (hp.later hG.b).cells q hlt
          have hlt' := hlt
          have g0 := Ws.here c0
          have g1 := Ws.here c1
          have g2 := Ws.here s2
          have g3 := Ws.here p0
          have g4 := Ws.here p1
          go_upto_region 10 with fail
          refine wp_region_ws wr.heap.size (by kernel_rfl) (by kernel_rfl) ?_
          cases hM : mts (at0 ps q) (at1 ps q) y z
          all_goals repeat (go_big_quiet_step ((go_at_call 30; exact Calls.in_ws (Nat.le_refl _) (meet_is _ _ _ _ _ hM _))))
          all_goals refine wpQuiet_nil ?_
          all_goals rintro _ ⟨u, rfl⟩
          all_goals have hu : Below wr.heap.size wr u.val := u.property
          all_goals generalize u.val = wu at hu ⊢
          all_goals clear u g0 g1 g2 g3 g4 s0 s1 s2 r0 r1 z0 z1 p0 p1
          all_goals replace hb := (hu.block _ (Array.getElem?_eq_some_iff.1 hb).1).trans hb
          all_goals replace hG := hG.later hu
          all_goals replace c0 := cell_later hu c0
          all_goals replace c1 := cell_later hu c1
          all_goals clear hu
          · have hf := farTo_no (by omega) hM
            clear c0 c1
            go_wp2
            go_roundw
            case rel => exact ⟨q + 1, hlt', by go_num, by rw [hf], hG, hb⟩
            case measure => simp [intOf]; omega
          · have hf := farTo_yes (by omega) hM
            obtain ⟨s0, s1, s2, -⟩ := box3 hG.s
            go_wp2_with fail
            refine (last_is _ _ _ rfl (mts_nums hM).1 _).mono ?_
            rintro e w2 ⟨rfl, hu⟩
            replace hb := (hu.block _ (Array.getElem?_eq_some_iff.1 hb).1).trans hb
            replace hG := hG.later hu
            clear hu c0 c1 s0 s1 s2
            go_wp2
            go_roundw
            case rel => exact ⟨q + 1, hlt', by go_num, by rw [hf], hG, hb⟩
            case measure => simp [intOf]; omega
        · obtain rfl : q = n := by omega
          have hall : farTo ps y z q = farOf ps y z := by rw [← hpl]; exact farTo_all ps y z
          rw [hall]
          cases hT : mtsAny y z ps
          · go_wp2_with fail
            refine (meetsUsed_is a l y z x q k ps _ hT _ (hp.later hG.b) (by omega)).mono ?_
            rintro e w2 ⟨rfl, hu⟩
            replace hb := (hu.block _ (Array.getElem?_eq_some_iff.1 hb).1).trans hb
            replace hG := hG.later hu
            clear hu s0 s1 s2 r0 r1 z0 z1 p0 p1
            obtain ⟨p0, p1, -⟩ := box2 hb
            obtain ⟨r0, r1, z0, z1⟩ := box2 hG.r
            go_wp2
            have hQ := below_set2 hG.b (b := w.heap.size + 1) (by omega) (.int .i64 y) (.int .i64 z)
            obtain ⟨t0, t1, -⟩ := box2 (box2_set (.int .i64 y) (.int .i64 z) hG.r)
            refine bodyPost_ret (v := .tuple #[.agg #[.int .i64 y, .int .i64 z], .bool true]) (by simp [results, Try.results10, go_sem, t0, t1]) rfl ?_
            unfold FitPostR
            have hza := rt_part hr hl h16
            have hdl : sp z ∣ a + sp l := Int.dvd_add (Int.dvd_of_emod_eq_zero (rt_range hza).2.2.2.2) (sp_dvd q0 hl h16)
            have hst := step_le pz hP.1 hdl (by have := Hla.out; omega)
            exact ⟨hQ, some y, ⟨⟨ins_of (rt_of (by omega) h16 hy0 hy2 hP.1) hr hP.2.1 hst, hT⟩, hP.2.2.2⟩, rfl⟩
          · have hnx := next_facts (ps := ps) hy0 hy2 hP.1
            unfold nextAt at hnx
            have hlow := fit_step hP.1 hP.2.2.2 hT
            have hfb := far_bounds (ps := ps) (z := z) hy2
            generalize farOf ps y z = far at *
            go_wp2_with fail
            refine (meetsUsed_is a l y z x q k ps _ hT _ (hp.later hG.b) (by omega)).mono ?_
            rintro e w2 ⟨rfl, hu⟩
            replace hG := hG.later hu
            clear hu s0 s1 s2 r0 r1 z0 z1 p0 p1 hb
            go_wp2
            have hfq : far / sp z * sp z ≤ far := Int.ediv_mul_le _ (by omega)
            have hfq0 : 0 ≤ far / sp z * sp z := Int.mul_nonneg (Int.ediv_nonneg (by omega) (by omega)) (by omega)
            rw [← Hst.out, wrap_id (v := far / sp z * sp z) (by omega) (by omega), wrap_id (by omega) (by omega)]
            exact ⟨⟨_, rfl, ⟨hnx.1, by have := hP.2.1; omega, hnx.2.2, hlow⟩, hG⟩, by simp only [intOf]; omega⟩
    · go_wp2
      have hG := below_set2 hF.b (b := w.heap.size + 1) (by omega) (.int .i64 0) (.int .i64 0)
      obtain ⟨r0, r1, -⟩ := box2 (box2_set (.int .i64 0) (.int .i64 0) hF.r)
      refine bodyPost_ret (v := .tuple #[.agg #[.int .i64 0, .int .i64 0], .bool false]) (by simp [results, Try.results10, go_sem, r0, r1]) rfl ?_
      unfold FitPostR
      refine ⟨hG, none, fun v hv => ?_, rfl⟩
      have h1 := hP.2.2.2 v hv
      have h2 := ins_nums hv.1
      have h3 := Hla.out
      omega
end Go.Proofs.Ytbnkgecblaffeaa
