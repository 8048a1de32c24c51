/- What FitOf of package parcelwayref comes to. -/
import Derived.Test.YtpdoonkhnabfjaaGreatMO10
import Derived.Lib.MinMax
namespace Go.Proofs.YtpdoonkhnabfjaaGreat
open Go.RowKit Go.Shelf

/-- How far the first q used ones reach that a place meets. -/
def farTo (ps : List (Int × Int)) (x z : Int) (q : Nat) : Int := farOf (ps.take q) x z
theorem farTo_all (ps : List (Int × Int)) (x z : Int) : farTo ps x z ps.length = farOf ps x z := by unfold farTo; rw [List.take_length]
theorem farTo_no {ps : List (Int × Int)} {x z : Int} {q : Nat} (hq : q < ps.length) (h : mts (at0 ps q) (at1 ps q) x z = false) : farTo ps x z (q + 1) = farTo ps x z q := by
  unfold farTo farOf
  rw [take_next hq, List.foldl_append]
  simp [h]
theorem farTo_yes {ps : List (Int × Int)} {x z : Int} {q : Nat} (hq : q < ps.length) (h : mts (at0 ps q) (at1 ps q) x z = true) : farTo ps x z (q + 1) = max (farTo ps x z q) (at0 ps q + sp (at1 ps q) - 1) := by
  unfold farTo farOf
  rw [take_next hq, List.foldl_append]
  simp [h]
theorem far_bounds {ps : List (Int × Int)} {x z : Int} (h1 : x ≤ 65535) : x ≤ farOf ps x z ∧ farOf ps x z ≤ 65535 := by
  obtain ⟨h2, h3⟩ := far_foldl (ps := ps) (x := x) (z := z) x
  refine ⟨h2, ?_⟩
  unfold farOf
  rcases h3 with h3 | ⟨u, hu, h4, h5⟩
  · rw [h3]; exact h1
  · rw [h5]
    have := rt_top (mts_nums h4).1
    omega

/-- Where the next place is. -/
def nextAt (ps : List (Int × Int)) (x z : Int) : Int := max x (farOf ps x z / sp z * sp z) + sp z
theorem next_facts {ps : List (Int × Int)} {x z : Int} (h0 : 0 ≤ x) (h1 : x ≤ 65535) (hd : sp z ∣ x) : sp z ∣ nextAt ps x z ∧ x < nextAt ps x z ∧ nextAt ps x z ≤ 131071 := by
  have pz := sp_pos z
  have lz := sp_le z
  have hf := far_bounds (ps := ps) (z := z) h1
  have hq : farOf ps x z / sp z * sp z ≤ farOf ps x z := Int.ediv_mul_le _ (by omega)
  unfold nextAt
  refine ⟨?_, by omega, by omega⟩
  refine Int.dvd_add ?_ (Int.dvd_refl _)
  rcases Int.le_total x (farOf ps x z / sp z * sp z) with h | h
  · rw [Int.max_eq_right h]; exact Int.dvd_mul_left _ _
  · rw [Int.max_eq_left h]; exact hd

def fitR (z : Int) : Option Int → Value
  | some x => .tuple #[.agg #[.int .i64 x, .int .i64 z], .bool true]
  | none => .tuple #[.agg #[.int .i64 0, .int .i64 0], .bool false]
def FitPostR (a l z : Int) (ps : List (Int × Int)) (w : World) (e : Ending) (w' : World) : Prop :=
  Below w.heap.size w w' ∧ ∃ r, FitIs ps a l z r ∧ e = .returned (fitR z r)

theorem wrap_id {v : Int} (h0 : -1000000 ≤ v) (h1 : v ≤ 1000000) : wrap64 v = v := by unfold wrap64; omega

/-- The two boxes of FitOf. -/
structure FB (w : World) (a l : Int) (x : Option Addr) (n k : Nat) (wr : World) : Prop where
  b : Below w.heap.size w wr
  s : wr.heap[w.heap.size]? = some (.cells #[.int .i64 a, .int .i64 l, .slice x n k] 71)
  r : wr.heap[w.heap.size + 1]? = some (.cells #[.int .i64 0, .int .i64 0] 26)
theorem FB.start (w : World) (a l : Int) (x : Option Addr) (n k : Nat) : FB w a l x n k ((w.alloc (.cells #[.int .i64 a, .int .i64 l, .slice x n k] 71)).alloc (.cells #[.int .i64 0, .int .i64 0] 26)) :=
  ⟨bl2 w _ _, heap_old _ (heap_new _ rfl), heap_new _ (by simp)⟩
theorem FB.later {w : World} {a l : Int} {x : Option Addr} {n k : Nat} {wr wq : World} (h : FB w a l x n k wr) (hb : Below wr.heap.size wr wq) : FB w a l x n k wq :=
  ⟨h.b.trans (hb.mono h.b.size), (hb.block _ (Array.getElem?_eq_some_iff.1 h.s).1).trans h.s, (hb.block _ (Array.getElem?_eq_some_iff.1 h.r).1).trans h.r⟩

def PlaceAt (a l z : Int) (ps : List (Int × Int)) (y : Int) : Prop := sp z ∣ y ∧ a ≤ y ∧ y ≤ 131071 ∧ ∀ v, okFit ps a l z v → y ≤ v

theorem last_is (a l r : Int) (h : a + sp l - 1 = r) (hr : rt a l = true) (w : World) :
    Calls Tryz.prog 63 #[.agg #[.int .i64 a, .int .i64 l]] w fun e w' => e = .returned (.int .i64 r) ∧ Below w.heap.size w w' := by
  subst h
  obtain ⟨h0, h1, h2, h3, -⟩ := rt_range hr
  exact last_any a l w h0 h1 h2 h3

set_option maxRecDepth 100000 in
set_option maxHeartbeats 1600000 in
theorem fitOf_any (a l z : Int) (x : Option Addr) (n k : Nat) (ps : List (Int × Int)) (w : World) (hp : PS w x n ps) (hn : n ≤ 32) (hr : rt a l = true) (hl : l ≤ z) (h16 : z ≤ 16) :
    Calls Tryz.prog 64 #[.agg #[.int .i64 a, .int .i64 l, .slice x n k], .int .i64 z] w (FitPostR a l z ps w) := by
  obtain ⟨q0, q1, q2, q3, q4⟩ := rt_range hr
  have htop := rt_top hr
  have pz := sp_pos z
  have lz := sp_le z
  have hsz := fun w => sizeOf_any z w (by omega) h16
  generalize hst : sp z = st at hsz
  have Hst : Hid (sp z = st) := hst
  generalize hla : a + sp l - 1 = la
  have Hla : Hid (a + sp l - 1 = la) := hla
  have hla0 : a ≤ la := by have := sp_pos l; omega
  have hla1 : la ≤ 65535 := by omega
  have hst0 : 0 < st := by omega
  have hst1 : st ≤ 65536 := by omega
  clear hst hla
  go_enter Tryz.func64, Tryz.ntmps64
  go_wp2_with (go_at_call 89; refine (hsz _).mono ?_; rintro e w1 ⟨rfl, rfl⟩)
  go_loopw [7] (fun i wr => ∃ y : Int, i = .int .i64 y ∧ PlaceAt a l z ps y ∧ FB w a l x n k wr) (fun i _ => (200000 - intOf i).toNat)
  case atStart => exact ⟨a, rfl, ⟨Int.dvd_of_emod_eq_zero (rt_range (rt_part hr hl h16)).2.2.2.2, by omega, by omega, fun v hv => (ins_nums hv.1).2.2.2.1⟩, FB.start w a l x n k⟩
  case round =>
    obtain ⟨y, rfl, hP, hF⟩ := hrel
    have hy0 : 0 ≤ y := by have := hP.2.1; omega
    have hy1 : y ≤ 131071 := hP.2.2.1
    obtain ⟨s0, s1, s2, -⟩ := box3 hF.s
    obtain ⟨r0, r1, z0, z1⟩ := box2 hF.r
    go_wp2_with fail
    refine (last_is _ _ _ Hla.out hr _).mono ?_
    rintro e w1 ⟨rfl, hu⟩
    clear s0 s1 s2 r0 r1 z0 z1
    replace hF := hF.later hu
    clear hu
    obtain ⟨s0, s1, s2, -⟩ := box3 hF.s
    obtain ⟨r0, r1, z0, z1⟩ := box2 hF.r
    by_cases hle : y ≤ la
    · have hy2 : y ≤ 65535 := by omega
      have hw1 : FB w a l x n k (w1.alloc (.cells #[.int .i64 y, .int .i64 z] 26)) := hF.later (bl1 w1 _)
      have hw2 : (w1.alloc (.cells #[.int .i64 y, .int .i64 z] 26)).heap[w1.heap.size]? = some (.cells #[.int .i64 y, .int .i64 z] 26) := heap_new _ rfl
      go_wp2
      clear s0 s1 s2 r0 r1 z0 z1
      go_loopw [10, 9] (fun i t wq => ∃ q : Nat, q ≤ n ∧ i = .int .i64 q ∧ t = .int .i64 (farTo ps y z q) ∧ FB w a l x n k wq ∧ wq.heap[w1.heap.size]? = some (.cells #[.int .i64 y, .int .i64 z] 26)) (fun i _ _ => n - (intOf i).toNat)
      case atStart => exact ⟨0, by omega, rfl, rfl, hw1, hw2⟩
      case round =>
        obtain ⟨q, hq, rfl, rfl, hG, hb⟩ := hrel
        clear hw1 hw2 hF
        have hpl := hp.len
        obtain ⟨s0, s1, s2, -⟩ := box3 hG.s
        obtain ⟨r0, r1, z0, z1⟩ := box2 hG.r
        obtain ⟨p0, p1, -⟩ := box2 hb
        by_cases hlt : q < n
        · obtain ⟨b, o, rfl, c0, c1⟩ := (hp.later hG.b).cells q hlt
          have hlt' := hlt
          have g0 := Ws.here c0
          have g1 := Ws.here c1
          have g2 := Ws.here s2
          have g3 := Ws.here p0
          have g4 := Ws.here p1
          go_upto_region 10 with fail
          refine wp_region_ws wr.heap.size (by kernel_rfl) (by kernel_rfl) ?_
          cases hM : mts (at0 ps q) (at1 ps q) y z
          all_goals repeat (go_big_quiet_step ((go_at_call 28; exact Calls.in_ws (Nat.le_refl _) (meet_is _ _ _ _ _ hM _))))
          all_goals refine wpQuiet_nil ?_
          all_goals rintro _ ⟨u, rfl⟩
          all_goals have hu : Below wr.heap.size wr u.val := u.property
          all_goals generalize u.val = wu at hu ⊢
          all_goals clear u g0 g1 g2 g3 g4 s0 s1 s2 r0 r1 z0 z1 p0 p1
          all_goals replace hb := (hu.block _ (Array.getElem?_eq_some_iff.1 hb).1).trans hb
          all_goals replace hG := hG.later hu
          all_goals replace c0 := cell_later hu c0
          all_goals replace c1 := cell_later hu c1
          all_goals clear hu
          · have hf := farTo_no (by omega) hM
            clear c0 c1
            go_wp2
            go_roundw
            case rel => exact ⟨q + 1, hlt', by go_num, by rw [hf], hG, hb⟩
            case measure => simp [intOf]; omega
          · have hf := farTo_yes (by omega) hM
            obtain ⟨s0, s1, s2, -⟩ := box3 hG.s
            go_wp2_with fail
            refine (last_is _ _ _ rfl (mts_nums hM).1 _).mono ?_
            rintro e w2 ⟨rfl, hu⟩
            replace hb := (hu.block _ (Array.getElem?_eq_some_iff.1 hb).1).trans hb
            replace hG := hG.later hu
            clear hu c0 c1 s0 s1 s2
            go_wp2
            go_roundw
            case rel => exact ⟨q + 1, hlt', by go_num, by rw [hf], hG, hb⟩
            case measure => simp [intOf]; omega
        · obtain rfl : q = n := by omega
          have hall : farTo ps y z q = farOf ps y z := by rw [← hpl]; exact farTo_all ps y z
          rw [hall]
          cases hT : mtsAny y z ps
          · go_wp2_with fail
            refine (meetsUsed_is a l y z x q k ps _ hT _ (hp.later hG.b) (by omega)).mono ?_
            rintro e w2 ⟨rfl, hu⟩
            replace hb := (hu.block _ (Array.getElem?_eq_some_iff.1 hb).1).trans hb
            replace hG := hG.later hu
            clear hu s0 s1 s2 r0 r1 z0 z1 p0 p1
            obtain ⟨p0, p1, -⟩ := box2 hb
            obtain ⟨r0, r1, z0, z1⟩ := box2 hG.r
            go_wp2
            have hQ := below_set2 hG.b (b := w.heap.size + 1) (by omega) (.int .i64 y) (.int .i64 z)
            obtain ⟨t0, t1, -⟩ := box2 (box2_set (.int .i64 y) (.int .i64 z) hG.r)
            refine bodyPost_ret (v := .tuple #[.agg #[.int .i64 y, .int .i64 z], .bool true]) (by simp [results, Tryz.results64, go_sem, t0, t1]) rfl ?_
            unfold FitPostR
            have hza := rt_part hr hl h16
            have hdl : sp z ∣ a + sp l := Int.dvd_add (Int.dvd_of_emod_eq_zero (rt_range hza).2.2.2.2) (sp_dvd q0 hl h16)
            have hst := step_le pz hP.1 hdl (by have := Hla.out; omega)
            exact ⟨hQ, some y, ⟨⟨ins_of (rt_of (by omega) h16 hy0 hy2 hP.1) hr hP.2.1 hst, hT⟩, hP.2.2.2⟩, rfl⟩
          · have hnx := next_facts (ps := ps) hy0 hy2 hP.1
            unfold nextAt at hnx
            have hlow := fit_step hP.1 hP.2.2.2 hT
            have hfb := far_bounds (ps := ps) (z := z) hy2
            generalize farOf ps y z = far at *
            go_wp2_with fail
            refine (meetsUsed_is a l y z x q k ps _ hT _ (hp.later hG.b) (by omega)).mono ?_
            rintro e w2 ⟨rfl, hu⟩
            replace hG := hG.later hu
            clear hu s0 s1 s2 r0 r1 z0 z1 p0 p1 hb
            go_wp2
            have hfq : far / sp z * sp z ≤ far := Int.ediv_mul_le _ (by omega)
            have hfq0 : 0 ≤ far / sp z * sp z := Int.mul_nonneg (Int.ediv_nonneg (by omega) (by omega)) (by omega)
            rw [← Hst.out, wrap_id (v := far / sp z * sp z) (by omega) (by omega), wrap_id (by omega) (by omega)]
            exact ⟨⟨_, rfl, ⟨hnx.1, by have := hP.2.1; omega, hnx.2.2, hlow⟩, hG⟩, by simp only [intOf]; omega⟩
    · go_wp2
      have hG := below_set2 hF.b (b := w.heap.size + 1) (by omega) (.int .i64 0) (.int .i64 0)
      obtain ⟨r0, r1, -⟩ := box2 (box2_set (.int .i64 0) (.int .i64 0) hF.r)
      refine bodyPost_ret (v := .tuple #[.agg #[.int .i64 0, .int .i64 0], .bool false]) (by simp [results, Tryz.results64, go_sem, r0, r1]) rfl ?_
      unfold FitPostR
      refine ⟨hG, none, fun v hv => ?_, rfl⟩
      have h1 := hP.2.2.2 v hv
      have h2 := ins_nums hv.1
      have h3 := Hla.out
      omega
end Go.Proofs.YtpdoonkhnabfjaaGreat
/- What HolesOf of package parcelwayref comes to. -/
namespace Go.Proofs.YtpdoonkhnabfjaaGreat
open Go.RowKit Go.Shelf

/-- HolesOf's box of the space, and what it has laid so far. -/
def HoAt (w : World) (a l : Int) (x : Option Addr) (n k : Nat) (o : List (Int × Int)) (v : Value) (V : World) : Prop :=
  Below w.heap.size w V ∧ V.heap[w.heap.size]? = some (.cells #[.int .i64 a, .int .i64 l, .slice x n k] 71) ∧ V.ownsRow (w.heap.size + 1) 26 2 v o.length (flat o)
theorem HoAt.start (w : World) (a l : Int) (x : Option Addr) (n k : Nat) : HoAt w a l x n k [] (.slice none 0 0) (w.alloc (.cells #[.int .i64 a, .int .i64 l, .slice x n k] 71)) :=
  ⟨bl1 w _, heap_new _ rfl, World.ownsRow_nil _ _ _ _⟩
theorem HoAt.later {w : World} {a l : Int} {x : Option Addr} {n k : Nat} {o : List (Int × Int)} {v : Value} {V V' : World} (h : HoAt w a l x n k o v V) (hb : Below V.heap.size V V') : HoAt w a l x n k o v V' :=
  ⟨h.1.trans (hb.mono h.1.size), (hb.block _ (Array.getElem?_eq_some_iff.1 h.2.1).1).trans h.2.1, own_row (B := 0) () V V' none h.2.2 (grown_of_below hb) (fun r e => by cases e)⟩

theorem place {ps H o : List (Int × Int)} {a l y : Int} (h : HInv ps a l H y o) (hr : rt a l = true) (hH : HolesAre ps a l H) (hU : Used ps a l) (hy : y < a + sp l) :
    ∃ m, l ≤ m ∧ m ≤ 17 ∧ (∀ k, l ≤ k → k ≤ 16 → (rt y k && ins y k a l && !mtsAny y k ps) = decide (m ≤ k)) ∧ (m ≤ 16 → rt y m = true ∧ HInv ps a l H (y + sp m) (o ++ [(y, m)])) ∧ (¬ m ≤ 16 → ∃ u ∈ ps, hld u.1 u.2 y = true) := by
  have hl := rt_range hr
  cases hf : mtsAny y 16 ps
  · obtain ⟨m, h1, h2, h3, h4⟩ := h.free hr hH hU hy hf
    have h5 := rt_range h1
    exact ⟨m, h2, by omega, h3, fun _ => ⟨h1, h4⟩, fun h => absurd h5.2.1 h⟩
  · obtain ⟨h1, h2⟩ := busy_at hf
    refine ⟨17, by omega, by omega, fun k hk hk2 => ?_, fun h => by omega, fun _ => h1⟩
    have hd : decide ((17 : Int) ≤ k) = false := by simp; omega
    rw [hd]
    cases h3 : rt y k
    · rfl
    · rw [h2 k h3]; simp

theorem holdsIt_is (a l y : Int) (t : Bool) (h : hld a l y = t) (w : World) :
    Calls Tryz.prog 93 #[.agg #[.int .i64 a, .int .i64 l], .int .i64 y] w fun e w' => e = .returned (.bool t) ∧ Below w.heap.size w w' := by
  subst h
  exact holdsIt_any a l y w

def HolesPostR (H : List (Int × Int)) (w : World) (e : Ending) (w' : World) : Prop := ∃ x' c', e = .returned (.slice x' H.length c') ∧ Below w.heap.size w w' ∧ PS w' x' H.length H

end Go.Proofs.YtpdoonkhnabfjaaGreat
/- Books in memory: pools, their leases; and the least calls on them: PoolAt of package parcelwayref, the rule's check in both packages, IsId. -/
namespace Go.Proofs.YtpdoonkhnabfjaaGreat
open Go.RowKit Go.Shelf

/-- A lease. -/
structure Le where
  a : Int
  l : Int
  kd : Int
  ow : Int
  un : Int
def leZ : Le := ⟨0, 0, 0, 0, 0⟩
/-- A pool: its numbers, its slice of leases, and these. -/
structure Po where
  id : Int
  up : Int
  a : Int
  l : Int
  mn : Int
  mx : Int
  us : Int
  co : Int
  x : Option Addr
  n : Nat
  c : Nat
  ls : List Le
def poZ : Po := ⟨0, 0, 0, 0, 0, 0, 0, 0, none, 0, 0, []⟩
def leAt (ls : List Le) (i : Nat) : Le := ls.getD i leZ
def poAt (ps : List Po) (i : Nat) : Po := ps.getD i poZ

/-- The slice (x, n) holds these leases in that world. -/
structure LS (w : World) (x : Option Addr) (n : Nat) (ls : List Le) : Prop where
  len : ls.length = n
  cells : ∀ i, i < n → ∃ b o, x = some ⟨b, o, none⟩ ∧ w.cell? ⟨b, o + i * 5, none⟩ = some (.int .i64 (leAt ls i).a) ∧ w.cell? ⟨b, o + i * 5 + 1, none⟩ = some (.int .i64 (leAt ls i).l) ∧
    w.cell? ⟨b, o + i * 5 + 2, none⟩ = some (.int .i64 (leAt ls i).kd) ∧ w.cell? ⟨b, o + i * 5 + 3, none⟩ = some (.int .i64 (leAt ls i).ow) ∧ w.cell? ⟨b, o + i * 5 + 4, none⟩ = some (.int .i64 (leAt ls i).un)
theorem LS.later {w w' : World} {x : Option Addr} {n : Nat} {ls : List Le} (h : LS w x n ls) (hb : Below w.heap.size w w') : LS w' x n ls where
  len := h.len
  cells := fun i hi => by
    obtain ⟨b, o, hx, c0, c1, c2, c3, c4⟩ := h.cells i hi
    exact ⟨b, o, hx, cell_later hb c0, cell_later hb c1, cell_later hb c2, cell_later hb c3, cell_later hb c4⟩
/-- The slice (x, n) holds these pools in that world. -/
structure PoS (w : World) (x : Option Addr) (n : Nat) (ps : List Po) : Prop where
  len : ps.length = n
  cells : ∀ i, i < n → ∃ b o, x = some ⟨b, o, none⟩ ∧ w.cell? ⟨b, o + i * 9, none⟩ = some (.int .i64 (poAt ps i).id) ∧ w.cell? ⟨b, o + i * 9 + 1, none⟩ = some (.int .i64 (poAt ps i).up) ∧
    w.cell? ⟨b, o + i * 9 + 2, none⟩ = some (.int .i64 (poAt ps i).a) ∧ w.cell? ⟨b, o + i * 9 + 3, none⟩ = some (.int .i64 (poAt ps i).l) ∧ w.cell? ⟨b, o + i * 9 + 4, none⟩ = some (.int .i64 (poAt ps i).mn) ∧
    w.cell? ⟨b, o + i * 9 + 5, none⟩ = some (.int .i64 (poAt ps i).mx) ∧ w.cell? ⟨b, o + i * 9 + 6, none⟩ = some (.int .i64 (poAt ps i).us) ∧ w.cell? ⟨b, o + i * 9 + 7, none⟩ = some (.int .i64 (poAt ps i).co) ∧
    w.cell? ⟨b, o + i * 9 + 8, none⟩ = some (.slice (poAt ps i).x (poAt ps i).n (poAt ps i).c)
  leases : ∀ i, i < n → (poAt ps i).n ≤ (poAt ps i).c ∧ (poAt ps i).n ≤ 1048576 ∧ LS w (poAt ps i).x (poAt ps i).n (poAt ps i).ls
theorem PoS.later {w w' : World} {x : Option Addr} {n : Nat} {ps : List Po} (h : PoS w x n ps) (hb : Below w.heap.size w w') : PoS w' x n ps where
  len := h.len
  cells := fun i hi => by
    obtain ⟨b, o, hx, c0, c1, c2, c3, c4, c5, c6, c7, c8⟩ := h.cells i hi
    exact ⟨b, o, hx, cell_later hb c0, cell_later hb c1, cell_later hb c2, cell_later hb c3, cell_later hb c4, cell_later hb c5, cell_later hb c6, cell_later hb c7, cell_later hb c8⟩
  leases := fun i hi => ⟨(h.leases i hi).1, (h.leases i hi).2.1, (h.leases i hi).2.2.later hb⟩

/-- Where the pool of that Id is; -1: nowhere. -/
def atId (ps : List Po) (id : Int) : Int := match ps.findIdx? (fun p => p.id == id) with | some i => i | none => -1
theorem atId_yes {ps : List Po} {id : Int} {i : Nat} (hi : i < ps.length) (h : (poAt ps i).id = id) (hno : ∀ j, j < i → (poAt ps j).id ≠ id) : atId ps id = i := by
  unfold atId
  have hf : ps.findIdx? (fun p => p.id == id) = some i := by
    rw [List.findIdx?_eq_some_iff_getElem]
    refine ⟨hi, ?_, fun j hj => ?_⟩
    · have : poAt ps i = ps[i] := by unfold poAt; simp [List.getD, hi]
      rw [← this]; simpa using h
    · have : poAt ps j = ps[j] := by unfold poAt; simp [List.getD, Nat.lt_trans hj hi]
      rw [← this]; simpa using hno j hj
  rw [hf]
theorem atId_no {ps : List Po} {id : Int} (hno : ∀ j, j < ps.length → (poAt ps j).id ≠ id) : atId ps id = -1 := by
  unfold atId
  have hf : ps.findIdx? (fun p => p.id == id) = none := by
    rw [List.findIdx?_eq_none_iff]
    intro p hp
    obtain ⟨j, hj, rfl⟩ := List.getElem_of_mem hp
    have : poAt ps j = ps[j] := by unfold poAt; simp [List.getD, hj]
    rw [← this]; simpa using hno j hj
  rw [hf]

set_option maxRecDepth 20000 in
set_option maxHeartbeats 800000 in
theorem poolAt_any (t id : Int) (x : Option Addr) (n c : Nat) (ps : List Po) (w : World) (hp : PoS w x n ps) (hn : n ≤ 1000) :
    Calls Tryz.prog 27 #[.agg #[.int .i64 t, .slice x n c], .int .i64 id] w fun e w' => e = .returned (.int .i64 (atId ps id)) ∧ Below w.heap.size w w' := by
  go_enter Tryz.func27, Tryz.ntmps27
  go_wp2
  go_loopw [5] (fun i wr => ∃ q : Nat, q ≤ n ∧ i = .int .i64 q ∧ wr = w.alloc (.cells #[.int .i64 t, .slice x n c] 24) ∧ (∀ j, j < q → (poAt ps j).id ≠ id)) (fun i _ => n - (intOf i).toNat)
  case atStart => exact ⟨0, by omega, rfl, rfl, fun j hj => by omega⟩
  case round =>
    obtain ⟨q, hq, rfl, rfl, hno⟩ := hrel
    have hpl := hp.len
    by_cases hlt : q < n
    · obtain ⟨b, o, rfl, c0, -⟩ := (hp.later (bl1 w (.cells #[.int .i64 t, .slice x n c] 24))).cells q hlt
      have hlt' := hlt
      by_cases hid : (poAt ps q).id = id
      · have hb : ((poAt ps q).id == id) = true := by simpa using hid
        have hid' : Hid ((poAt ps q).id = id) := hid
        clear hid
        go_wp2
        go_ret
        exact ⟨ret_int (atId_yes (by omega) hid'.out hno).symm, bl1 w _⟩
      · have hb : ((poAt ps q).id == id) = false := by simpa using hid
        have hid' : Hid ((poAt ps q).id ≠ id) := hid
        clear hid
        go_wp2
        go_roundw
        case rel => exact ⟨q + 1, hlt', by go_num, by first | rfl | trivial, fun j hj => by
          by_cases hj2 : j < q
          · exact hno j hj2
          · obtain rfl : j = q := by omega
            exact hid'.out⟩
        case measure => simp [intOf]; omega
    · go_wp2
      go_ret
      exact ⟨ret_int (atId_no (fun j hj => hno j (by omega))).symm, bl1 w _⟩

set_option maxHeartbeats 400000 in
theorem isId_any (v : Int) (w : World) : Calls Tryz.prog 17 #[.int .i64 v] w fun e w' => e = .returned (.bool (wth v 1 65536)) ∧ w' = w := by
  unfold wth
  by_cases h : 1 ≤ v
  · have hd : decide (1 ≤ v) = true := by simpa using h
    go_enter Tryz.func17, Tryz.ntmps17
    go_wp2
    go_ret
    exact ⟨by first | rfl | (rw [hd]; rfl), rfl⟩
  · have hd : decide (1 ≤ v) = false := by simpa using h
    go_enter Tryz.func17, Tryz.ntmps17
    go_wp2
    go_ret
    exact ⟨by first | rfl | (rw [hd]; rfl), rfl⟩

/-- Is it a right rule for a root of that length? -/
def ruleB (mn mx us co l : Int) : Bool := decide (l ≤ mn) && decide (mn ≤ us) && decide (us ≤ mx) && decide (mx ≤ 16) && wth co 0 1024

theorem rule_no1 {mn mx us co l : Int} (h : ¬ l ≤ mn) : ruleB mn mx us co l = false := by unfold ruleB; simp [h]
theorem rule_no2 {mn mx us co l : Int} (h : ¬ mn ≤ us) : ruleB mn mx us co l = false := by unfold ruleB; simp [h]
theorem rule_no3 {mn mx us co l : Int} (h : ¬ us ≤ mx) : ruleB mn mx us co l = false := by unfold ruleB; simp [h]
theorem rule_no4 {mn mx us co l : Int} (h : ¬ mx ≤ 16) : ruleB mn mx us co l = false := by unfold ruleB; simp [h]
theorem rule_no5 {mn mx us co l : Int} (h : ¬ 0 ≤ co) : ruleB mn mx us co l = false := by unfold ruleB wth; simp [h]
theorem rule_no6 {mn mx us co l : Int} (h : ¬ co ≤ 1024) : ruleB mn mx us co l = false := by unfold ruleB wth; simp [h]
theorem rule_yes {mn mx us co l : Int} (h1 : l ≤ mn) (h2 : mn ≤ us) (h3 : us ≤ mx) (h4 : mx ≤ 16) : ruleB mn mx us co l = wth co 0 1024 := by unfold ruleB; simp [h1, h2, h3, h4]

set_option maxRecDepth 20000 in
set_option maxHeartbeats 800000 in
theorem ruleFine_any (mn mx us co a l : Int) (w : World) :
    Calls Tryz.prog 29 #[.agg #[.int .i64 mn, .int .i64 mx, .int .i64 us, .int .i64 co], .agg #[.int .i64 a, .int .i64 l]] w fun e w' => e = .returned (.bool (ruleB mn mx us co l)) ∧ Below w.heap.size w w' := by
  by_cases h1 : l ≤ mn
  · by_cases h2 : mn ≤ us
    · by_cases h3 : us ≤ mx
      · by_cases h4 : mx ≤ 16
        · rw [rule_yes h1 h2 h3 h4]
          go_enter Tryz.func29, Tryz.ntmps29
          go_wp2_with (go_at_call 25; refine (within_any _ _ _ _).mono ?_; rintro e w1 ⟨rfl, rfl⟩)
          go_ret
          exact ⟨rfl, bl2 w _ _⟩
        · rw [rule_no4 h4]
          go_enter Tryz.func29, Tryz.ntmps29
          go_wp2
          go_ret
          exact ⟨rfl, bl2 w _ _⟩
      · rw [rule_no3 h3]
        go_enter Tryz.func29, Tryz.ntmps29
        go_wp2
        go_ret
        exact ⟨rfl, bl2 w _ _⟩
    · rw [rule_no2 h2]
      go_enter Tryz.func29, Tryz.ntmps29
      go_wp2
      go_ret
      exact ⟨rfl, bl2 w _ _⟩
  · rw [rule_no1 h1]
    go_enter Tryz.func29, Tryz.ntmps29
    go_wp2
    go_ret
    exact ⟨rfl, bl2 w _ _⟩

set_option maxRecDepth 20000 in
set_option maxHeartbeats 800000 in
theorem ruleRight_any (mn mx us co a l : Int) (w : World) :
    Calls Tryz.prog 57 #[.agg #[.int .i64 mn, .int .i64 mx, .int .i64 us, .int .i64 co], .agg #[.int .i64 a, .int .i64 l]] w fun e w' => e = .returned (.bool (ruleB mn mx us co l)) ∧ Below w.heap.size w w' := by
  by_cases h1 : l ≤ mn
  · by_cases h2 : mn ≤ us
    · by_cases h3 : us ≤ mx
      · by_cases h4 : mx ≤ 16
        · by_cases h5 : 0 ≤ co
          · have hy : ruleB mn mx us co l = decide (co ≤ 1024) := by rw [rule_yes h1 h2 h3 h4]; unfold wth; simp [h5]
            rw [hy]
            go_enter Tryz.func57, Tryz.ntmps57
            go_wp2
            go_ret
            exact ⟨rfl, bl2 w _ _⟩
          · rw [rule_no5 h5]
            go_enter Tryz.func57, Tryz.ntmps57
            go_wp2
            go_ret
            exact ⟨rfl, bl2 w _ _⟩
        · rw [rule_no4 h4]
          go_enter Tryz.func57, Tryz.ntmps57
          go_wp2
          go_ret
          exact ⟨rfl, bl2 w _ _⟩
      · rw [rule_no3 h3]
        go_enter Tryz.func57, Tryz.ntmps57
        go_wp2
        go_ret
        exact ⟨rfl, bl2 w _ _⟩
    · rw [rule_no2 h2]
      go_enter Tryz.func57, Tryz.ntmps57
      go_wp2
      go_ret
      exact ⟨rfl, bl2 w _ _⟩
  · rw [rule_no1 h1]
    go_enter Tryz.func57, Tryz.ntmps57
    go_wp2
    go_ret
    exact ⟨rfl, bl2 w _ _⟩
end Go.Proofs.YtpdoonkhnabfjaaGreat
/- slices.IndexFunc and ContainsFunc over pools and over leases; place and leaseFor of package pool. -/
namespace Go.Proofs.YtpdoonkhnabfjaaGreat
open Go.RowKit Go.Shelf

/-- What the function value g (with what it has captured) answers at the i-th prefix, in every world that comes. -/
def FnPoAt (g : Nat) (cap : Array Value) (n : Nat) (ps : List Po) (f : Nat → Bool) (w : World) : Prop :=
  ∀ i, i < n → ∀ W, Below w.heap.size w W → Calls Tryz.prog g (#[.agg #[.int .i64 (poAt ps i).id, .int .i64 (poAt ps i).up, .int .i64 (poAt ps i).a, .int .i64 (poAt ps i).l, .int .i64 (poAt ps i).mn, .int .i64 (poAt ps i).mx, .int .i64 (poAt ps i).us, .int .i64 (poAt ps i).co, .slice (poAt ps i).x (poAt ps i).n (poAt ps i).c]] ++ cap) W fun e W' => e = .returned (.bool (f i)) ∧ Below W.heap.size W W'

set_option maxRecDepth 20000 in
set_option maxHeartbeats 800000 in
theorem indexFuncPo_any (g : Nat) (cap : Array Value) (x : Option Addr) (n c : Nat) (ps : List Po) (f : Nat → Bool) (w : World) (hp : PoS w x n ps) (hn : n ≤ 64) (hF : FnPoAt g cap n ps f w)
    (hg : ∀ args W, (callFunc g args).run Tryz.prog W = .ok (.enter g args) W) :
    Calls Tryz.prog 52 #[.slice x n c, .func (.func g) #[] cap] w fun e w' => (∃ r : Int, e = .returned (.int .i64 r) ∧ ((∃ i : Nat, i < n ∧ f i = true ∧ (∀ j, j < i → f j = false) ∧ r = i) ∨ ((∀ j, j < n → f j = false) ∧ r = -1))) ∧ Below w.heap.size w w' := by
  have HF : Hid (FnPoAt g cap n ps f w) := hF
  clear hF
  go_enter Tryz.func52, Tryz.ntmps52
  go_wp2
  go_loopw [8] (fun i wr => ∃ k : Nat, k ≤ n ∧ i = .int .i64 k ∧ Below w.heap.size w wr ∧ (∀ j, j < k → f j = false)) (fun i _ => n - (intOf i).toNat)
  case atStart => exact ⟨0, by omega, rfl, Below.refl _ _, fun j hj => by omega⟩
  case round =>
    obtain ⟨k, hk, rfl, hB, hno⟩ := hrel
    by_cases hlt : k < n
    · obtain ⟨b, o, rfl, c0, c1, c2, c3, c4, c5, c6, c7, c8⟩ := hp.cells k hlt
      have d0 := cell_later hB c0
      have d1 := cell_later hB c1
      have d2 := cell_later hB c2
      have d3 := cell_later hB c3
      have d4 := cell_later hB c4
      have d5 := cell_later hB c5
      have d6 := cell_later hB c6
      have d7 := cell_later hB c7
      have d8 := cell_later hB c8
      go_wp2_with fail
      refine (HF.out k hlt _ hB).mono ?_
      rintro e w1 ⟨rfl, hb1⟩
      have hC := hB.trans (hb1.mono hB.size)
      cases hf : f k
      · go_wp2
        go_roundw
        case rel => exact ⟨k + 1, hlt, by go_num, hC, fun j hj => by
          by_cases hj2 : j < k
          · exact hno j hj2
          · obtain rfl : j = k := by omega
            exact hf⟩
        case measure => simp [intOf]; omega
      · go_wp2
        go_ret
        exact ⟨⟨_, rfl, .inl ⟨k, hlt, hf, hno, rfl⟩⟩, hC⟩
    · go_wp2
      go_ret
      exact ⟨⟨_, rfl, .inr ⟨fun j hj => hno j (by omega), rfl⟩⟩, hB⟩
set_option maxRecDepth 20000 in
set_option maxHeartbeats 800000 in
theorem containsFuncPo_any (g : Nat) (cap : Array Value) (x : Option Addr) (n c : Nat) (ps : List Po) (f : Nat → Bool) (w : World) (hp : PoS w x n ps) (hn : n ≤ 64) (hF : FnPoAt g cap n ps f w)
    (hg : ∀ args W, (callFunc g args).run Tryz.prog W = .ok (.enter g args) W) :
    Calls Tryz.prog 54 #[.slice x n c, .func (.func g) #[] cap] w fun e w' => e = .returned (.bool (anyAt n f)) ∧ Below w.heap.size w w' := by
  have H := indexFuncPo_any g cap x n c ps f w hp hn hF hg
  have H' : Hid (Calls Tryz.prog 52 #[.slice x n c, .func (.func g) #[] cap] w fun e w' => (∃ r : Int, e = .returned (.int .i64 r) ∧ decide (r ≥ 0) = anyAt n f) ∧ Below w.heap.size w w') := (H.mono fun e w' h => by
    obtain ⟨⟨r, rfl, hr⟩, hb⟩ := h
    refine ⟨⟨r, rfl, ?_⟩, hb⟩
    rcases hr with ⟨i, hi, hfi, _, rfl⟩ | ⟨hno, rfl⟩
    · rw [any_yes hi hfi]; simp
    · rw [any_no hno]; rfl)
  clear hF H
  go_enter Tryz.func54, Tryz.ntmps54
  go_wp2_with fail
  refine H'.out.mono ?_
  rintro e w1 ⟨⟨r, rfl, hr⟩, hb1⟩
  go_wp2
  go_ret
  exact ⟨rfl, hb1⟩

/-- What the function value g (with what it has captured) answers at the i-th prefix, in every world that comes. -/
def FnLeAt (g : Nat) (cap : Array Value) (n : Nat) (ps : List Le) (f : Nat → Bool) (w : World) : Prop :=
  ∀ i, i < n → ∀ W, Below w.heap.size w W → Calls Tryz.prog g (#[.agg #[.int .i64 (leAt ps i).a, .int .i64 (leAt ps i).l, .int .i64 (leAt ps i).kd, .int .i64 (leAt ps i).ow, .int .i64 (leAt ps i).un]] ++ cap) W fun e W' => e = .returned (.bool (f i)) ∧ Below W.heap.size W W'

set_option maxRecDepth 20000 in
set_option maxHeartbeats 800000 in
theorem indexFuncLe_any (g : Nat) (cap : Array Value) (x : Option Addr) (n c : Nat) (ps : List Le) (f : Nat → Bool) (w : World) (hp : LS w x n ps) (hn : n ≤ 1048576) (hF : FnLeAt g cap n ps f w)
    (hg : ∀ args W, (callFunc g args).run Tryz.prog W = .ok (.enter g args) W) :
    Calls Tryz.prog 46 #[.slice x n c, .func (.func g) #[] cap] w fun e w' => (∃ r : Int, e = .returned (.int .i64 r) ∧ ((∃ i : Nat, i < n ∧ f i = true ∧ (∀ j, j < i → f j = false) ∧ r = i) ∨ ((∀ j, j < n → f j = false) ∧ r = -1))) ∧ Below w.heap.size w w' := by
  have HF : Hid (FnLeAt g cap n ps f w) := hF
  clear hF
  go_enter Tryz.func46, Tryz.ntmps46
  go_wp2
  go_loopw [8] (fun i wr => ∃ k : Nat, k ≤ n ∧ i = .int .i64 k ∧ Below w.heap.size w wr ∧ (∀ j, j < k → f j = false)) (fun i _ => n - (intOf i).toNat)
  case atStart => exact ⟨0, by omega, rfl, Below.refl _ _, fun j hj => by omega⟩
  case round =>
    obtain ⟨k, hk, rfl, hB, hno⟩ := hrel
    by_cases hlt : k < n
    · obtain ⟨b, o, rfl, c0, c1, c2, c3, c4⟩ := hp.cells k hlt
      have d0 := cell_later hB c0
      have d1 := cell_later hB c1
      have d2 := cell_later hB c2
      have d3 := cell_later hB c3
      have d4 := cell_later hB c4
      go_wp2_with fail
      refine (HF.out k hlt _ hB).mono ?_
      rintro e w1 ⟨rfl, hb1⟩
      have hC := hB.trans (hb1.mono hB.size)
      cases hf : f k
      · go_wp2
        go_roundw
        case rel => exact ⟨k + 1, hlt, by go_num, hC, fun j hj => by
          by_cases hj2 : j < k
          · exact hno j hj2
          · obtain rfl : j = k := by omega
            exact hf⟩
        case measure => simp [intOf]; omega
      · go_wp2
        go_ret
        exact ⟨⟨_, rfl, .inl ⟨k, hlt, hf, hno, rfl⟩⟩, hC⟩
    · go_wp2
      go_ret
      exact ⟨⟨_, rfl, .inr ⟨fun j hj => hno j (by omega), rfl⟩⟩, hB⟩
set_option maxRecDepth 20000 in
set_option maxHeartbeats 800000 in
theorem containsFuncLe_any (g : Nat) (cap : Array Value) (x : Option Addr) (n c : Nat) (ps : List Le) (f : Nat → Bool) (w : World) (hp : LS w x n ps) (hn : n ≤ 1048576) (hF : FnLeAt g cap n ps f w)
    (hg : ∀ args W, (callFunc g args).run Tryz.prog W = .ok (.enter g args) W) :
    Calls Tryz.prog 67 #[.slice x n c, .func (.func g) #[] cap] w fun e w' => e = .returned (.bool (anyAt n f)) ∧ Below w.heap.size w w' := by
  have H := indexFuncLe_any g cap x n c ps f w hp hn hF hg
  have H' : Hid (Calls Tryz.prog 46 #[.slice x n c, .func (.func g) #[] cap] w fun e w' => (∃ r : Int, e = .returned (.int .i64 r) ∧ decide (r ≥ 0) = anyAt n f) ∧ Below w.heap.size w w') := (H.mono fun e w' h => by
    obtain ⟨⟨r, rfl, hr⟩, hb⟩ := h
    refine ⟨⟨r, rfl, ?_⟩, hb⟩
    rcases hr with ⟨i, hi, hfi, _, rfl⟩ | ⟨hno, rfl⟩
    · rw [any_yes hi hfi]; simp
    · rw [any_no hno]; rfl)
  clear hF H
  go_enter Tryz.func67, Tryz.ntmps67
  go_wp2_with fail
  refine H'.out.mono ?_
  rintro e w1 ⟨⟨r, rfl, hr⟩, hb1⟩
  go_wp2
  go_ret
  exact ⟨rfl, hb1⟩


set_option maxRecDepth 20000 in
theorem place1_any (id : Int) (p : Po) (b : Nat) (w : World) (h0 : w.cell? ⟨b, 0, none⟩ = some (.int .i64 id)) :
    Calls Tryz.prog 53 #[.agg #[.int .i64 p.id, .int .i64 p.up, .int .i64 p.a, .int .i64 p.l, .int .i64 p.mn, .int .i64 p.mx, .int .i64 p.us, .int .i64 p.co, .slice p.x p.n p.c], .pointer (some ⟨b, 0, none⟩)] w fun e w' => e = .returned (.bool (p.id == id)) ∧ Below w.heap.size w w' := by
  have k0 : ∀ q, (w.alloc q).cell? ⟨b, 0, none⟩ = some (.int .i64 id) := fun q => cell_later (bl1 w q) h0
  go_enter Tryz.func53, Tryz.ntmps53
  go_wp2
  go_ret
  exact ⟨rfl, bl1 w _⟩
theorem call_place1 (args : Array Value) (W : World) : (callFunc 53 args).run Tryz.prog W = .ok (.enter 53 args) W := by simp [go_sem]
theorem place_fn (id : Int) (b n : Nat) (ps : List Po) (w : World) (h0 : w.cell? ⟨b, 0, none⟩ = some (.int .i64 id)) :
    FnPoAt 53 #[.pointer (some ⟨b, 0, none⟩)] n ps (fun i => (poAt ps i).id == id) w := fun i _ W hW => place1_any id (poAt ps i) b W (cell_later hW h0)
set_option maxRecDepth 20000 in
theorem place_any (t id : Int) (x : Option Addr) (n c : Nat) (ps : List Po) (w : World) (hp : PoS w x n ps) (hn : n ≤ 64) :
    Calls Tryz.prog 19 #[.agg #[.int .i64 t, .slice x n c], .int .i64 id] w fun e w' => e = .returned (.int .i64 (atId ps id)) ∧ Below w.heap.size w w' := by
  have hl := hp.len
  go_enter Tryz.func19, Tryz.ntmps19
  go_wp2_with fail
  refine (indexFuncPo_any 53 _ x n c ps _ _ (hp.later (bl2 w _ _)) hn (place_fn id (w.heap.size + 1) n ps _ (by simp)) call_place1).mono ?_
  rintro e w1 ⟨⟨r, rfl, hr⟩, hb1⟩
  have hr' : r = atId ps id := by
    rcases hr with ⟨i, hi, hf, hno, rfl⟩ | ⟨hno, rfl⟩
    · exact (atId_yes (by omega) (by simpa using hf) (fun j hj => by simpa using hno j hj)).symm
    · exact (atId_no (fun j hj => by simpa using hno j (by omega))).symm
  subst hr'
  clear hr
  go_wp2
  go_ret
  exact ⟨rfl, (bl2 w _ _).trans (hb1.mono (by simp; omega))⟩

/-- Has the lease list one for that pool? -/
def forB (ls : List Le) (id : Int) (i : Nat) : Bool := ((leAt ls i).kd == 2) && ((leAt ls i).ow == id)
set_option maxRecDepth 20000 in
theorem leaseFor1_any (id : Int) (p : Le) (b : Nat) (w : World) (h0 : w.cell? ⟨b, 0, none⟩ = some (.int .i64 id)) :
    Calls Tryz.prog 91 #[.agg #[.int .i64 p.a, .int .i64 p.l, .int .i64 p.kd, .int .i64 p.ow, .int .i64 p.un], .pointer (some ⟨b, 0, none⟩)] w fun e w' => e = .returned (.bool ((p.kd == 2) && (p.ow == id))) ∧ Below w.heap.size w w' := by
  have k0 : ∀ q, (w.alloc q).cell? ⟨b, 0, none⟩ = some (.int .i64 id) := fun q => cell_later (bl1 w q) h0
  cases hk : (p.kd == 2)
  all_goals go_enter Tryz.func91, Tryz.ntmps91
  all_goals go_wp2
  all_goals go_ret
  all_goals exact ⟨rfl, bl1 w _⟩
theorem call_leaseFor1 (args : Array Value) (W : World) : (callFunc 91 args).run Tryz.prog W = .ok (.enter 91 args) W := by simp [go_sem]
theorem leaseFor_fn (id : Int) (b n : Nat) (ls : List Le) (w : World) (h0 : w.cell? ⟨b, 0, none⟩ = some (.int .i64 id)) :
    FnLeAt 91 #[.pointer (some ⟨b, 0, none⟩)] n ls (forB ls id) w := fun i _ W hW => leaseFor1_any id (leAt ls i) b W (cell_later hW h0)
set_option maxRecDepth 20000 in
theorem leaseFor_any (id : Int) (p : Po) (w : World) (hp : LS w p.x p.n p.ls) (hn : p.n ≤ 1048576) :
    Calls Tryz.prog 69 #[.agg #[.int .i64 p.id, .int .i64 p.up, .int .i64 p.a, .int .i64 p.l, .int .i64 p.mn, .int .i64 p.mx, .int .i64 p.us, .int .i64 p.co, .slice p.x p.n p.c], .int .i64 id] w fun e w' => (∃ r : Int, e = .returned (.int .i64 r) ∧ ((∃ i : Nat, i < p.n ∧ forB p.ls id i = true ∧ (∀ j, j < i → forB p.ls id j = false) ∧ r = i) ∨ ((∀ j, j < p.n → forB p.ls id j = false) ∧ r = -1))) ∧ Below w.heap.size w w' := by
  go_enter Tryz.func69, Tryz.ntmps69
  go_wp2_with fail
  refine (indexFuncLe_any 91 _ p.x p.n p.c p.ls _ _ (hp.later (bl2 w _ _)) hn (leaseFor_fn id (w.heap.size + 1) p.n p.ls _ (by simp)) call_leaseFor1).mono ?_
  rintro e w1 ⟨⟨r, rfl, hr⟩, hb1⟩
  have hr' : Hid ((∃ i : Nat, i < p.n ∧ forB p.ls id i = true ∧ (∀ j, j < i → forB p.ls id j = false) ∧ r = i) ∨ ((∀ j, j < p.n → forB p.ls id j = false) ∧ r = -1)) := hr
  clear hr
  go_wp2
  go_ret
  exact ⟨⟨r, rfl, hr'.out⟩, (bl2 w _ _).trans (hb1.mono (by simp; omega))⟩
end Go.Proofs.YtpdoonkhnabfjaaGreat
/- What spaceOf of package pool and SpaceOf of package parcelwayref come to: a pool's root, and where its leases are. -/
namespace Go.Proofs.YtpdoonkhnabfjaaGreat
open Go.RowKit Go.Shelf

/-- Where the leases are. -/
def lp (ls : List Le) : List (Int × Int) := ls.map fun e => (e.a, e.l)
theorem lp_len (ls : List Le) : (lp ls).length = ls.length := by unfold lp; simp
theorem lp_at {ls : List Le} {i : Nat} (hi : i < ls.length) : at0 (lp ls) i = (leAt ls i).a ∧ at1 (lp ls) i = (leAt ls i).l := by
  rw [at0_get (by rw [lp_len]; exact hi), at1_get (by rw [lp_len]; exact hi)]
  unfold lp leAt
  simp [List.getD, hi]
theorem lp_next {ls : List Le} {q : Nat} (hq : q < ls.length) : (lp ls).take (q + 1) = (lp ls).take q ++ [((leAt ls q).a, (leAt ls q).l)] := by
  rw [take_next (by rw [lp_len]; exact hq), (lp_at hq).1, (lp_at hq).2]

theorem OutAt.base {w V : World} {a l : Int} {o : List (Int × Int)} {x : Option Addr} {c : Nat} (h : OutAt w V a l o x c) : Below w.heap.size w V := h.2.2

def SpacePostP (a l : Int) (n : Nat) (ls : List Le) (w : World) (e : Ending) (w' : World) : Prop :=
  ∃ x' c', e = .returned (.agg #[.int .i64 a, .int .i64 l, .slice x' n c']) ∧ Below w.heap.size w w' ∧ PS w' x' n (lp ls)

set_option maxRecDepth 100000 in
set_option maxHeartbeats 1600000 in
theorem spaceOf_any (p : Po) (w : World) (hp : LS w p.x p.n p.ls) (hn : p.n ≤ 1048576) :
    Calls Tryz.prog 74 #[.agg #[.int .i64 p.id, .int .i64 p.up, .int .i64 p.a, .int .i64 p.l, .int .i64 p.mn, .int .i64 p.mx, .int .i64 p.us, .int .i64 p.co, .slice p.x p.n p.c]] w (SpacePostP p.a p.l p.n p.ls w) := by
  obtain ⟨i0, hi, hz0, hz1, hz2⟩ := info_prefix'
  obtain ⟨id, up, a, l, mn, mx, us, co, x, n, c, ls⟩ := p
  simp only at hp hn ⊢
  have hpl := hp.len
  go_enter Tryz.func74, Tryz.ntmps74
  go_upto_region 1 with fail
  have hB := bl2 w (.cells #[.int .i64 id, .int .i64 up, .int .i64 a, .int .i64 l, .int .i64 mn, .int .i64 mx, .int .i64 us, .int .i64 co, .slice x n c] 49) (.cells #[.int .i64 0, .int .i64 0, .slice none 0 0] 71)
  have hP : ((w.alloc (.cells #[.int .i64 id, .int .i64 up, .int .i64 a, .int .i64 l, .int .i64 mn, .int .i64 mx, .int .i64 us, .int .i64 co, .slice x n c] 49)).alloc (.cells #[.int .i64 0, .int .i64 0, .slice none 0 0] 71)).heap[w.heap.size]? = some (.cells #[.int .i64 id, .int .i64 up, .int .i64 a, .int .i64 l, .int .i64 mn, .int .i64 mx, .int .i64 us, .int .i64 co, .slice x n c] 49) := heap_old _ (heap_new _ rfl)
  have hR : ((w.alloc (.cells #[.int .i64 id, .int .i64 up, .int .i64 a, .int .i64 l, .int .i64 mn, .int .i64 mx, .int .i64 us, .int .i64 co, .slice x n c] 49)).alloc (.cells #[.int .i64 0, .int .i64 0, .slice none 0 0] 71)).heap[w.heap.size + 1]? = some (.cells #[.int .i64 0, .int .i64 0, .slice none 0 0] 71) := heap_new _ (by simp)
  generalize (w.alloc (.cells #[.int .i64 id, .int .i64 up, .int .i64 a, .int .i64 l, .int .i64 mn, .int .i64 mx, .int .i64 us, .int .i64 co, .slice x n c] 49)).alloc (.cells #[.int .i64 0, .int .i64 0, .slice none 0 0] 71) = w1 at hB hP hR ⊢
  have p2 : w1.cell? ⟨w.heap.size, 2, none⟩ = some (.int .i64 a) := by simp [World.cell?, hP]
  have p3 : w1.cell? ⟨w.heap.size, 3, none⟩ = some (.int .i64 l) := by simp [World.cell?, hP]
  have p8 : ∀ o, (w1.alloc o).cell? ⟨w.heap.size, 8, none⟩ = some (.slice x n c) := fun o => cell_later (bl1 w1 o) (by simp [World.cell?, hP])
  have hR1 := (Array.getElem?_eq_some_iff.1 hR).1
  go_wp2
  clear p2 p3 p8
  go_loopw [12] (fun i wr => ∃ (q : Nat) (o : List (Int × Int)) (xo : Option Addr) (k : Nat), q ≤ n ∧ i = .int .i64 q ∧ Hid (o = (lp ls).take q) ∧ OutAt w1 wr a l o xo k) (fun i _ => n - (intOf i).toNat)
  case atStart => exact ⟨0, [], none, 0, by omega, rfl, by unfold Hid; simp, OutAt.start w1 a l⟩
  case round =>
    obtain ⟨q, o, xo, k, hq, rfl, ho, hO⟩ := hrel
    have hol : Hid (o.length = q) := by unfold Hid; rw [ho.out, List.length_take, lp_len]; omega
    have hob : o.length ≤ n := by rw [hol.out]; exact hq
    by_cases hlt : q < n
    · obtain ⟨b, of, rfl, c0, c1, c2, c3, c4⟩ := ((hp.later hB).later (OutAt.base hO)).cells q hlt
      have hlt' := hlt
      have hnx : Hid ((lp ls).take (q + 1) = (lp ls).take q ++ [((leAt ls q).a, (leAt ls q).l)]) := lp_next (by omega)
      have hO1 := hO.later (bl1 wr (.cells #[.int .i64 (leAt ls q).a, .int .i64 (leAt ls q).l, .int .i64 (leAt ls q).kd, .int .i64 (leAt ls q).ow, .int .i64 (leAt ls q).un] 55))
      obtain ⟨-, -, o2, -⟩ := box3 hO1.1
      go_wp2_with (at_builtin; refine Hid.out ?_)
      unfold Hid
      have hwl := (Array.getElem?_eq_some_iff.1 hO.1).1
      refine wpList_append_own _ rfl _ _ 69 rfl (w1.heap.size + 1) 26 i0 (.agg #[.int .i64 0, .int .i64 0]) 2 16 under_prefixes hi hz0 hz1 hz2 rfl (by decide) _ _ _ rfl (hO1.2.1.alloc _) ⟨wr.heap.size + 1, 0, none⟩ 1 1 [.int .i64 (leAt ls q).a, .int .i64 (leAt ls q).l] rfl rfl ?_ (by simp [Value.oneCell']) (by unfold maxLen; omega) (by omega) (by simp; omega) ?_
      · intro j u hj
        rcases j with _ | _ | j
        · simp at hj; subst hj; simp [Addr.add]
        · simp at hj; subst hj; simp [Addr.add]
        · simp at hj
      · intro v' w5 hown' hgrow' _
        obtain ⟨x5, k5, rfl, f5, y5, hb5, hO5⟩ := OutAt.append hO1 hown' hgrow'
        clear hown' hgrow' c0 c1 c2 c3 c4 o2
        go_wp2
        go_roundw
        case rel => exact ⟨q + 1, _, x5, k5, hlt', by go_num, (by rw [hnx.out, ← ho.out]; rfl), hO5⟩
        case measure => simp [intOf]; omega
    · obtain rfl : q = n := by omega
      obtain ⟨o0, o1, o2, -⟩ := box3 hO.1
      have hBr := OutAt.base hO
      have hR2 := (hBr.block _ hR1).trans hR
      obtain ⟨r0, r1, r2, z0, z1, z2⟩ := box3 hR2
      obtain ⟨hp7, hf7⟩ := OutAt.ps hO
      have hall : Hid (o = lp ls) := by unfold Hid; rw [ho.out, ← hpl, ← lp_len]; exact List.take_length
      have hB2 := hB.trans (hBr.mono hB.size)
      go_wp2
      refine bodyPost_ret (v := .agg #[.int .i64 a, .int .i64 l, .slice xo o.length k]) (by simp [results, Tryz.results74, go_sem, r0, r1, r2]) rfl ?_
      unfold SpacePostP
      refine ⟨xo, k, by rw [hol.out], below_set3 hB2 (by omega) _ _ _, ?_⟩
      rw [← hall.out]
      rw [hol.out] at hp7
      exact hp7.set3 (fun q hq => by have := hf7 q hq; omega) _ _ _
end Go.Proofs.YtpdoonkhnabfjaaGreat
/- What SpaceOf of package parcelwayref comes to. -/
namespace Go.Proofs.YtpdoonkhnabfjaaGreat
open Go.RowKit Go.Shelf

set_option maxRecDepth 100000 in
set_option maxHeartbeats 1600000 in
theorem spaceOfR_any (p : Po) (w : World) (hp : LS w p.x p.n p.ls) (hn : p.n ≤ 1048576) :
    Calls Tryz.prog 41 #[.agg #[.int .i64 p.id, .int .i64 p.up, .int .i64 p.a, .int .i64 p.l, .int .i64 p.mn, .int .i64 p.mx, .int .i64 p.us, .int .i64 p.co, .slice p.x p.n p.c]] w (SpacePostP p.a p.l p.n p.ls w) := by
  obtain ⟨i0, hi, hz0, hz1, hz2⟩ := info_prefix'
  obtain ⟨id, up, a, l, mn, mx, us, co, x, n, c, ls⟩ := p
  simp only at hp hn ⊢
  have hpl := hp.len
  go_enter Tryz.func41, Tryz.ntmps41
  go_upto_region 1 with fail
  have hB := bl2 w (.cells #[.int .i64 id, .int .i64 up, .int .i64 a, .int .i64 l, .int .i64 mn, .int .i64 mx, .int .i64 us, .int .i64 co, .slice x n c] 49) (.cells #[.int .i64 0, .int .i64 0, .slice none 0 0] 71)
  have hP : ((w.alloc (.cells #[.int .i64 id, .int .i64 up, .int .i64 a, .int .i64 l, .int .i64 mn, .int .i64 mx, .int .i64 us, .int .i64 co, .slice x n c] 49)).alloc (.cells #[.int .i64 0, .int .i64 0, .slice none 0 0] 71)).heap[w.heap.size]? = some (.cells #[.int .i64 id, .int .i64 up, .int .i64 a, .int .i64 l, .int .i64 mn, .int .i64 mx, .int .i64 us, .int .i64 co, .slice x n c] 49) := heap_old _ (heap_new _ rfl)
  have hR : ((w.alloc (.cells #[.int .i64 id, .int .i64 up, .int .i64 a, .int .i64 l, .int .i64 mn, .int .i64 mx, .int .i64 us, .int .i64 co, .slice x n c] 49)).alloc (.cells #[.int .i64 0, .int .i64 0, .slice none 0 0] 71)).heap[w.heap.size + 1]? = some (.cells #[.int .i64 0, .int .i64 0, .slice none 0 0] 71) := heap_new _ (by simp)
  generalize (w.alloc (.cells #[.int .i64 id, .int .i64 up, .int .i64 a, .int .i64 l, .int .i64 mn, .int .i64 mx, .int .i64 us, .int .i64 co, .slice x n c] 49)).alloc (.cells #[.int .i64 0, .int .i64 0, .slice none 0 0] 71) = w1 at hB hP hR ⊢
  have p2 : w1.cell? ⟨w.heap.size, 2, none⟩ = some (.int .i64 a) := by simp [World.cell?, hP]
  have p3 : w1.cell? ⟨w.heap.size, 3, none⟩ = some (.int .i64 l) := by simp [World.cell?, hP]
  have p8 : ∀ o, (w1.alloc o).cell? ⟨w.heap.size, 8, none⟩ = some (.slice x n c) := fun o => cell_later (bl1 w1 o) (by simp [World.cell?, hP])
  have hR1 := (Array.getElem?_eq_some_iff.1 hR).1
  go_wp2
  clear p2 p3 p8
  go_loopw [4] (fun i wr => ∃ (q : Nat) (o : List (Int × Int)) (xo : Option Addr) (k : Nat), q ≤ n ∧ i = .int .i64 q ∧ Hid (o = (lp ls).take q) ∧ OutAt w1 wr a l o xo k) (fun i _ => n - (intOf i).toNat)
  case atStart => exact ⟨0, [], none, 0, by omega, rfl, by unfold Hid; simp, OutAt.start w1 a l⟩
  case round =>
    obtain ⟨q, o, xo, k, hq, rfl, ho, hO⟩ := hrel
    have hol : Hid (o.length = q) := by unfold Hid; rw [ho.out, List.length_take, lp_len]; omega
    have hob : o.length ≤ n := by rw [hol.out]; exact hq
    by_cases hlt : q < n
    · obtain ⟨b, of, rfl, c0, c1, c2, c3, c4⟩ := ((hp.later hB).later (OutAt.base hO)).cells q hlt
      have hlt' := hlt
      have hnx : Hid ((lp ls).take (q + 1) = (lp ls).take q ++ [((leAt ls q).a, (leAt ls q).l)]) := lp_next (by omega)
      have hBr := OutAt.base hO
      have hPr := (hBr.block _ (Array.getElem?_eq_some_iff.1 hP).1).trans hP
      have p8 : wr.cell? ⟨w.heap.size, 8, none⟩ = some (.slice (some ⟨b, of, none⟩) n c) := by simp [World.cell?, hPr]
      obtain ⟨-, -, o2, -, -, y2⟩ := box3 hO.1
      have k2 : ∀ e, (wr.alloc e).cell? ⟨w1.heap.size, 2, none⟩ = some (.slice xo o.length k) := fun e => cell_later (bl1 wr e) o2
      have hwl := (Array.getElem?_eq_some_iff.1 hO.1).1
      go_upto_region 5 with fail
      go_region_law (refine step_append_own rfl (.tmp 16) (.tmp 23) 69 rfl (w1.heap.size + 1) 26 i0 (.agg #[.int .i64 0, .int .i64 0]) 2 16 under_prefixes hi hz0 hz1 hz2 rfl (by decide) (.slice xo o.length k) o.length (flat o) rfl (hO.2.1.alloc _) ⟨wr.heap.size, 0, none⟩ 1 1 [.int .i64 (leAt ls q).a, .int .i64 (leAt ls q).l] rfl rfl ?_ (by simp [Value.oneCell']) (by unfold maxLen; omega) (by omega) (by simp; omega) ?_; (intro j u hj; rcases j with _ | _ | j <;> simp at hj <;> subst hj <;> simp [Addr.add]); intro v' w5 hown' hgrow; obtain ⟨x5, c5, rfl, f5, y5, hb5, hO5⟩ := OutAt.append hO hown' (grown_drew hgrow))
      all_goals go_wp2
      all_goals go_roundw
      all_goals first | exact ⟨q + 1, _, x5, c5, hlt', by go_num, (by rw [hnx.out, ← ho.out]; rfl), hO5⟩ | (simp [intOf]; omega)
    · obtain rfl : q = n := by omega
      obtain ⟨o0, o1, o2, -⟩ := box3 hO.1
      have hBr := OutAt.base hO
      have hPr := (hBr.block _ (Array.getElem?_eq_some_iff.1 hP).1).trans hP
      have p8 : wr.cell? ⟨w.heap.size, 8, none⟩ = some (.slice x q c) := by simp [World.cell?, hPr]
      have hR2 := (hBr.block _ hR1).trans hR
      obtain ⟨r0, r1, r2, z0, z1, z2⟩ := box3 hR2
      obtain ⟨hp7, hf7⟩ := OutAt.ps hO
      have hall : Hid (o = lp ls) := by unfold Hid; rw [ho.out, ← hpl, ← lp_len]; exact List.take_length
      have hB2 := hB.trans (hBr.mono hB.size)
      go_wp2
      refine bodyPost_ret (v := .agg #[.int .i64 a, .int .i64 l, .slice xo o.length k]) (by simp [results, Tryz.results41, go_sem, r0, r1, r2]) rfl ?_
      unfold SpacePostP
      refine ⟨xo, k, by rw [hol.out], below_set3 hB2 (by omega) _ _ _, ?_⟩
      rw [← hall.out]
      rw [hol.out] at hp7
      exact hp7.set3 (fun q hq => by have := hf7 q hq; omega) _ _ _
end Go.Proofs.YtpdoonkhnabfjaaGreat
/- What meetsTop of package pool comes to, and the closure of idsRise. -/
namespace Go.Proofs.YtpdoonkhnabfjaaGreat
open Go.RowKit Go.Shelf

/-- Is the i-th pool in no other one, and does its root meet that one? -/
def topB (ps : List Po) (c m : Int) (i : Nat) : Bool := ((poAt ps i).up == 0) && mts (poAt ps i).a (poAt ps i).l c m

set_option maxRecDepth 20000 in
set_option maxHeartbeats 800000 in
theorem meetsTop1_any (c m : Int) (p : Po) (b : Nat) (w : World) (h0 : w.cell? ⟨b, 0, none⟩ = some (.int .i64 c)) (h1 : w.cell? ⟨b, 1, none⟩ = some (.int .i64 m)) :
    Calls Tryz.prog 55 #[.agg #[.int .i64 p.id, .int .i64 p.up, .int .i64 p.a, .int .i64 p.l, .int .i64 p.mn, .int .i64 p.mx, .int .i64 p.us, .int .i64 p.co, .slice p.x p.n p.c], .pointer (some ⟨b, 0, none⟩)] w fun e w' => e = .returned (.bool ((p.up == 0) && mts p.a p.l c m)) ∧ Below w.heap.size w w' := by
  have k0 : ∀ q, (w.alloc q).cell? ⟨b, 0, none⟩ = some (.int .i64 c) := fun q => cell_later (bl1 w q) h0
  have k1 : ∀ q, (w.alloc q).cell? ⟨b, 1, none⟩ = some (.int .i64 m) := fun q => cell_later (bl1 w q) h1
  cases hk : (p.up == 0)
  · go_enter Tryz.func55, Tryz.ntmps55
    go_wp2
    go_ret
    exact ⟨rfl, bl1 w _⟩
  · go_enter Tryz.func55, Tryz.ntmps55
    go_wp2_with (go_at_call 56; refine (meets_any _ _ _ _ _).mono ?_; rintro e w1 ⟨rfl, hb1⟩)
    go_ret
    exact ⟨rfl, (bl1 w _).trans (hb1.mono (by simp))⟩
theorem call_meetsTop1 (args : Array Value) (W : World) : (callFunc 55 args).run Tryz.prog W = .ok (.enter 55 args) W := by simp [go_sem]
theorem meetsTop_fn (c m : Int) (b n : Nat) (ps : List Po) (w : World) (h0 : w.cell? ⟨b, 0, none⟩ = some (.int .i64 c)) (h1 : w.cell? ⟨b, 1, none⟩ = some (.int .i64 m)) :
    FnPoAt 55 #[.pointer (some ⟨b, 0, none⟩)] n ps (topB ps c m) w := fun i _ W hW => meetsTop1_any c m (poAt ps i) b W (cell_later hW h0) (cell_later hW h1)
set_option maxRecDepth 20000 in
theorem meetsTop_any (c m : Int) (x : Option Addr) (n k : Nat) (ps : List Po) (w : World) (hp : PoS w x n ps) (hn : n ≤ 64) :
    Calls Tryz.prog 20 #[.slice x n k, .agg #[.int .i64 c, .int .i64 m]] w fun e w' => e = .returned (.bool (anyAt n (topB ps c m))) ∧ Below w.heap.size w w' := by
  go_enter Tryz.func20, Tryz.ntmps20
  go_wp2_with fail
  refine (containsFuncPo_any 55 _ x n k ps _ _ (hp.later (bl1 w _)) hn (meetsTop_fn c m w.heap.size n ps _ (by simp) (by simp)) call_meetsTop1).mono ?_
  rintro e w1 ⟨rfl, hb1⟩
  go_wp2
  go_ret
  exact ⟨rfl, (bl1 w _).trans (hb1.mono (by simp))⟩

set_option maxRecDepth 20000 in
theorem idsRise1_any (p : Po) (w : World) :
    Calls Tryz.prog 72 #[.agg #[.int .i64 p.id, .int .i64 p.up, .int .i64 p.a, .int .i64 p.l, .int .i64 p.mn, .int .i64 p.mx, .int .i64 p.us, .int .i64 p.co, .slice p.x p.n p.c]] w fun e w' => e = .returned (.bool (!wth p.id 1 65536)) ∧ Below w.heap.size w w' := by
  go_enter Tryz.func72, Tryz.ntmps72
  go_wp2_with (go_at_call 17; refine (isId_any _ _).mono ?_; rintro e w1 ⟨rfl, rfl⟩)
  go_ret
  exact ⟨rfl, bl1 w _⟩
theorem call_idsRise1 (args : Array Value) (W : World) : (callFunc 72 args).run Tryz.prog W = .ok (.enter 72 args) W := by simp [go_sem]
theorem idsRise_fn (n : Nat) (ps : List Po) (w : World) : FnPoAt 72 #[] n ps (fun i => !wth (poAt ps i).id 1 65536) w := fun i _ W _ => idsRise1_any (poAt ps i) W
end Go.Proofs.YtpdoonkhnabfjaaGreat
/- What package order comes to at pools that rise by their Ids: compare, Rise; idsRise of package pool. -/
namespace Go.Proofs.YtpdoonkhnabfjaaGreat
open Go.RowKit Go.Shelf

set_option maxRecDepth 20000 in
set_option maxHeartbeats 400000 in
theorem poolId_any (p : Po) (w : World) :
    Calls Tryz.prog 59 #[.agg #[.int .i64 p.id, .int .i64 p.up, .int .i64 p.a, .int .i64 p.l, .int .i64 p.mn, .int .i64 p.mx, .int .i64 p.us, .int .i64 p.co, .slice p.x p.n p.c]] w fun e w' => e = .returned (.int .i64 p.id) ∧ Below w.heap.size w w' := by
  go_enter Tryz.func59, Tryz.ntmps59
  go_wp2
  go_ret
  exact ⟨rfl, bl1 _ _⟩
theorem call_poolId (args : Array Value) (W : World) : (callFunc 59 args).run Tryz.prog W = .ok (.enter 59 args) W := by simp [go_sem]

set_option maxRecDepth 100000 in
set_option maxHeartbeats 1600000 in
theorem comparePo_is (p r : Po) (v : Int) (hv : Cmp p.id r.id v) (bb kk : Nat) (w : World) (hby : w.cell? ⟨bb, 0, none⟩ = some (.func (.func 59) #[] #[])) :
    Calls Tryz.prog 84 #[.agg #[.int .i64 p.id, .int .i64 p.up, .int .i64 p.a, .int .i64 p.l, .int .i64 p.mn, .int .i64 p.mx, .int .i64 p.us, .int .i64 p.co, .slice p.x p.n p.c], .agg #[.int .i64 r.id, .int .i64 r.up, .int .i64 r.a, .int .i64 r.l, .int .i64 r.mn, .int .i64 r.mx, .int .i64 r.us, .int .i64 r.co, .slice r.x r.n r.c], .slice (some ⟨bb, 0, none⟩) 1 kk] w fun e w' => e = .returned (.int .i64 v) ∧ Below w.heap.size w w' := by
  have hcall := call_poolId
  go_enter Tryz.func84, Tryz.ntmps84
  go_wp2
  go_loopw [12] (fun i wr => ∃ j : Nat, (j = 0 ∨ (j = 1 ∧ v = 0)) ∧ i = .int .i64 j ∧ Below (w.heap.size + 1 + 1) ((w.alloc (.cells #[.int .i64 p.id, .int .i64 p.up, .int .i64 p.a, .int .i64 p.l, .int .i64 p.mn, .int .i64 p.mx, .int .i64 p.us, .int .i64 p.co, .slice p.x p.n p.c] 49)).alloc (.cells #[.int .i64 r.id, .int .i64 r.up, .int .i64 r.a, .int .i64 r.l, .int .i64 r.mn, .int .i64 r.mx, .int .i64 r.us, .int .i64 r.co, .slice r.x r.n r.c] 49)) wr) (fun i _ => 1 - (intOf i).toNat)
  case atStart => exact ⟨0, .inl rfl, rfl, Below.refl _ _⟩
  case round =>
    obtain ⟨j, hj, rfl, hB⟩ := hrel
    rcases hj with rfl | ⟨rfl, hv0⟩
    · have hz := hB.size
      simp only [World.size_alloc] at hz
      have hbl : bb < w.heap.size := block_lt_of_cell hby
      have e0 : wr.cell? ⟨w.heap.size, 0, none⟩ = some (.int .i64 p.id) := (hB.cell (p := ⟨w.heap.size, 0, none⟩) (by show w.heap.size < _; omega)).trans (by simp)
      have e1 : wr.cell? ⟨w.heap.size, 1, none⟩ = some (.int .i64 p.up) := (hB.cell (p := ⟨w.heap.size, 1, none⟩) (by show w.heap.size < _; omega)).trans (by simp)
      have e2 : wr.cell? ⟨w.heap.size, 2, none⟩ = some (.int .i64 p.a) := (hB.cell (p := ⟨w.heap.size, 2, none⟩) (by show w.heap.size < _; omega)).trans (by simp)
      have e3 : wr.cell? ⟨w.heap.size, 3, none⟩ = some (.int .i64 p.l) := (hB.cell (p := ⟨w.heap.size, 3, none⟩) (by show w.heap.size < _; omega)).trans (by simp)
      have e4 : wr.cell? ⟨w.heap.size, 4, none⟩ = some (.int .i64 p.mn) := (hB.cell (p := ⟨w.heap.size, 4, none⟩) (by show w.heap.size < _; omega)).trans (by simp)
      have e5 : wr.cell? ⟨w.heap.size, 5, none⟩ = some (.int .i64 p.mx) := (hB.cell (p := ⟨w.heap.size, 5, none⟩) (by show w.heap.size < _; omega)).trans (by simp)
      have e6 : wr.cell? ⟨w.heap.size, 6, none⟩ = some (.int .i64 p.us) := (hB.cell (p := ⟨w.heap.size, 6, none⟩) (by show w.heap.size < _; omega)).trans (by simp)
      have e7 : wr.cell? ⟨w.heap.size, 7, none⟩ = some (.int .i64 p.co) := (hB.cell (p := ⟨w.heap.size, 7, none⟩) (by show w.heap.size < _; omega)).trans (by simp)
      have e8 : wr.cell? ⟨w.heap.size, 8, none⟩ = some (.slice p.x p.n p.c) := (hB.cell (p := ⟨w.heap.size, 8, none⟩) (by show w.heap.size < _; omega)).trans (by simp)
      have f0 : wr.cell? ⟨w.heap.size + 1, 0, none⟩ = some (.int .i64 r.id) := (hB.cell (p := ⟨w.heap.size + 1, 0, none⟩) (by show w.heap.size + 1 < _; omega)).trans (by simp)
      have f1 : wr.cell? ⟨w.heap.size + 1, 1, none⟩ = some (.int .i64 r.up) := (hB.cell (p := ⟨w.heap.size + 1, 1, none⟩) (by show w.heap.size + 1 < _; omega)).trans (by simp)
      have f2 : wr.cell? ⟨w.heap.size + 1, 2, none⟩ = some (.int .i64 r.a) := (hB.cell (p := ⟨w.heap.size + 1, 2, none⟩) (by show w.heap.size + 1 < _; omega)).trans (by simp)
      have f3 : wr.cell? ⟨w.heap.size + 1, 3, none⟩ = some (.int .i64 r.l) := (hB.cell (p := ⟨w.heap.size + 1, 3, none⟩) (by show w.heap.size + 1 < _; omega)).trans (by simp)
      have f4 : wr.cell? ⟨w.heap.size + 1, 4, none⟩ = some (.int .i64 r.mn) := (hB.cell (p := ⟨w.heap.size + 1, 4, none⟩) (by show w.heap.size + 1 < _; omega)).trans (by simp)
      have f5 : wr.cell? ⟨w.heap.size + 1, 5, none⟩ = some (.int .i64 r.mx) := (hB.cell (p := ⟨w.heap.size + 1, 5, none⟩) (by show w.heap.size + 1 < _; omega)).trans (by simp)
      have f6 : wr.cell? ⟨w.heap.size + 1, 6, none⟩ = some (.int .i64 r.us) := (hB.cell (p := ⟨w.heap.size + 1, 6, none⟩) (by show w.heap.size + 1 < _; omega)).trans (by simp)
      have f7 : wr.cell? ⟨w.heap.size + 1, 7, none⟩ = some (.int .i64 r.co) := (hB.cell (p := ⟨w.heap.size + 1, 7, none⟩) (by show w.heap.size + 1 < _; omega)).trans (by simp)
      have f8 : wr.cell? ⟨w.heap.size + 1, 8, none⟩ = some (.slice r.x r.n r.c) := (hB.cell (p := ⟨w.heap.size + 1, 8, none⟩) (by show w.heap.size + 1 < _; omega)).trans (by simp)
      have e9 : wr.cell? ⟨bb, 0, none⟩ = some (.func (.func 59) #[] #[]) := (hB.cell (p := ⟨bb, 0, none⟩) (by show bb < _; omega)).trans (cell_later (bl2 w _ _) hby)
      have g0 := Ws.here e0
      have k0 := Ws.here f0
      have g1 := Ws.here e1
      have k1 := Ws.here f1
      have g2 := Ws.here e2
      have k2 := Ws.here f2
      have g3 := Ws.here e3
      have k3 := Ws.here f3
      have g4 := Ws.here e4
      have k4 := Ws.here f4
      have g5 := Ws.here e5
      have k5 := Ws.here f5
      have g6 := Ws.here e6
      have k6 := Ws.here f6
      have g7 := Ws.here e7
      have k7 := Ws.here f7
      have g8 := Ws.here e8
      have k8 := Ws.here f8
      go_upto_region 4 with fail
      clear e0 f0 e1 f1 e2 f2 e3 f3 e4 f4 e5 f5 e6 f6 e7 f7 e8 f8 e9
      refine wp_region_ws wr.heap.size (by kernel_rfl) (by kernel_rfl) ?_
      repeat (go_big_quiet_step (first | (go_at_call 59; exact Calls.in_ws (Nat.le_refl _) (poolId_any _ _)) | (go_at_call 98; exact Calls.in_ws_same (cmp_is _ _ _ hv _))))
      refine wpQuiet_nil ?_
      rintro _ ⟨u, rfl⟩
      have hu := hB.trans (u.property.mono hz)
      generalize u.val = wu at hu ⊢
      clear u g0 k0 g1 k1 g2 k2 g3 k3 g4 k4 g5 k5 g6 k6 g7 k7 g8 k8
      rcases hv with ⟨h, rfl⟩ | ⟨h, rfl⟩ | ⟨h, rfl⟩
      · go_wp2
        go_ret
        exact ⟨rfl, (bl2 w _ _).trans (hu.mono (by omega))⟩
      · go_wp2
        go_roundw
        case rel => exact ⟨1, .inr ⟨rfl, trivial⟩, by go_num, hu⟩
        case measure => simp [intOf]
      · go_wp2
        go_ret
        exact ⟨rfl, (bl2 w _ _).trans (hu.mono (by omega))⟩
    · subst hv0
      go_wp2
      go_ret
      exact ⟨rfl, (bl2 w _ _).trans (hB.mono (by omega))⟩

end Go.Proofs.YtpdoonkhnabfjaaGreat
/- What Rise of package order comes to at pools. -/
namespace Go.Proofs.YtpdoonkhnabfjaaGreat
open Go.RowKit Go.Shelf

/-- The Ids rise. -/
def risePoAt (ps : List Po) (i : Nat) : Bool := i == 0 || decide ((poAt ps (i - 1)).id < (poAt ps i).id)
def risePoB (ps : List Po) : Bool := (List.range ps.length).all (risePoAt ps)
theorem risePo_no {ps : List Po} {k : Nat} (hk : k < ps.length) (h : risePoAt ps k = false) : risePoB ps = false := by
  unfold risePoB
  rw [List.all_eq_false]
  exact ⟨k, by simpa using hk, by simp [h]⟩
theorem risePo_yes {ps : List Po} (h : ∀ j, j < ps.length → risePoAt ps j = true) : risePoB ps = true := by
  unfold risePoB
  rw [List.all_eq_true]
  intro j hj
  exact h j (by simpa using hj)

set_option maxRecDepth 100000 in
set_option maxHeartbeats 1600000 in
theorem risePo_any (x : Option Addr) (n c : Nat) (ps : List Po) (bb kk : Nat) (w : World) (hp : PoS w x n ps) (hn : n ≤ 64) (hby : w.cell? ⟨bb, 0, none⟩ = some (.func (.func 59) #[] #[])) :
    Calls Tryz.prog 71 #[.slice x n c, .slice (some ⟨bb, 0, none⟩) 1 kk] w fun e w' => e = .returned (.bool (risePoB ps)) ∧ Below w.heap.size w w' := by
  go_enter Tryz.func71, Tryz.ntmps71
  go_wp2
  go_loopw [5] (fun i wr => ∃ j : Nat, 1 ≤ j ∧ j ≤ n + 1 ∧ i = .int .i64 j ∧ Below w.heap.size w wr ∧ (∀ i, i < j → i < n → risePoAt ps i = true)) (fun i _ => n + 1 - (intOf i).toNat)
  case atStart => exact ⟨1, by omega, by omega, rfl, Below.refl _ _, fun i hi _ => by
    obtain rfl : i = 0 := by omega
    rfl⟩
  case round =>
    obtain ⟨j, hj1, hjn, rfl, hB, hok⟩ := hrel
    have hz := hB.size
    have hpl := hp.len
    by_cases hlt : j < n
    · obtain ⟨i, rfl⟩ : ∃ i, j = i + 1 := ⟨j - 1, by omega⟩
      have hp2 := hp.later hB
      obtain ⟨b, o, rfl, c0, c1, c2, c3, c4, c5, c6, c7, c8⟩ := hp2.cells i (by omega)
      obtain ⟨b2, o2, hbo, d0, d1, d2, d3, d4, d5, d6, d7, d8⟩ := hp2.cells (i + 1) (by omega)
      simp only [Option.some.injEq, Addr.mk.injEq, and_true] at hbo
      obtain ⟨rfl, rfl⟩ := hbo
      have hby' := cell_later hB hby
      have hlt' := hlt
      have g0 := Ws.here c0
      have k0 := Ws.here d0
      have g1 := Ws.here c1
      have k1 := Ws.here d1
      have g2 := Ws.here c2
      have k2 := Ws.here d2
      have g3 := Ws.here c3
      have k3 := Ws.here d3
      have g4 := Ws.here c4
      have k4 := Ws.here d4
      have g5 := Ws.here c5
      have k5 := Ws.here d5
      have g6 := Ws.here c6
      have k6 := Ws.here d6
      have g7 := Ws.here c7
      have k7 := Ws.here d7
      have g8 := Ws.here c8
      have k8 := Ws.here d8
      have g9 := Ws.here hby'
      have hv : ∃ v, Cmp ((poAt ps i).id) ((poAt ps (i + 1)).id) v ∧ (decide ((poAt ps i).id < (poAt ps (i + 1)).id) = !(decide (0 ≤ v))) := by
        rcases Int.lt_trichotomy ((poAt ps i).id) ((poAt ps (i + 1)).id) with h | h | h
        · exact ⟨-1, .inl ⟨h, rfl⟩, by simp [h]⟩
        · exact ⟨0, .inr (.inl ⟨h, rfl⟩), by simp [h]⟩
        · exact ⟨1, .inr (.inr ⟨h, rfl⟩), by simp; omega⟩
      obtain ⟨v, hv, hd⟩ := hv
      go_upto_region 4 with fail
      clear c0 d0 c1 d1 c2 d2 c3 d3 c4 d4 c5 d5 c6 d6 c7 d7 c8 d8
      refine wp_region_ws wr.heap.size (by kernel_rfl) (by kernel_rfl) ?_
      cases hg : decide (0 ≤ v)
      all_goals rw [hg] at hd
      all_goals have hge : decide (v ≥ 0) = _ := hg
      all_goals repeat (go_big_quiet_step ((go_at_call 84; exact Calls.in_ws (Nat.le_refl _) (comparePo_is (poAt ps i) (poAt ps (i + 1)) _ hv _ _ _ (g9 _)))))
      all_goals refine wpQuiet_nil ?_
      all_goals rintro _ ⟨u, rfl⟩
      all_goals have hu := hB.trans (u.property.mono hz)
      all_goals generalize u.val = wu at hu ⊢
      all_goals clear u g9 g0 k0 g1 k1 g2 k2 g3 k3 g4 k4 g5 k5 g6 k6 g7 k7 g8 k8
      all_goals go_wp2
      · go_roundw
        case rel => exact ⟨i + 1 + 1, by omega, by omega, by go_num, hu, fun q hq hqn => by
          by_cases hq2 : q < i + 1
          · exact hok q hq2 hqn
          · obtain rfl : q = i + 1 := by omega
            simp only [risePoAt, Nat.add_sub_cancel, hd]
            simp⟩
        case measure => simp [intOf]; omega
      · go_ret
        exact ⟨ret_bool (risePo_no (k := i + 1) (by omega) (by simp only [risePoAt, Nat.add_sub_cancel, hd]; simp)).symm, hu⟩
    · go_wp2
      go_ret
      exact ⟨ret_bool (risePo_yes (fun i hi => hok i (by omega) (by omega))).symm, hB⟩
end Go.Proofs.YtpdoonkhnabfjaaGreat
/- What idsRise of package pool comes to. -/
namespace Go.Proofs.YtpdoonkhnabfjaaGreat
open Go.RowKit Go.Shelf

/-- Are the Ids right, and do they rise? -/
def idsB (n : Nat) (ps : List Po) : Bool := risePoB ps && !anyAt n (fun i => !wth (poAt ps i).id 1 65536)
set_option maxRecDepth 20000 in
set_option maxHeartbeats 800000 in
theorem idsRise_any (x : Option Addr) (n c : Nat) (ps : List Po) (w : World) (hp : PoS w x n ps) (hn : n ≤ 64) :
    Calls Tryz.prog 37 #[.slice x n c] w fun e w' => e = .returned (.bool (idsB n ps)) ∧ Below w.heap.size w w' := by
  unfold idsB
  go_enter Tryz.func37, Tryz.ntmps37
  go_wp2_with fail
  refine (risePo_any x n c ps w.heap.size 1 _ (hp.later (bl1 w _)) hn (by simp)).mono ?_
  rintro e w1 ⟨rfl, hb1⟩
  have hB := (bl1 w _).trans (hb1.mono (by simp))
  clear hb1
  cases hr : risePoB ps
  · go_wp2
    go_ret
    exact ⟨ret_bool (by rw [hr]; rfl), hB⟩
  · go_wp2_with fail
    refine (containsFuncPo_any 72 #[] x n c ps _ _ (hp.later hB) hn (idsRise_fn n ps _) call_idsRise1).mono ?_
    rintro e w2 ⟨rfl, hb2⟩
    go_wp2
    go_ret
    exact ⟨ret_bool (by rw [hr]; simp), hB.trans (hb2.mono hB.size)⟩
end Go.Proofs.YtpdoonkhnabfjaaGreat
/- What topsApart of package pool comes to. -/
namespace Go.Proofs.YtpdoonkhnabfjaaGreat
open Go.RowKit Go.Shelf

theorem box_cells {V : World} {b : Nat} {cs : Array Value} {t : TypeId} (h : V.heap[b]? = some (.cells cs t)) : (∀ j, V.cell? ⟨b, j, none⟩ = cs[j]?) ∧ (∀ j, V.frozen? ⟨b, j, none⟩ = false) := by
  refine ⟨fun j => ?_, fun j => ?_⟩
  · simp [World.cell?, h]
  · simp [World.frozen?, h]
theorem heap_later {V V' : World} {b : Nat} {o : Obj} (hb : Below V.heap.size V V') (h : V.heap[b]? = some o) : V'.heap[b]? = some o := (hb.block _ (Array.getElem?_eq_some_iff.1 h).1).trans h
/-- A pool as a value, as a box. -/
abbrev poV (p : Po) : Value := .agg #[.int .i64 p.id, .int .i64 p.up, .int .i64 p.a, .int .i64 p.l, .int .i64 p.mn, .int .i64 p.mx, .int .i64 p.us, .int .i64 p.co, .slice p.x p.n p.c]
abbrev poB (p : Po) : Obj := .cells #[.int .i64 p.id, .int .i64 p.up, .int .i64 p.a, .int .i64 p.l, .int .i64 p.mn, .int .i64 p.mx, .int .i64 p.us, .int .i64 p.co, .slice p.x p.n p.c] 49
theorem poAt_get {ps : List Po} {i : Nat} (h : i < ps.length) : poAt ps i = ps[i] := by simp [poAt, List.getD_eq_getElem?_getD, h]
theorem poAt_take {ps : List Po} {i j : Nat} (h : j < i) : poAt (ps.take i) j = poAt ps j := by
  unfold poAt
  rw [List.getD_eq_getElem?_getD, List.getD_eq_getElem?_getD, List.getElem?_take_of_lt h]
theorem PoS.take {w : World} {x : Option Addr} {n i : Nat} {ps : List Po} (h : PoS w x n ps) (hi : i ≤ n) : PoS w x i (ps.take i) where
  len := by rw [List.length_take, h.len]; omega
  cells := fun j hj => by rw [poAt_take hj]; exact h.cells j (by omega)
  leases := fun j hj => by rw [poAt_take hj]; exact h.leases j (by omega)
theorem any_congr {n : Nat} {f g : Nat → Bool} (h : ∀ j, j < n → f j = g j) : anyAt n f = anyAt n g := by
  cases hg : anyAt n g
  · refine any_no fun j hj => ?_
    rw [h j hj]
    cases hgj : g j
    · rfl
    · rw [any_yes hj hgj] at hg; cases hg
  · unfold anyAt at hg ⊢
    rw [List.any_eq_true] at hg ⊢
    obtain ⟨j, hj, hgj⟩ := hg
    exact ⟨j, hj, by rw [h j (by simpa using hj)]; exact hgj⟩

/-- Does the i-th pool meet no top ahead of it, if it is one? -/
def topsAt (ps : List Po) (i : Nat) : Bool := !(((poAt ps i).up == 0) && anyAt i (topB ps (poAt ps i).a (poAt ps i).l))
def topsB (ps : List Po) : Bool := (List.range ps.length).all (topsAt ps)
theorem tops_no {ps : List Po} {k : Nat} (hk : k < ps.length) (h : topsAt ps k = false) : topsB ps = false := by
  unfold topsB
  rw [List.all_eq_false]
  exact ⟨k, by simpa using hk, by simp [h]⟩
theorem tops_yes {ps : List Po} (h : ∀ j, j < ps.length → topsAt ps j = true) : topsB ps = true := by
  unfold topsB
  rw [List.all_eq_true]
  intro j hj
  exact h j (by simpa using hj)
theorem meetsTop_at (ps : List Po) (i : Nat) (x : Option Addr) (n k : Nat) (w : World) (t : Bool) (hp : PoS w x n ps) (hi : i ≤ n) (hn : n ≤ 64) (c m : Int) (h : anyAt i (topB ps c m) = t) :
    Calls Tryz.prog 20 #[.slice x i k, .agg #[.int .i64 c, .int .i64 m]] w fun e w' => e = .returned (.bool t) ∧ Below w.heap.size w w' := by
  have hm := meetsTop_any c m x i k (ps.take i) w (hp.take hi) (by omega)
  rw [any_congr (f := topB (ps.take i) c m) (g := topB ps c m) (fun j hj => by unfold topB; rw [poAt_take hj]), h] at hm
  exact hm

set_option maxRecDepth 100000 in
set_option maxHeartbeats 1600000 in
theorem topsApart_any (x : Option Addr) (n c : Nat) (ps : List Po) (w : World) (hp : PoS w x n ps) (hn : n ≤ 64) (hnc : n ≤ c) (hc63 : c ≤ 9223372036854775807) :
    Calls Tryz.prog 38 #[.slice x n c] w fun e w' => e = .returned (.bool (topsB ps)) ∧ Below w.heap.size w w' := by
  have hpl : Hid (ps.length = n) := hp.len
  go_enter Tryz.func38, Tryz.ntmps38
  go_wp2
  go_loopw [7] (fun i wr => ∃ k : Nat, k ≤ n ∧ i = .int .i64 k ∧ Below w.heap.size w wr ∧ (∀ j, j < k → topsAt ps j = true)) (fun i _ => n - (intOf i).toNat)
  case atStart => exact ⟨0, by omega, rfl, Below.refl _ _, fun j hj => by omega⟩
  case round =>
    obtain ⟨k, hk, rfl, hB, hok⟩ := hrel
    by_cases hlt : k < n
    · have hpr := hp.later hB
      obtain ⟨b, o, rfl, c0, c1, c2, c3, c4, c5, c6, c7, c8⟩ := hpr.cells k hlt
      have hlt' := hlt
      have hta : Hid (topsAt ps k = !(((poAt ps k).up == 0) && anyAt k (topB ps (poAt ps k).a (poAt ps k).l))) := rfl
      go_upto_region 4 with fail
      obtain ⟨w2, hw2⟩ : ∃ w2, w2 = wr.alloc (poB (poAt ps k)) := ⟨_, rfl⟩
      rw [← hw2]
      have h02 : Below wr.heap.size wr w2 := by rw [hw2]; exact bl1 wr _
      have hbox : w2.heap[wr.heap.size]? = some (poB (poAt ps k)) := by rw [hw2]; exact heap_new _ rfl
      clear hw2 c0 c1 c2 c3 c4 c5 c6 c7 c8
      have hp2 := hpr.later h02
      obtain ⟨hcl, -⟩ := box_cells hbox
      have g1 := Ws.here (v := .int .i64 (poAt ps k).up) (hcl 1)
      have g2 := Ws.here (v := .int .i64 (poAt ps k).a) (hcl 2)
      have g3 := Ws.here (v := .int .i64 (poAt ps k).l) (hcl 3)
      clear hcl
      cases hu : ((poAt ps k).up == 0)
      · refine wp_region_ws w2.heap.size (by kernel_rfl) (by kernel_rfl) ?_
        repeat (go_big_quiet_step (fail))
        refine wpQuiet_nil ?_
        rintro _ ⟨u, rfl⟩
        have hB2 := hB.trans (h02.mono hB.size)
        have hu2 := hB2.trans (u.property.mono hB2.size)
        generalize u.val = wu at hu2 ⊢
        clear u g1 g2 g3
        go_wp2
        go_roundw
        case rel => exact ⟨k + 1, hlt', by go_num, hu2, fun j hj => by
          by_cases hj2 : j < k
          · exact hok j hj2
          · obtain rfl : j = k := by omega
            rw [hta.out, hu]; rfl⟩
        case measure => simp [intOf]; omega
      · cases ha : anyAt k (topB ps (poAt ps k).a (poAt ps k).l)
        all_goals refine wp_region_ws w2.heap.size (by kernel_rfl) (by kernel_rfl) ?_
        all_goals repeat (go_big_quiet_step ((go_at_call 20; exact Calls.in_ws (Nat.le_refl _) (meetsTop_at ps k _ n _ _ _ (hp2.later (Ws.property _)) (by omega) hn _ _ ha))))
        all_goals refine wpQuiet_nil ?_
        all_goals rintro _ ⟨u, rfl⟩
        all_goals have hB2 := hB.trans (h02.mono hB.size)
        all_goals have hu2 := hB2.trans (u.property.mono hB2.size)
        all_goals generalize u.val = wu at hu2 ⊢
        all_goals clear u g1 g2 g3
        · go_wp2
          go_roundw
          case rel => exact ⟨k + 1, hlt', by go_num, hu2, fun j hj => by
            by_cases hj2 : j < k
            · exact hok j hj2
            · obtain rfl : j = k := by omega
              rw [hta.out, hu, ha]; rfl⟩
          case measure => simp [intOf]; omega
        · go_wp2
          go_ret
          exact ⟨ret_bool (tops_no (by rw [hpl.out]; exact hlt') (by rw [hta.out, hu, ha]; rfl)).symm, hu2⟩
    · obtain rfl : k = n := by omega
      go_wp2
      go_ret
      exact ⟨ret_bool (tops_yes (by rw [hpl.out]; exact hok)).symm, hB⟩
end Go.Proofs.YtpdoonkhnabfjaaGreat
/- What upRight of package pool comes to. -/
namespace Go.Proofs.YtpdoonkhnabfjaaGreat
open Go.RowKit Go.Shelf

/-- The first place where f holds; -1: nowhere. -/
def firstAt (n : Nat) (f : Nat → Bool) : Int := match (List.range n).find? f with | some i => (i : Int) | none => -1
theorem firstAt_yes {n : Nat} {f : Nat → Bool} {i : Nat} (hi : i < n) (h : f i = true) (hno : ∀ j, j < i → f j = false) : firstAt n f = i := by
  unfold firstAt
  have hf : (List.range n).find? f = some i := by
    rw [List.find?_range_eq_some]
    exact ⟨h, by simpa using hi, fun j hj => by simp [hno j hj]⟩
  rw [hf]
theorem firstAt_no {n : Nat} {f : Nat → Bool} (hno : ∀ j, j < n → f j = false) : firstAt n f = -1 := by
  unfold firstAt
  have hf : (List.range n).find? f = none := by
    rw [List.find?_eq_none]
    intro j hj
    simp [hno j (by simpa using hj)]
  rw [hf]
theorem least_at {n : Nat} {f : Nat → Bool} (h : anyAt n f = true) : ∃ i, i < n ∧ f i = true ∧ ∀ j, j < i → f j = false := by
  induction n with
  | zero => simp [anyAt] at h
  | succ n ih =>
    cases ha : anyAt n f
    · refine ⟨n, by omega, ?_, fun j hj => ?_⟩
      · unfold anyAt at h ha
        rw [List.range_succ, List.any_append, ha] at h
        simpa using h
      · cases hj2 : f j
        · rfl
        · rw [any_yes hj hj2] at ha; cases ha
    · obtain ⟨i, hi, h1, h2⟩ := ih ha
      exact ⟨i, by omega, h1, h2⟩
theorem firstAt_any {n : Nat} {f : Nat → Bool} : (anyAt n f = true ∧ ∃ i : Nat, i < n ∧ f i = true ∧ (∀ j, j < i → f j = false) ∧ firstAt n f = i) ∨ (anyAt n f = false ∧ (∀ j, j < n → f j = false) ∧ firstAt n f = -1) := by
  cases h : anyAt n f
  · have hno : ∀ j, j < n → f j = false := fun j hj => by
      cases hj2 : f j
      · rfl
      · rw [any_yes hj hj2] at h; cases h
    exact .inr ⟨rfl, hno, firstAt_no hno⟩
  · obtain ⟨i, h1, h2, h3⟩ := least_at h
    exact .inl ⟨rfl, i, h1, h2, h3, firstAt_yes h1 h2 h3⟩
theorem leaseFor_is (id : Int) (p : Po) (w : World) (hp : LS w p.x p.n p.ls) (hn : p.n ≤ 1048576) :
    Calls Tryz.prog 69 #[poV p, .int .i64 id] w fun e w' => e = .returned (.int .i64 (firstAt p.n (forB p.ls id))) ∧ Below w.heap.size w w' := by
  refine (leaseFor_any id p w hp hn).mono ?_
  rintro e w' ⟨⟨r, rfl, hr⟩, hb⟩
  rcases hr with ⟨i, hi, h1, h2, rfl⟩ | ⟨h1, rfl⟩
  · exact ⟨by rw [firstAt_yes hi h1 h2], hb⟩
  · exact ⟨by rw [firstAt_no h1], hb⟩
theorem atId_range {ps : List Po} {id : Int} (h : ¬ atId ps id < 0) : ∃ i : Nat, i < ps.length ∧ atId ps id = i ∧ (poAt ps i).id = id := by
  unfold atId at h ⊢
  cases hf : ps.findIdx? (fun p => p.id == id) with
  | none => rw [hf] at h; simp at h
  | some i =>
    rw [List.findIdx?_eq_some_iff_getElem] at hf
    obtain ⟨hi, h1, -⟩ := hf
    exact ⟨i, hi, rfl, by rw [poAt_get hi]; simpa using h1⟩

/-- Comes an end of the pools above, so many steps up at most, and has each its lease? -/
def upB (ps : List Po) : Nat → Po → Bool
  | 0, _ => false
  | f + 1, p => if p.up = 0 then true else if atId ps p.up < 0 then false else if anyAt (poAt ps (atId ps p.up).toNat).n (forB (poAt ps (atId ps p.up).toNat).ls p.id) = true then upB ps f (poAt ps (atId ps p.up).toNat) else false
theorem up_0 {ps : List Po} {p : Po} {f : Nat} (h : p.up = 0) : upB ps (f + 1) p = true := by unfold upB; rw [if_pos h]
theorem up_none {ps : List Po} {p : Po} {f : Nat} (h : p.up ≠ 0) (h2 : atId ps p.up < 0) : upB ps (f + 1) p = false := by unfold upB; rw [if_neg h, if_pos h2]
theorem up_bad {ps : List Po} {p : Po} {f i : Nat} (h : p.up ≠ 0) (h2 : atId ps p.up = i) (h3 : anyAt (poAt ps i).n (forB (poAt ps i).ls p.id) = false) : upB ps (f + 1) p = false := by
  unfold upB
  rw [if_neg h, h2, if_neg (by omega)]
  simp only [Int.toNat_natCast]
  rw [h3]
  rfl
theorem up_next {ps : List Po} {p : Po} {f i : Nat} (h : p.up ≠ 0) (h2 : atId ps p.up = i) (h3 : anyAt (poAt ps i).n (forB (poAt ps i).ls p.id) = true) : upB ps (f + 1) p = upB ps f (poAt ps i) := by
  unfold upB
  rw [if_neg h, h2, if_neg (by omega)]
  simp only [Int.toNat_natCast]
  rw [if_pos h3]
  cases f <;> rfl

theorem poB_set {V : World} {b : Nat} {p : Po} (q : Po) (h : V.heap[b]? = some (poB p)) : ((((((((((V).setCell ⟨b, 0, none⟩ (.int .i64 q.id)).setCell ⟨b, 1, none⟩ (.int .i64 q.up)).setCell ⟨b, 2, none⟩ (.int .i64 q.a)).setCell ⟨b, 3, none⟩ (.int .i64 q.l)).setCell ⟨b, 4, none⟩ (.int .i64 q.mn)).setCell ⟨b, 5, none⟩ (.int .i64 q.mx)).setCell ⟨b, 6, none⟩ (.int .i64 q.us)).setCell ⟨b, 7, none⟩ (.int .i64 q.co)).setCell ⟨b, 8, none⟩ (.slice q.x q.n q.c)).heap[b]? = some (poB q) := by
  have h0 := heap_setCell_same V b 0 _ 49 (.int .i64 q.id) h
  have h1 := heap_setCell_same _ b 1 _ 49 (.int .i64 q.up) h0
  have h2 := heap_setCell_same _ b 2 _ 49 (.int .i64 q.a) h1
  have h3 := heap_setCell_same _ b 3 _ 49 (.int .i64 q.l) h2
  have h4 := heap_setCell_same _ b 4 _ 49 (.int .i64 q.mn) h3
  have h5 := heap_setCell_same _ b 5 _ 49 (.int .i64 q.mx) h4
  have h6 := heap_setCell_same _ b 6 _ 49 (.int .i64 q.us) h5
  have h7 := heap_setCell_same _ b 7 _ 49 (.int .i64 q.co) h6
  have h8 := heap_setCell_same _ b 8 _ 49 (.slice q.x q.n q.c) h7
  simpa using h8
theorem poB_other {V : World} {b k : Nat} (q : Po) (h : k ≠ b) : ((((((((((V).setCell ⟨b, 0, none⟩ (.int .i64 q.id)).setCell ⟨b, 1, none⟩ (.int .i64 q.up)).setCell ⟨b, 2, none⟩ (.int .i64 q.a)).setCell ⟨b, 3, none⟩ (.int .i64 q.l)).setCell ⟨b, 4, none⟩ (.int .i64 q.mn)).setCell ⟨b, 5, none⟩ (.int .i64 q.mx)).setCell ⟨b, 6, none⟩ (.int .i64 q.us)).setCell ⟨b, 7, none⟩ (.int .i64 q.co)).setCell ⟨b, 8, none⟩ (.slice q.x q.n q.c)).heap[k]? = V.heap[k]? := by
  rw [heap_setCell_other _ _ _ _ h, heap_setCell_other _ _ _ _ h, heap_setCell_other _ _ _ _ h, heap_setCell_other _ _ _ _ h, heap_setCell_other _ _ _ _ h, heap_setCell_other _ _ _ _ h, heap_setCell_other _ _ _ _ h, heap_setCell_other _ _ _ _ h, heap_setCell_other _ _ _ _ h]
theorem poB_below {w V : World} {b : Nat} (q : Po) (h : Below w.heap.size w V) (hb : w.heap.size ≤ b) : Below w.heap.size w ((((((((((V).setCell ⟨b, 0, none⟩ (.int .i64 q.id)).setCell ⟨b, 1, none⟩ (.int .i64 q.up)).setCell ⟨b, 2, none⟩ (.int .i64 q.a)).setCell ⟨b, 3, none⟩ (.int .i64 q.l)).setCell ⟨b, 4, none⟩ (.int .i64 q.mn)).setCell ⟨b, 5, none⟩ (.int .i64 q.mx)).setCell ⟨b, 6, none⟩ (.int .i64 q.us)).setCell ⟨b, 7, none⟩ (.int .i64 q.co)).setCell ⟨b, 8, none⟩ (.slice q.x q.n q.c)) :=
  ((((((((h.setCell hb _).setCell hb _).setCell hb _).setCell hb _).setCell hb _).setCell hb _).setCell hb _).setCell hb _).setCell hb _

set_option maxRecDepth 100000 in
set_option maxHeartbeats 3200000 in
theorem upRight_any (t : Int) (x : Option Addr) (n c : Nat) (ps : List Po) (p : Po) (w : World) (hp : PoS w x n ps) (hn : n ≤ 64) :
    Calls Tryz.prog 75 #[.agg #[.int .i64 t, .slice x n c], poV p] w fun e w' => e = .returned (.bool (upB ps n p)) ∧ Below w.heap.size w w' := by
  have hpl : Hid (ps.length = n) := hp.len
  go_enter Tryz.func75, Tryz.ntmps75
  go_upto_region 1 with fail
  obtain ⟨w0, hw0⟩ : ∃ w0, w0 = (w.alloc (.cells #[.int .i64 t, .slice x n c] 24)).alloc (poB p) := ⟨_, rfl⟩
  rw [← hw0]
  have hB0 : Below w.heap.size w w0 := by rw [hw0]; exact bl2 w _ _
  have hb0 : w0.heap[w.heap.size]? = some (.cells #[.int .i64 t, .slice x n c] 24) := by rw [hw0]; exact heap_old _ (heap_new _ rfl)
  have hq0 : w0.heap[w.heap.size + 1]? = some (poB p) := by rw [hw0]; exact heap_new _ (by simp)
  clear hw0
  obtain ⟨kb, -⟩ := box_cells hb0
  go_wp2
  clear kb
  go_loopw [9] (fun i wr => ∃ (k : Nat) (q : Po), k ≤ n ∧ i = .int .i64 k ∧ Hid (upB ps n p = upB ps (n - k) q) ∧ wr.heap[w.heap.size]? = some (.cells #[.int .i64 t, .slice x n c] 24) ∧ wr.heap[w.heap.size + 1]? = some (poB q) ∧ Below w.heap.size w wr) (fun i _ => n - (intOf i).toNat)
  case atStart => exact ⟨0, p, by omega, rfl, rfl, hb0, hq0, hB0⟩
  case round =>
    obtain ⟨k, q, hk, rfl, hup, hbb, hbq, hB⟩ := hrel
    clear hb0 hq0 hB0
    by_cases hlt : k < n
    · have hlt' := hlt
      obtain ⟨f, hf⟩ : ∃ f : Nat, Hid (n - k = f + 1) := ⟨n - k - 1, by unfold Hid; omega⟩
      obtain ⟨kb, -⟩ := box_cells hbb
      obtain ⟨kq, fq⟩ := box_cells hbq
      cases hu : (q.up == 0)
      · have hu' : Hid (q.up ≠ 0) := by unfold Hid; simpa using hu
        go_upto_region 6 with (go_at_call 19; refine (place_any t q.up x n c ps _ (hp.later hB) hn).mono ?_; rintro e w1 ⟨rfl, hb1⟩)
        have hbb1 := heap_later hb1 hbb
        have hbq1 := heap_later hb1 hbq
        have hB1 := hB.trans (hb1.mono hB.size)
        clear hb1 kb kq fq hbb hbq hB
        obtain ⟨kb, -⟩ := box_cells hbb1
        obtain ⟨kq, fq⟩ := box_cells hbq1
        have g0 := Ws.here (v := .slice x n c) (kb 1)
        have g1 := Ws.here (v := .int .i64 q.id) (kq 0)
        cases hneg : decide (atId ps q.up < 0)
        · obtain ⟨i, hi, hai, -⟩ := atId_range (ps := ps) (id := q.up) (by simpa using hneg)
          have hai' : Hid (atId ps q.up = i) := hai
          rw [hpl.out] at hi
          have hpw := hp.later hB1
          obtain ⟨b, o, rfl, c0, c1, c2, c3, c4, c5, c6, c7, c8⟩ := hpw.cells i hi
          obtain ⟨hl1, hl2, hl3⟩ := hpw.leases i hi
          rw [hai]
          have hge : decide ((i : Int) < 0) = false := by simp
          clear hai hneg
          have hi' := hi
          have e0 := Ws.here c0
          have e1 := Ws.here c1
          have e2 := Ws.here c2
          have e3 := Ws.here c3
          have e4 := Ws.here c4
          have e5 := Ws.here c5
          have e6 := Ws.here c6
          have e7 := Ws.here c7
          have e8 := Ws.here c8
          have hlf := fun W h => leaseFor_is q.id (poAt ps i) W h hl2
          cases ha : anyAt (poAt ps i).n (forB (poAt ps i).ls q.id)
          · have hfb : decide (firstAt (poAt ps i).n (forB (poAt ps i).ls q.id) < 0) = true := by
              rcases firstAt_any (n := (poAt ps i).n) (f := forB (poAt ps i).ls q.id) with ⟨h1, -⟩ | ⟨-, -, h1⟩
              · rw [ha] at h1; cases h1
              · rw [h1]; rfl
            refine wp_region_ws w1.heap.size (by kernel_rfl) (by kernel_rfl) ?_
            repeat (go_big_quiet_step ((go_at_call 69; exact Calls.in_ws (Nat.le_refl _) (hlf _ (hl3.later (Ws.property _))))))
            refine wpQuiet_nil ?_
            rintro _ ⟨u, rfl⟩
            have hu2 := hB1.trans (u.property.mono hB1.size)
            generalize u.val = wu at hu2 ⊢
            clear u g0 g1 e0 e1 e2 e3 e4 e5 e6 e7 e8 c0 c1 c2 c3 c4 c5 c6 c7 c8
            go_wp2
            go_ret
            exact ⟨ret_bool (by rw [hup.out, hf.out, up_bad hu'.out hai'.out ha]), hu2⟩
          · have hfb : decide (firstAt (poAt ps i).n (forB (poAt ps i).ls q.id) < 0) = false := by
              rcases firstAt_any (n := (poAt ps i).n) (f := forB (poAt ps i).ls q.id) with ⟨-, k', -, -, -, h1⟩ | ⟨h1, -⟩
              · rw [h1]; simp
              · rw [ha] at h1; cases h1
            refine wp_region_ws w1.heap.size (by kernel_rfl) (by kernel_rfl) ?_
            repeat (go_big_quiet_step ((go_at_call 69; exact Calls.in_ws (Nat.le_refl _) (hlf _ (hl3.later (Ws.property _))))))
            refine wpQuiet_nil ?_
            rintro _ ⟨u, rfl⟩
            have hu0 : Below w1.heap.size w1 u.val := u.property
            generalize u.val = wu at hu0 ⊢
            clear u g0 g1 e0 e1 e2 e3 e4 e5 e6 e7 e8 kb kq fq
            have hu2 := hB1.trans (hu0.mono hB1.size)
            have hbb2 := heap_later hu0 hbb1
            have hbq2 := heap_later hu0 hbq1
            replace c0 := cell_later hu0 c0
            replace c1 := cell_later hu0 c1
            replace c2 := cell_later hu0 c2
            replace c3 := cell_later hu0 c3
            replace c4 := cell_later hu0 c4
            replace c5 := cell_later hu0 c5
            replace c6 := cell_later hu0 c6
            replace c7 := cell_later hu0 c7
            replace c8 := cell_later hu0 c8
            obtain ⟨kb, -⟩ := box_cells hbb2
            obtain ⟨kq, fq⟩ := box_cells hbq2
            go_wp2
            go_roundw
            case rel => exact ⟨k + 1, poAt ps i, hlt', by go_num, by
              unfold Hid
              rw [hup.out, hf.out, up_next hu'.out hai'.out ha]
              congr 1
              have := hf.out
              omega, (poB_other (poAt ps i) (by omega)).trans hbb2, poB_set (poAt ps i) hbq2, poB_below (poAt ps i) hu2 (by omega)⟩
            case measure => simp [intOf]; omega
        · have hai' : Hid (atId ps q.up < 0) := by unfold Hid; simpa using hneg
          refine wp_region_ws w1.heap.size (by kernel_rfl) (by kernel_rfl) ?_
          repeat (go_big_quiet_step (fail))
          refine wpQuiet_nil ?_
          rintro _ ⟨u, rfl⟩
          have hu2 := hB1.trans (u.property.mono hB1.size)
          generalize u.val = wu at hu2 ⊢
          clear u g0 g1
          go_wp2
          go_ret
          exact ⟨ret_bool (by rw [hup.out, hf.out, up_none hu'.out hai'.out]), hu2⟩
      · have hu' : Hid (q.up = 0) := by unfold Hid; simpa using hu
        go_wp2
        go_ret
        exact ⟨ret_bool (by rw [hup.out, hf.out, up_0 hu'.out]), hB⟩
    · obtain rfl : k = n := by omega
      go_wp2
      go_ret
      exact ⟨ret_bool (by rw [hup.out, Nat.sub_self]; rfl), hB⟩
end Go.Proofs.YtpdoonkhnabfjaaGreat
/- What leaseRight of package pool comes to. -/
namespace Go.Proofs.YtpdoonkhnabfjaaGreat
open Go.RowKit Go.Shelf

/-- A lease as a value, as a box. -/
abbrev leV (e : Le) : Value := .agg #[.int .i64 e.a, .int .i64 e.l, .int .i64 e.kd, .int .i64 e.ow, .int .i64 e.un]
abbrev leO (e : Le) : Obj := .cells #[.int .i64 e.a, .int .i64 e.l, .int .i64 e.kd, .int .i64 e.ow, .int .i64 e.un] 55
abbrev bkO (t : Int) (x : Option Addr) (n c : Nat) : Obj := .cells #[.int .i64 t, .slice x n c] 24
/-- Is it as a lease of the pool id must be? -/
def le2 (q : Po) (id : Int) (e : Le) : Bool := (q.up == id) && (decide (q.a = e.a) && decide (q.l = e.l)) && (e.un == 0)
def leB (t : Int) (ps : List Po) (id : Int) (e : Le) : Bool :=
  if e.kd = 1 then wth e.ow 1 65536 && (e.un == 0)
  else if e.kd = 2 then (if atId ps e.ow < 0 then false else le2 (poAt ps (atId ps e.ow).toNat) id e)
  else if e.kd = 3 then (e.ow == 0) && (decide (t < e.un) && decide (e.un ≤ t + 1024)) else false
theorem isId_is (v : Int) (t : Bool) (h : wth v 1 65536 = t) (w : World) : Calls Tryz.prog 17 #[.int .i64 v] w fun e w' => e = .returned (.bool t) ∧ w' = w := by
  subst h
  exact isId_any v w
theorem quiet_eqlg {ops : Array Oper} {C : World → Prop} {Q : Act → Prop} {A : Act} {o : Oper} {rest : List Oper} (x y : Operand) (t : TypeId) (a l c m : Int) (hop : o.op = .binOp .eql 26 x y t) (hg : Region.wanted o (yielded ops A.tmps) = true)
    (hx : A.eval x = .agg #[.int .i64 a, .int .i64 l]) (hy : A.eval y = .agg #[.int .i64 c, .int .i64 m]) (h : wpQuiet Tryz.prog ops C Q rest (A.put o.dst (.bool (decide (a = c) && decide (l = m))))) : wpQuiet Tryz.prog ops C Q (o :: rest) A := by
  unfold wpQuiet
  rw [if_pos hg]
  refine ⟨_, fun w _ => ?_, h⟩
  unfold Oper.quietAt execOp
  rw [hop]
  simp only [hx, hy, Sem.run_bind, guard_prefix, eq_prefix, Result.andThen_ok, Sem.run_pure]
  exact ⟨rfl, rfl⟩
theorem le_1 {t : Int} {ps : List Po} {id : Int} {e : Le} (h : e.kd = 1) : leB t ps id e = (wth e.ow 1 65536 && (e.un == 0)) := by unfold leB; rw [if_pos h]
theorem le_2n {t : Int} {ps : List Po} {id : Int} {e : Le} (h : e.kd = 2) (h2 : atId ps e.ow < 0) : leB t ps id e = false := by unfold leB; rw [if_neg (by omega), if_pos h, if_pos h2]
theorem le_2 {t : Int} {ps : List Po} {id : Int} {e : Le} {i : Nat} (h : e.kd = 2) (h2 : atId ps e.ow = i) : leB t ps id e = le2 (poAt ps i) id e := by
  unfold leB
  rw [if_neg (by omega), if_pos h, h2, if_neg (by omega)]
  simp only [Int.toNat_natCast]
theorem le_3 {t : Int} {ps : List Po} {id : Int} {e : Le} (h : e.kd = 3) : leB t ps id e = ((e.ow == 0) && (decide (t < e.un) && decide (e.un ≤ t + 1024))) := by unfold leB; rw [if_neg (by omega), if_neg (by omega), if_pos h]
theorem le_n {t : Int} {ps : List Po} {id : Int} {e : Le} (h1 : e.kd ≠ 1) (h2 : e.kd ≠ 2) (h3 : e.kd ≠ 3) : leB t ps id e = false := by unfold leB; rw [if_neg h1, if_neg h2, if_neg h3]

set_option maxRecDepth 100000 in
set_option maxHeartbeats 1600000 in
theorem leaseRight_1 (t id : Int) (x : Option Addr) (n c : Nat) (ps : List Po) (e : Le) (w : World) (hk : e.kd = 1) :
    Calls Tryz.prog 76 #[.agg #[.int .i64 t, .slice x n c], .int .i64 id, leV e] w fun r w' => r = .returned (.bool (leB t ps id e)) ∧ Below w.heap.size w w' := by
  have hb1 : (e.kd == 1) = true := by simpa using hk
  rw [le_1 hk]
  clear hk
  cases hi : wth e.ow 1 65536
  all_goals go_enter Tryz.func76, Tryz.ntmps76
  all_goals go_wp2_with (go_at_call 17; refine (isId_is e.ow _ hi _).mono ?_; rintro r w1 ⟨rfl, rfl⟩)
  all_goals go_ret
  all_goals exact ⟨rfl, bl2 w _ _⟩
set_option maxRecDepth 100000 in
set_option maxHeartbeats 1600000 in
theorem leaseRight_3 (t id : Int) (x : Option Addr) (n c : Nat) (ps : List Po) (e : Le) (w : World) (hk : e.kd = 3) (t0 : 0 ≤ t) (t1 : t ≤ 1073741824) :
    Calls Tryz.prog 76 #[.agg #[.int .i64 t, .slice x n c], .int .i64 id, leV e] w fun r w' => r = .returned (.bool (leB t ps id e)) ∧ Below w.heap.size w w' := by
  have hb1 : (e.kd == 1) = false := by simp [hk]
  have hb2 : (e.kd == 2) = false := by simp [hk]
  have hb3 : (e.kd == 3) = true := by simp [hk]
  rw [le_3 hk]
  clear hk
  cases ho : (e.ow == 0)
  · go_enter Tryz.func76, Tryz.ntmps76
    go_wp2
    go_ret
    exact ⟨rfl, bl2 w _ _⟩
  · cases hu : decide (t < e.un)
    all_goals go_enter Tryz.func76, Tryz.ntmps76
    all_goals go_wp2
    all_goals go_ret
    all_goals exact ⟨rfl, bl2 w _ _⟩
set_option maxRecDepth 100000 in
set_option maxHeartbeats 1600000 in
theorem leaseRight_n (t id : Int) (x : Option Addr) (n c : Nat) (ps : List Po) (e : Le) (w : World) (h1 : e.kd ≠ 1) (h2 : e.kd ≠ 2) (h3 : e.kd ≠ 3) :
    Calls Tryz.prog 76 #[.agg #[.int .i64 t, .slice x n c], .int .i64 id, leV e] w fun r w' => r = .returned (.bool (leB t ps id e)) ∧ Below w.heap.size w w' := by
  have hb1 : (e.kd == 1) = false := by simpa using h1
  have hb2 : (e.kd == 2) = false := by simpa using h2
  have hb3 : (e.kd == 3) = false := by simpa using h3
  rw [le_n h1 h2 h3]
  clear h1 h2 h3
  go_enter Tryz.func76, Tryz.ntmps76
  go_wp2
  go_ret
  exact ⟨rfl, bl2 w _ _⟩
set_option maxRecDepth 100000 in
set_option maxHeartbeats 3200000 in
theorem leaseRight_2 (t id : Int) (x : Option Addr) (n c : Nat) (ps : List Po) (e : Le) (w : World) (hp : PoS w x n ps) (hn : n ≤ 64) (hk : e.kd = 2) :
    Calls Tryz.prog 76 #[.agg #[.int .i64 t, .slice x n c], .int .i64 id, leV e] w fun r w' => r = .returned (.bool (leB t ps id e)) ∧ Below w.heap.size w w' := by
  have hpl : Hid (ps.length = n) := hp.len
  have hb1 : (e.kd == 1) = false := by simp [hk]
  have hb2 : (e.kd == 2) = true := by simp [hk]
  have hk' : Hid (e.kd = 2) := hk
  clear hk
  go_enter Tryz.func76, Tryz.ntmps76
  go_upto_region 5 with fail
  obtain ⟨w0, hw0⟩ : ∃ w0, w0 = (w.alloc (bkO t x n c)).alloc (leO e) := ⟨_, rfl⟩
  rw [← hw0]
  have hB0 : Below w.heap.size w w0 := by rw [hw0]; exact bl2 w _ _
  have hb0 : w0.heap[w.heap.size]? = some (bkO t x n c) := by rw [hw0]; exact heap_old _ (heap_new _ rfl)
  have hq0 : w0.heap[w.heap.size + 1]? = some (leO e) := by rw [hw0]; exact heap_new _ (by simp)
  clear hw0
  obtain ⟨kb, -⟩ := box_cells hb0
  obtain ⟨kq, -⟩ := box_cells hq0
  go_upto_region 6 with (go_at_call 19; refine (place_any t e.ow x n c ps _ (hp.later hB0) hn).mono ?_; rintro r w1 ⟨rfl, hb1'⟩)
  have hbb1 := heap_later hb1' hb0
  have hbq1 := heap_later hb1' hq0
  have hB1 := hB0.trans (hb1'.mono hB0.size)
  clear hb1' kb kq hb0 hq0 hB0
  obtain ⟨kb, -⟩ := box_cells hbb1
  obtain ⟨kq, -⟩ := box_cells hbq1
  have g0 := Ws.here (v := .slice x n c) (kb 1)
  have g1 := Ws.here (v := .int .i64 e.a) (kq 0)
  have g2 := Ws.here (v := .int .i64 e.l) (kq 1)
  have g3 := Ws.here (v := .int .i64 e.un) (kq 4)
  cases hneg : decide (atId ps e.ow < 0)
  · obtain ⟨i, hi, hai, -⟩ := atId_range (ps := ps) (id := e.ow) (by simpa using hneg)
    have hai' : Hid (atId ps e.ow = i) := hai
    rw [hpl.out] at hi
    have hpw := hp.later hB1
    obtain ⟨b, o, rfl, c0, c1, c2, c3, -⟩ := hpw.cells i hi
    rw [hai]
    have hge : decide ((i : Int) ≥ 0) = true := by simp
    clear hai hneg
    have e1 := Ws.here c1
    have e2 := Ws.here c2
    have e3 := Ws.here c3
    cases hup : ((poAt ps i).up == id)
    · refine wp_region_ws w1.heap.size (by kernel_rfl) (by kernel_rfl) ?_
      repeat (go_big_quiet_step (fail))
      refine wpQuiet_nil ?_
      rintro _ ⟨u, rfl⟩
      have hu2 := hB1.trans (u.property.mono hB1.size)
      generalize u.val = wu at hu2 ⊢
      clear u g0 g1 g2 g3 e1 e2 e3
      go_wp2
      go_ret
      exact ⟨ret_bool (by rw [le_2 hk'.out hai'.out]; unfold le2; rw [hup]; rfl), hu2⟩
    · cases heq : (decide ((poAt ps i).a = e.a) && decide ((poAt ps i).l = e.l))
      all_goals refine wp_region_ws w1.heap.size (by kernel_rfl) (by kernel_rfl) ?_
      all_goals repeat (go_big_quiet_step (fail))
      all_goals refine quiet_eqlg _ _ _ (poAt ps i).a (poAt ps i).l e.a e.l rfl (by rfl) rfl rfl ?_
      all_goals rw [heq]
      all_goals simp only [Act.put, List.setIfInBounds_toArray, List.set_cons_zero, List.set_cons_succ]
      all_goals repeat (go_big_quiet_step (fail))
      all_goals refine wpQuiet_nil ?_
      all_goals rintro _ ⟨u, rfl⟩
      all_goals have hu2 := hB1.trans (u.property.mono hB1.size)
      all_goals generalize u.val = wu at hu2 ⊢
      all_goals clear u g0 g1 g2 g3 e1 e2 e3
      all_goals go_wp2
      all_goals go_ret
      all_goals exact ⟨ret_bool (by rw [le_2 hk'.out hai'.out]; unfold le2; rw [hup, heq]; rfl), hu2⟩
  · have hai' : Hid (atId ps e.ow < 0) := by unfold Hid; simpa using hneg
    have hge : decide (atId ps e.ow ≥ 0) = false := by simp at hneg ⊢; omega
    clear hneg
    refine wp_region_ws w1.heap.size (by kernel_rfl) (by kernel_rfl) ?_
    repeat (go_big_quiet_step (fail))
    refine wpQuiet_nil ?_
    rintro _ ⟨u, rfl⟩
    have hu2 := hB1.trans (u.property.mono hB1.size)
    generalize u.val = wu at hu2 ⊢
    clear u g0 g1 g2 g3
    go_wp2
    go_ret
    exact ⟨ret_bool (by rw [le_2n hk'.out hai'.out]), hu2⟩
theorem leaseRight_any (t id : Int) (x : Option Addr) (n c : Nat) (ps : List Po) (e : Le) (w : World) (hp : PoS w x n ps) (hn : n ≤ 64) (t0 : 0 ≤ t) (t1 : t ≤ 1073741824) :
    Calls Tryz.prog 76 #[.agg #[.int .i64 t, .slice x n c], .int .i64 id, leV e] w fun r w' => r = .returned (.bool (leB t ps id e)) ∧ Below w.heap.size w w' := by
  by_cases h1 : e.kd = 1
  · exact leaseRight_1 t id x n c ps e w h1
  · by_cases h2 : e.kd = 2
    · exact leaseRight_2 t id x n c ps e w hp hn h2
    · by_cases h3 : e.kd = 3
      · exact leaseRight_3 t id x n c ps e w h3 t0 t1
      · exact leaseRight_n t id x n c ps e w h1 h2 h3
end Go.Proofs.YtpdoonkhnabfjaaGreat
/- What poolRight and Check of package pool come to. -/
namespace Go.Proofs.YtpdoonkhnabfjaaGreat
open Go.RowKit Go.Shelf

/-- Is it as a pool of the book must be, but for the Ids and the tops? -/
def lesB (t : Int) (ps : List Po) (p : Po) : Bool := (List.range p.n).all fun i => leB t ps p.id (leAt p.ls i)
def poolB (t : Int) (ps : List Po) (n : Nat) (p : Po) : Bool := (chkS p.a p.l p.n (lp p.ls) == 0) && (ruleB p.mn p.mx p.us p.co p.l && (upB ps n p && lesB t ps p))
theorem les_no {t : Int} {ps : List Po} {p : Po} {k : Nat} (hk : k < p.n) (h : leB t ps p.id (leAt p.ls k) = false) : lesB t ps p = false := by
  unfold lesB
  rw [List.all_eq_false]
  exact ⟨k, by simpa using hk, by simp [h]⟩
theorem les_yes {t : Int} {ps : List Po} {p : Po} (h : ∀ j, j < p.n → leB t ps p.id (leAt p.ls j) = true) : lesB t ps p = true := by
  unfold lesB
  rw [List.all_eq_true]
  intro j hj
  exact h j (by simpa using hj)
theorem ruleRight_is (mn mx us co a l : Int) (t : Bool) (h : ruleB mn mx us co l = t) (w : World) :
    Calls Tryz.prog 57 #[.agg #[.int .i64 mn, .int .i64 mx, .int .i64 us, .int .i64 co], .agg #[.int .i64 a, .int .i64 l]] w fun e w' => e = .returned (.bool t) ∧ Below w.heap.size w w' := by
  subst h
  exact ruleRight_any mn mx us co a l w
theorem upRight_is (t : Int) (x : Option Addr) (n c : Nat) (ps : List Po) (p : Po) (r : Bool) (h : upB ps n p = r) (w : World) (hp : PoS w x n ps) (hn : n ≤ 64) :
    Calls Tryz.prog 75 #[.agg #[.int .i64 t, .slice x n c], poV p] w fun e w' => e = .returned (.bool r) ∧ Below w.heap.size w w' := by
  subst h
  exact upRight_any t x n c ps p w hp hn
theorem leaseRight_is (t id : Int) (x : Option Addr) (n c : Nat) (ps : List Po) (e : Le) (r : Bool) (h : leB t ps id e = r) (w : World) (hp : PoS w x n ps) (hn : n ≤ 64) (t0 : 0 ≤ t) (t1 : t ≤ 1073741824) :
    Calls Tryz.prog 76 #[.agg #[.int .i64 t, .slice x n c], .int .i64 id, leV e] w fun r' w' => r' = .returned (.bool r) ∧ Below w.heap.size w w' := by
  subst h
  exact leaseRight_any t id x n c ps e w hp hn t0 t1
/-- space.Check of what spaceOf gives. -/
theorem spaceCheck_is (a l : Int) (n : Nat) (ls : List Le) (v : Int) (hv : chkS a l n (lp ls) = v) (x : Option Addr) (c : Nat) (w : World) (h : PS w x n (lp ls)) :
    Calls Tryz.prog 73 #[.agg #[.int .i64 a, .int .i64 l, .slice x n c]] w fun e w' => e = .returned (.int .i64 v) ∧ Below w.heap.size w w' := by
  subst hv
  exact checkS_any a l x n c (lp ls) w (fun _ => h)

set_option maxRecDepth 100000 in
set_option maxHeartbeats 3200000 in
theorem poolRight_any (t : Int) (x : Option Addr) (n c : Nat) (ps : List Po) (p : Po) (w : World) (hp : PoS w x n ps) (hn : n ≤ 64) (hl : LS w p.x p.n p.ls) (hpn : p.n ≤ 1048576) (t0 : 0 ≤ t) (t1 : t ≤ 1073741824) :
    Calls Tryz.prog 39 #[.agg #[.int .i64 t, .slice x n c], poV p] w fun e w' => e = .returned (.bool (poolB t ps n p)) ∧ Below w.heap.size w w' := by
  unfold poolB
  go_enter Tryz.func39, Tryz.ntmps39
  go_upto_region 1 with fail
  obtain ⟨w0, hw0⟩ : ∃ w0, w0 = (w.alloc (bkO t x n c)).alloc (poB p) := ⟨_, rfl⟩
  rw [← hw0]
  have hB0 : Below w.heap.size w w0 := by rw [hw0]; exact bl2 w _ _
  have hb0 : w0.heap[w.heap.size]? = some (bkO t x n c) := by rw [hw0]; exact heap_old _ (heap_new _ rfl)
  have hq0 : w0.heap[w.heap.size + 1]? = some (poB p) := by rw [hw0]; exact heap_new _ (by simp)
  clear hw0
  obtain ⟨kq, -⟩ := box_cells hq0
  cases hch : (chkS p.a p.l p.n (lp p.ls) == 0)
  · have hch' : (chkS p.a p.l p.n (lp p.ls) != 0) = true := by simpa using hch
    generalize hv : chkS p.a p.l p.n (lp p.ls) = v at hch hch'
    go_wp2_with fail
    refine (spaceOf_any p _ (hl.later hB0) hpn).mono ?_
    rintro e w1 ⟨x1, c1, rfl, hb1, hp1⟩
    have hB1 := hB0.trans (hb1.mono hB0.size)
    obtain ⟨kq1, -⟩ := box_cells (heap_later hb1 hq0)
    go_wp2_with fail
    refine (spaceCheck_is p.a p.l p.n p.ls v hv x1 c1 _ hp1).mono ?_
    rintro e w2 ⟨rfl, hb2⟩
    have hB2 := hB1.trans (hb2.mono hB1.size)
    go_wp2
    go_ret
    exact ⟨ret_bool (by rw [hv, hch]; rfl), hB2⟩
  · have hch0 : chkS p.a p.l p.n (lp p.ls) = 0 := by simpa using hch
    have hn32 : p.n ≤ 32 := (chkS_ok hch0).1
    go_wp2_with fail
    refine (spaceOf_any p _ (hl.later hB0) hpn).mono ?_
    rintro e w1 ⟨x1, c1, rfl, hb1, hp1⟩
    have hB1 := hB0.trans (hb1.mono hB0.size)
    have hb1b := heap_later hb1 hb0
    have hb1q := heap_later hb1 hq0
    clear hb1 hb0 hq0 hB0 kq
    go_wp2_with fail
    refine (spaceCheck_is p.a p.l p.n p.ls 0 hch0 x1 c1 _ hp1).mono ?_
    rintro e w2 ⟨rfl, hb2⟩
    have hB2 := hB1.trans (hb2.mono hB1.size)
    have hb2b := heap_later hb2 hb1b
    have hb2q := heap_later hb2 hb1q
    clear hb2 hb1b hb1q hB1 hp1 hch
    obtain ⟨kq, -⟩ := box_cells hb2q
    cases hru : ruleB p.mn p.mx p.us p.co p.l
    · go_wp2_with fail
      refine (ruleRight_is _ _ _ _ _ _ _ hru _).mono ?_
      rintro e w3 ⟨rfl, hb3⟩
      go_wp2
      go_ret
      exact ⟨ret_bool (by rw [hch0, hru]; rfl), hB2.trans (hb3.mono hB2.size)⟩
    · go_wp2_with fail
      refine (ruleRight_is _ _ _ _ _ _ _ hru _).mono ?_
      rintro e w3 ⟨rfl, hb3⟩
      have hB3 := hB2.trans (hb3.mono hB2.size)
      have hb3b := heap_later hb3 hb2b
      have hb3q := heap_later hb3 hb2q
      clear hb3 hb2b hb2q hB2 kq
      obtain ⟨kq, -⟩ := box_cells hb3q
      obtain ⟨kb, -⟩ := box_cells hb3b
      cases hup : upB ps n p
      · go_wp2_with fail
        refine (upRight_is t x n c ps p _ hup _ (hp.later hB3) hn).mono ?_
        rintro e w4 ⟨rfl, hb4⟩
        go_wp2
        go_ret
        exact ⟨ret_bool (by rw [hch0, hru, hup]; rfl), hB3.trans (hb4.mono hB3.size)⟩
      · go_wp2_with fail
        refine (upRight_is t x n c ps p _ hup _ (hp.later hB3) hn).mono ?_
        rintro e w4 ⟨rfl, hb4⟩
        have hB4 := hB3.trans (hb4.mono hB3.size)
        have hb4b := heap_later hb4 hb3b
        have hb4q := heap_later hb4 hb3q
        clear hb4 hb3b hb3q hB3 kq kb
        obtain ⟨kq, -⟩ := box_cells hb4q
        go_wp2
        clear kq
        go_loopw [28] (fun i wr => ∃ k : Nat, k ≤ p.n ∧ i = .int .i64 k ∧ (∀ j, j < k → leB t ps p.id (leAt p.ls j) = true) ∧ wr.heap[w.heap.size]? = some (bkO t x n c) ∧ wr.heap[w.heap.size + 1]? = some (poB p) ∧ Below w.heap.size w wr) (fun i _ => p.n - (intOf i).toNat)
        case atStart => exact ⟨0, by omega, rfl, fun j hj => by omega, hb4b, hb4q, hB4⟩
        case round =>
          obtain ⟨k, hk, rfl, hok, hbb, hbq, hB⟩ := hrel
          clear hb4b hb4q hB4
          by_cases hlt : k < p.n
          · obtain ⟨b, o, hx, c0, c1, c2, c3, c4⟩ := (hl.later hB).cells k hlt
            have hlt' := hlt
            have hbb' := heap_old (leO (leAt p.ls k)) hbb
            have hbq' := heap_old (leO (leAt p.ls k)) hbq
            have hB' := hB.alloc hB.size (leO (leAt p.ls k))
            obtain ⟨kb, -⟩ := box_cells hbb'
            obtain ⟨kq, -⟩ := box_cells hbq'
            rw [hx]
            cases hle : leB t ps p.id (leAt p.ls k)
            · go_wp2_with fail
              refine (leaseRight_is t p.id x n c ps (leAt p.ls k) _ hle _ (hp.later hB') hn t0 t1).mono ?_
              rintro e w5 ⟨rfl, hb5⟩
              go_wp2
              go_ret
              exact ⟨ret_bool (by rw [hch0, hru, hup, les_no hlt' hle]; rfl), hB'.trans (hb5.mono hB'.size)⟩
            · go_wp2_with fail
              refine (leaseRight_is t p.id x n c ps (leAt p.ls k) _ hle _ (hp.later hB') hn t0 t1).mono ?_
              rintro e w5 ⟨rfl, hb5⟩
              have hbb5 := heap_later hb5 hbb'
              have hbq5 := heap_later hb5 hbq'
              clear kb kq
              go_wp2
              go_roundw
              case rel => exact ⟨k + 1, hlt', by go_num, fun j hj => by
                by_cases hj2 : j < k
                · exact hok j hj2
                · obtain rfl : j = k := by omega
                  exact hle, hbb5, hbq5, hB'.trans (hb5.mono hB'.size)⟩
              case measure => simp [intOf]; omega
          · obtain rfl : k = p.n := by omega
            go_wp2
            go_ret
            exact ⟨ret_bool (by rw [hch0, hru, hup, les_yes hok]; rfl), hB⟩
end Go.Proofs.YtpdoonkhnabfjaaGreat
/- What Check of package pool comes to. -/
namespace Go.Proofs.YtpdoonkhnabfjaaGreat
open Go.RowKit Go.Shelf

/-- Are all pools as they must be? -/
def poolsB (t : Int) (ps : List Po) : Bool := (List.range ps.length).all fun i => poolB t ps ps.length (poAt ps i)
def chkB (t : Int) (ps : List Po) : Int := if 8 < ps.length then 2 else if (wth t 0 1073741824 && (idsB ps.length ps && (topsB ps && poolsB t ps))) = true then 0 else 1
theorem pools_no {t : Int} {ps : List Po} {k : Nat} (hk : k < ps.length) (h : poolB t ps ps.length (poAt ps k) = false) : poolsB t ps = false := by
  unfold poolsB
  rw [List.all_eq_false]
  exact ⟨k, by simpa using hk, by simp [h]⟩
theorem pools_yes {t : Int} {ps : List Po} (h : ∀ j, j < ps.length → poolB t ps ps.length (poAt ps j) = true) : poolsB t ps = true := by
  unfold poolsB
  rw [List.all_eq_true]
  intro j hj
  exact h j (by simpa using hj)
theorem chk_many {t : Int} {ps : List Po} (h : 8 < ps.length) : chkB t ps = 2 := by unfold chkB; rw [if_pos h]
theorem chk_no {t : Int} {ps : List Po} (h : ps.length ≤ 8) (h2 : (wth t 0 1073741824 && (idsB ps.length ps && (topsB ps && poolsB t ps))) = false) : chkB t ps = 1 := by unfold chkB; rw [if_neg (by omega), h2]; rfl
theorem chk_yes {t : Int} {ps : List Po} (h : ps.length ≤ 8) (h2 : (wth t 0 1073741824 && (idsB ps.length ps && (topsB ps && poolsB t ps))) = true) : chkB t ps = 0 := by unfold chkB; rw [if_neg (by omega), if_pos h2]
theorem idsRise_is (x : Option Addr) (n c : Nat) (ps : List Po) (r : Bool) (h : idsB n ps = r) (w : World) (hp : PoS w x n ps) (hn : n ≤ 64) :
    Calls Tryz.prog 37 #[.slice x n c] w fun e w' => e = .returned (.bool r) ∧ Below w.heap.size w w' := by
  subst h
  exact idsRise_any x n c ps w hp hn
theorem topsApart_is (x : Option Addr) (n c : Nat) (ps : List Po) (r : Bool) (h : topsB ps = r) (w : World) (hp : PoS w x n ps) (hn : n ≤ 64) (hnc : n ≤ c) (hc63 : c ≤ 9223372036854775807) :
    Calls Tryz.prog 38 #[.slice x n c] w fun e w' => e = .returned (.bool r) ∧ Below w.heap.size w w' := by
  subst h
  exact topsApart_any x n c ps w hp hn hnc hc63
theorem poolRight_is (t : Int) (x : Option Addr) (n c : Nat) (ps : List Po) (p : Po) (r : Bool) (h : poolB t ps n p = r) (w : World) (hp : PoS w x n ps) (hn : n ≤ 64) (hl : LS w p.x p.n p.ls) (hpn : p.n ≤ 1048576) (t0 : 0 ≤ t) (t1 : t ≤ 1073741824) :
    Calls Tryz.prog 39 #[.agg #[.int .i64 t, .slice x n c], poV p] w fun e w' => e = .returned (.bool r) ∧ Below w.heap.size w w' := by
  subst h
  exact poolRight_any t x n c ps p w hp hn hl hpn t0 t1
theorem wth_no {v a b : Int} (h : v < a ∨ b < v) : wth v a b = false := by
  unfold wth
  rcases h with h | h
  · rw [decide_eq_false (by omega), Bool.false_and]
  · rw [decide_eq_false (p := v ≤ b) (by omega), Bool.and_false]
theorem wth_yes {v a b : Int} (h : a ≤ v) (h2 : v ≤ b) : wth v a b = true := by
  unfold wth
  rw [decide_eq_true h, decide_eq_true h2]
  rfl
/-- The slice of pools, as it came or was made. -/
structure Bk (w : World) (x : Option Addr) (n c : Nat) (ps : List Po) : Prop where
  ps : PoS w x n ps
  nc : n ≤ c
  cm : c ≤ 9223372036854775807
theorem Bk.later {w w' : World} {x : Option Addr} {n c : Nat} {ps : List Po} (h : Bk w x n c ps) (hb : Below w.heap.size w w') : Bk w' x n c ps := ⟨h.ps.later hb, h.nc, h.cm⟩

set_option maxRecDepth 100000 in
set_option maxHeartbeats 3200000 in
theorem checkB_any (t : Int) (x : Option Addr) (n c : Nat) (ps : List Po) (w : World) (hk : Bk w x n c ps) :
    Calls Tryz.prog 10 #[.agg #[.int .i64 t, .slice x n c]] w fun e w' => e = .returned (.int .i64 (chkB t ps)) ∧ Below w.heap.size w w' := by
  obtain ⟨hp, hnc, hcm⟩ := hk
  have hpl : Hid (ps.length = n) := hp.len
  by_cases hn8 : 8 < n
  · rw [chk_many (by rw [hpl.out]; exact hn8)]
    go_enter Tryz.func10, Tryz.ntmps10
    go_wp2
    go_ret
    exact ⟨rfl, bl1 w _⟩
  · have hle : Hid (ps.length ≤ 8) := by unfold Hid; rw [hpl.out]; omega
    by_cases ht0 : t < 0
    · rw [chk_no hle.out (by rw [wth_no (.inl ht0)]; rfl)]
      go_enter Tryz.func10, Tryz.ntmps10
      go_wp2
      go_ret
      exact ⟨rfl, bl1 w _⟩
    · by_cases ht1 : 1073741824 < t
      · rw [chk_no hle.out (by rw [wth_no (.inr ht1)]; rfl)]
        go_enter Tryz.func10, Tryz.ntmps10
        go_wp2
        go_ret
        exact ⟨rfl, bl1 w _⟩
      · have hwt : Hid (wth t 0 1073741824 = true) := wth_yes (by omega) (by omega)
        go_enter Tryz.func10, Tryz.ntmps10
        go_upto_region 3 with fail
        obtain ⟨w0, hw0⟩ : ∃ w0, w0 = w.alloc (bkO t x n c) := ⟨_, rfl⟩
        rw [← hw0]
        have hB0 : Below w.heap.size w w0 := by rw [hw0]; exact bl1 w _
        have hb0 : w0.heap[w.heap.size]? = some (bkO t x n c) := by rw [hw0]; exact heap_new _ rfl
        clear hw0
        obtain ⟨kb, -⟩ := box_cells hb0
        cases hid : idsB n ps
        · go_wp2_with fail
          refine (idsRise_is x n c ps _ hid _ (hp.later hB0) (by omega)).mono ?_
          rintro e w1 ⟨rfl, hb1⟩
          go_wp2
          go_ret
          exact ⟨ret_int (chk_no hle.out (by rw [hwt.out, hpl.out, hid]; rfl)).symm, hB0.trans (hb1.mono hB0.size)⟩
        · go_wp2_with fail
          refine (idsRise_is x n c ps _ hid _ (hp.later hB0) (by omega)).mono ?_
          rintro e w1 ⟨rfl, hb1⟩
          have hB1 := hB0.trans (hb1.mono hB0.size)
          have hb1b := heap_later hb1 hb0
          clear hb1 hb0 hB0 kb
          obtain ⟨kb, -⟩ := box_cells hb1b
          cases hto : topsB ps
          · go_wp2_with fail
            refine (topsApart_is x n c ps _ hto _ (hp.later hB1) (by omega) hnc hcm).mono ?_
            rintro e w2 ⟨rfl, hb2⟩
            go_wp2
            go_ret
            exact ⟨ret_int (chk_no hle.out (by rw [hwt.out, hpl.out, hid, hto]; rfl)).symm, hB1.trans (hb2.mono hB1.size)⟩
          · go_wp2_with fail
            refine (topsApart_is x n c ps _ hto _ (hp.later hB1) (by omega) hnc hcm).mono ?_
            rintro e w2 ⟨rfl, hb2⟩
            have hB2 := hB1.trans (hb2.mono hB1.size)
            have hb2b := heap_later hb2 hb1b
            clear hb2 hb1b hB1 kb
            obtain ⟨kb, -⟩ := box_cells hb2b
            go_wp2
            clear kb
            go_loopw [34] (fun i wr => ∃ k : Nat, k ≤ n ∧ i = .int .i64 k ∧ (∀ j, j < k → poolB t ps n (poAt ps j) = true) ∧ wr.heap[w.heap.size]? = some (bkO t x n c) ∧ Below w.heap.size w wr) (fun i _ => n - (intOf i).toNat)
            case atStart => exact ⟨0, by omega, rfl, fun j hj => by omega, hb2b, hB2⟩
            case round =>
              obtain ⟨k, hk, rfl, hok, hbb, hB⟩ := hrel
              clear hb2b hB2
              by_cases hlt : k < n
              · have hpw := hp.later hB
                obtain ⟨b, o, rfl, c0, c1, c2, c3, c4, c5, c6, c7, c8⟩ := hpw.cells k hlt
                obtain ⟨hl1, hl2, hl3⟩ := hpw.leases k hlt
                have hlt' := hlt
                have hbb' := heap_old (poB (poAt ps k)) hbb
                have hB' := hB.alloc hB.size (poB (poAt ps k))
                have hl' := hl3.later (bl1 wr (poB (poAt ps k)))
                have hp' := hpw.later (bl1 wr (poB (poAt ps k)))
                obtain ⟨kb, -⟩ := box_cells hbb'
                cases hpo : poolB t ps n (poAt ps k)
                · go_wp2_with fail
                  refine (poolRight_is t _ n c ps (poAt ps k) _ hpo _ hp' (by omega) hl' hl2 (by omega) (by omega)).mono ?_
                  rintro e w5 ⟨rfl, hb5⟩
                  go_wp2
                  go_ret
                  exact ⟨ret_int (chk_no hle.out (by rw [hwt.out, hpl.out, hid, hto, pools_no (k := k) (by rw [hpl.out]; exact hlt') (by rw [hpl.out]; exact hpo)]; rfl)).symm, hB'.trans (hb5.mono hB'.size)⟩
                · go_wp2_with fail
                  refine (poolRight_is t _ n c ps (poAt ps k) _ hpo _ hp' (by omega) hl' hl2 (by omega) (by omega)).mono ?_
                  rintro e w5 ⟨rfl, hb5⟩
                  have hbb5 := heap_later hb5 hbb'
                  clear kb
                  go_wp2
                  go_roundw
                  case rel => exact ⟨k + 1, hlt', by go_num, fun j hj => by
                    by_cases hj2 : j < k
                    · exact hok j hj2
                    · obtain rfl : j = k := by omega
                      exact hpo, hbb5, hB'.trans (hb5.mono hB'.size)⟩
                  case measure => simp [intOf]; omega
              · obtain rfl : k = n := by omega
                go_wp2
                go_ret
                exact ⟨ret_int (chk_yes hle.out (by rw [hwt.out, hpl.out, hid, hto, pools_yes (by rw [hpl.out]; exact hok)]; rfl)).symm, hB⟩
end Go.Proofs.YtpdoonkhnabfjaaGreat
/- Leases and pools in memory of the call's own. -/
namespace Go.Proofs.YtpdoonkhnabfjaaGreat
open Go.RowKit Go.Shelf
/-- The cells of leases. -/
def cL (e : Le) : List Value := [.int .i64 e.a, .int .i64 e.l, .int .i64 e.kd, .int .i64 e.ow, .int .i64 e.un]
def flatL (es : List Le) : List Value := es.flatMap cL
theorem cL_len (e : Le) : (cL e).length = 5 := rfl
theorem flatL_len : ∀ es : List Le, (flatL es).length = es.length * 5
  | [] => rfl
  | e :: es => by
    have := flatL_len es
    unfold flatL at this ⊢
    rw [List.flatMap_cons, List.length_append, this, cL_len, List.length_cons]
    omega
theorem flatL_snoc (es : List Le) (e : Le) : flatL (es ++ [e]) = flatL es ++ cL e := by simp [flatL]
theorem flatL_app (es fs : List Le) : flatL (es ++ fs) = flatL es ++ flatL fs := by simp [flatL]
theorem flatL_at : ∀ (es : List Le) (i j : Nat), i < es.length → j < 5 → (flatL es)[i * 5 + j]? = (cL (leAt es i))[j]?
  | [], i, j, hi, _ => by simp at hi
  | e :: es, 0, j, _, hj => by
    unfold flatL
    rw [List.flatMap_cons, List.getElem?_append_left (by rw [cL_len]; omega)]
    simp [leAt]
  | e :: es, i + 1, j, hi, hj => by
    have := flatL_at es i j (by simpa using hi) hj
    unfold flatL at this ⊢
    rw [List.flatMap_cons, List.getElem?_append_right (by rw [cL_len]; omega), cL_len, show (i + 1) * 5 + j - 5 = i * 5 + j by omega, this]
    simp [leAt]
theorem flatL_split {es : List Le} {j : Nat} {u : Value} (h : (flatL es)[j]? = some u) : ∃ i q, j = i * 5 + q ∧ q < 5 ∧ i < es.length := by
  have hl : j < (flatL es).length := by
    by_cases h2 : j < (flatL es).length
    · exact h2
    · rw [List.getElem?_eq_none (by omega)] at h; cases h
  rw [flatL_len] at hl
  exact ⟨j / 5, j % 5, by omega, by omega, by omega⟩
theorem flatL_one (es : List Le) : ∀ u ∈ flatL es, u.oneCell' = true := fun u hu => by
  obtain ⟨e, -, hu⟩ := List.mem_flatMap.1 hu
  simp only [cL, List.mem_cons, List.not_mem_nil, or_false] at hu
  rcases hu with rfl | rfl | rfl | rfl | rfl <;> rfl
/-- leases that lie in memory of the call's own. -/
def OwnL (w : World) (base : Nat) (v : Value) (es : List Le) : Prop := w.ownsRow base 55 5 v es.length (flatL es)
theorem OwnL.later {w w' : World} {base : Nat} {v : Value} {es : List Le} (h : OwnL w base v es) (hb : Below w.heap.size w w') : OwnL w' base v es := by
  refine World.ownsRow.kept h (grown_of_below hb) ?_
  cases hv : v.ownBlock
  · exact .inl rfl
  · exact .inr (by simp)
theorem OwnL.kept {w w' : World} {base g : Nat} {v : Value} {es : List Le} (h : OwnL w base v es) (hg : w.grownBy w' (some g)) (hne : ∀ k, v.ownBlock = some k → k ≠ g) : OwnL w' base v es := by
  refine World.ownsRow.kept h hg ?_
  cases hv : v.ownBlock
  · exact .inl rfl
  · rename_i k
    exact .inr fun e => hne k hv (Option.some.inj e)
theorem OwnL.low {w : World} {base base' : Nat} {v : Value} {es : List Le} (h : OwnL w base v es) (hb : base' ≤ base) : OwnL w base' v es := by
  refine ⟨h.1, ?_⟩
  rcases h.2 with h | ⟨g, cap, cur, h1, h2, h3⟩
  · exact .inl h
  · exact .inr ⟨g, cap, cur, h1, Nat.le_trans hb h2, h3⟩
theorem OwnL.lt {w : World} {base : Nat} {v : Value} {es : List Le} (h : OwnL w base v es) : ∀ k, v.ownBlock = some k → base ≤ k ∧ k < w.heap.size := World.ownsRow.lt h
theorem OwnL.ne {w : World} {base b : Nat} {v : Value} {es : List Le} {cs : Array Value} {t : TypeId} {fr : Nat × Nat} (h : OwnL w base v es) (hb : w.heap[b]? = some (.cells cs t fr)) (ht : t ≠ 55) : v.ownBlock ≠ some b := by
  rcases h.2 with ⟨rfl, -⟩ | ⟨g, cap, cur, rfl, -, h2, -⟩
  · simp [Value.ownBlock]
  · intro e
    simp only [Value.ownBlock, Option.some.injEq] at e
    rw [e, hb] at h2
    simp only [Option.some.injEq, Obj.cells.injEq] at h2
    exact ht h2.2.1
theorem info_L : (Tryz.prog.info? 55).map (fun i => (i.zero, i.size, i.bytes)) = some (some (.agg #[.int .i64 0, .int .i64 0, .int .i64 0, .int .i64 0, .int .i64 0]), 5, 40) := by kernel_rfl
theorem info_L' : ∃ i, Tryz.prog.info? 55 = some i ∧ i.zero = some (.agg #[.int .i64 0, .int .i64 0, .int .i64 0, .int .i64 0, .int .i64 0]) ∧ i.size = 5 ∧ i.bytes = 40 := by
  obtain ⟨i, hi, h⟩ := Option.map_eq_some_iff.1 info_L
  simp only [Prod.mk.injEq] at h
  exact ⟨i, hi, h.1, h.2.1, h.2.2⟩
theorem under_L : Tryz.prog.underlying 47 = some (.slice 55) := by kernel_rfl
theorem LS.flat_cells {w : World} {ad : Addr} {n : Nat} {es : List Le} (h : LS w (some ad) n es) : ∀ j u, (flatL es)[j]? = some u → w.cell? (ad.add j) = some u := by
  intro j u hj
  obtain ⟨i, q, rfl, hq, hi⟩ := flatL_split hj
  rw [flatL_at es i q hi hq] at hj
  obtain ⟨b, o, hx, d0, d1, d2, d3, d4⟩ := h.cells i (by rw [← h.len]; exact hi)
  simp only [Option.some.injEq] at hx
  subst hx
  rw [addr_add, ← Nat.add_assoc]
  rcases q with _ | _ | _ | _ | _ | q
  case succ.succ.succ.succ.succ => omega
  all_goals simp only [cL, List.getElem?_cons_zero, List.getElem?_cons_succ, Option.some.injEq] at hj
  all_goals rw [← hj]
  all_goals assumption
/-- append of a whole slice to a row of the call's own. -/
theorem wpList_append_L {w : World} {ops : Array Oper} {rest : List Oper} {o : Oper} {a : Act} {Q : Exit → Act → World → Prop} (hgd : o.guard = none) (s x : Operand)
    (ho : o.op = .call { callee := .builtin .append, args := #[s, x], argTypes := #[47, 47] }) (base : Nat) (v : Value) (es : List Le) (hs : a.eval s = v) (hO : OwnL w base v es)
    (ad : Addr) (m c : Nat) (fs : List Le) (hx : a.eval x = .slice (some ad) m c) (hm : fs.length = m) (hy : ∀ j u, (flatL fs)[j]? = some u → w.cell? (ad.add j) = some u)
    (hlen : es.length + m ≤ 1000000000) (hbase : base ≤ w.heap.size)
    (h : ∀ v' w', OwnL w' base v' (es ++ fs) → w.grownBy w' v.ownBlock → wpList Tryz.prog ops Q rest (a.put o.dst v') w') : wpList Tryz.prog ops Q (o :: rest) a w := by
  obtain ⟨i0, hi, hz0, hz1, hz2⟩ := info_L'
  subst hm
  refine wpList_append_own w hgd s x 47 ho base 55 i0 _ 5 40 under_L hi hz0 hz1 hz2 rfl (by decide) v es.length (flatL es) hs hO ad fs.length c (flatL fs) hx (flatL_len fs) hy (flatL_one fs) (by unfold maxLen; omega) (by omega) hbase ?_
  intro v' w' h1 h2 _
  refine h v' w' ?_ h2
  unfold OwnL
  rw [flatL_app, List.length_append]
  exact h1
theorem OwnL.mem {w : World} {base : Nat} {v : Value} {es : List Le} (h : OwnL w base v es) : ∃ x c, v = .slice x es.length c ∧ es.length ≤ c ∧ c ≤ 9223372036854775807 ∧ (x = none → es.length = 0 ∧ c = 0) ∧ ∀ i, i < es.length → ∃ b o, x = some ⟨b, o, none⟩ ∧ w.cell? ⟨b, o + i * 5, none⟩ = some (.int .i64 (leAt es i).a) ∧ w.cell? ⟨b, o + i * 5 + 1, none⟩ = some (.int .i64 (leAt es i).l) ∧ w.cell? ⟨b, o + i * 5 + 2, none⟩ = some (.int .i64 (leAt es i).kd) ∧ w.cell? ⟨b, o + i * 5 + 3, none⟩ = some (.int .i64 (leAt es i).ow) ∧ w.cell? ⟨b, o + i * 5 + 4, none⟩ = some (.int .i64 (leAt es i).un) := by
  rcases h.2 with ⟨rfl, h0⟩ | ⟨g, cap, cur, rfl, -, -, h4, h5, -⟩
  · exact ⟨none, 0, by rw [h0], by omega, by omega, fun _ => ⟨h0, rfl⟩, fun i hi => by omega⟩
  · refine ⟨some ⟨g, 0, none⟩, cap, rfl, h4, by unfold maxLen at h5; omega, fun e => by simp at e, fun i hi => ⟨g, 0, rfl, ?_⟩⟩
    have e : ∀ j, j < 5 → ∀ u, (cL (leAt es i))[j]? = some u → w.cell? ⟨g, 0 + i * 5 + j, none⟩ = some u := fun j hj u hu => by
      have := World.ownsRow.cells h (g := g) rfl (i * 5 + j) u ((flatL_at es i j hi hj).trans hu)
      rw [Addr.add_lit] at this
      rw [Nat.add_assoc]
      exact this
    exact ⟨e 0 (by omega) _ rfl, e 1 (by omega) _ rfl, e 2 (by omega) _ rfl, e 3 (by omega) _ rfl, e 4 (by omega) _ rfl⟩
/-- The cells of pools. -/
def cP (e : Po) : List Value := [.int .i64 e.id, .int .i64 e.up, .int .i64 e.a, .int .i64 e.l, .int .i64 e.mn, .int .i64 e.mx, .int .i64 e.us, .int .i64 e.co, .slice e.x e.n e.c]
def flatP (es : List Po) : List Value := es.flatMap cP
theorem cP_len (e : Po) : (cP e).length = 9 := rfl
theorem flatP_len : ∀ es : List Po, (flatP es).length = es.length * 9
  | [] => rfl
  | e :: es => by
    have := flatP_len es
    unfold flatP at this ⊢
    rw [List.flatMap_cons, List.length_append, this, cP_len, List.length_cons]
    omega
theorem flatP_snoc (es : List Po) (e : Po) : flatP (es ++ [e]) = flatP es ++ cP e := by simp [flatP]
theorem flatP_app (es fs : List Po) : flatP (es ++ fs) = flatP es ++ flatP fs := by simp [flatP]
theorem flatP_at : ∀ (es : List Po) (i j : Nat), i < es.length → j < 9 → (flatP es)[i * 9 + j]? = (cP (poAt es i))[j]?
  | [], i, j, hi, _ => by simp at hi
  | e :: es, 0, j, _, hj => by
    unfold flatP
    rw [List.flatMap_cons, List.getElem?_append_left (by rw [cP_len]; omega)]
    simp [poAt]
  | e :: es, i + 1, j, hi, hj => by
    have := flatP_at es i j (by simpa using hi) hj
    unfold flatP at this ⊢
    rw [List.flatMap_cons, List.getElem?_append_right (by rw [cP_len]; omega), cP_len, show (i + 1) * 9 + j - 9 = i * 9 + j by omega, this]
    simp [poAt]
theorem flatP_split {es : List Po} {j : Nat} {u : Value} (h : (flatP es)[j]? = some u) : ∃ i q, j = i * 9 + q ∧ q < 9 ∧ i < es.length := by
  have hl : j < (flatP es).length := by
    by_cases h2 : j < (flatP es).length
    · exact h2
    · rw [List.getElem?_eq_none (by omega)] at h; cases h
  rw [flatP_len] at hl
  exact ⟨j / 9, j % 9, by omega, by omega, by omega⟩
theorem flatP_one (es : List Po) : ∀ u ∈ flatP es, u.oneCell' = true := fun u hu => by
  obtain ⟨e, -, hu⟩ := List.mem_flatMap.1 hu
  simp only [cP, List.mem_cons, List.not_mem_nil, or_false] at hu
  rcases hu with rfl | rfl | rfl | rfl | rfl | rfl | rfl | rfl | rfl <;> rfl
/-- pools that lie in memory of the call's own. -/
def OwnP (w : World) (base : Nat) (v : Value) (es : List Po) : Prop := w.ownsRow base 49 9 v es.length (flatP es)
theorem OwnP.later {w w' : World} {base : Nat} {v : Value} {es : List Po} (h : OwnP w base v es) (hb : Below w.heap.size w w') : OwnP w' base v es := by
  refine World.ownsRow.kept h (grown_of_below hb) ?_
  cases hv : v.ownBlock
  · exact .inl rfl
  · exact .inr (by simp)
theorem OwnP.kept {w w' : World} {base g : Nat} {v : Value} {es : List Po} (h : OwnP w base v es) (hg : w.grownBy w' (some g)) (hne : ∀ k, v.ownBlock = some k → k ≠ g) : OwnP w' base v es := by
  refine World.ownsRow.kept h hg ?_
  cases hv : v.ownBlock
  · exact .inl rfl
  · rename_i k
    exact .inr fun e => hne k hv (Option.some.inj e)
theorem OwnP.low {w : World} {base base' : Nat} {v : Value} {es : List Po} (h : OwnP w base v es) (hb : base' ≤ base) : OwnP w base' v es := by
  refine ⟨h.1, ?_⟩
  rcases h.2 with h | ⟨g, cap, cur, h1, h2, h3⟩
  · exact .inl h
  · exact .inr ⟨g, cap, cur, h1, Nat.le_trans hb h2, h3⟩
theorem OwnP.lt {w : World} {base : Nat} {v : Value} {es : List Po} (h : OwnP w base v es) : ∀ k, v.ownBlock = some k → base ≤ k ∧ k < w.heap.size := World.ownsRow.lt h
theorem OwnP.ne {w : World} {base b : Nat} {v : Value} {es : List Po} {cs : Array Value} {t : TypeId} {fr : Nat × Nat} (h : OwnP w base v es) (hb : w.heap[b]? = some (.cells cs t fr)) (ht : t ≠ 49) : v.ownBlock ≠ some b := by
  rcases h.2 with ⟨rfl, -⟩ | ⟨g, cap, cur, rfl, -, h2, -⟩
  · simp [Value.ownBlock]
  · intro e
    simp only [Value.ownBlock, Option.some.injEq] at e
    rw [e, hb] at h2
    simp only [Option.some.injEq, Obj.cells.injEq] at h2
    exact ht h2.2.1
theorem info_P : (Tryz.prog.info? 49).map (fun i => (i.zero, i.size, i.bytes)) = some (some (.agg #[.int .i64 0, .int .i64 0, .int .i64 0, .int .i64 0, .int .i64 0, .int .i64 0, .int .i64 0, .int .i64 0, .slice none 0 0]), 9, 88) := by kernel_rfl
theorem info_P' : ∃ i, Tryz.prog.info? 49 = some i ∧ i.zero = some (.agg #[.int .i64 0, .int .i64 0, .int .i64 0, .int .i64 0, .int .i64 0, .int .i64 0, .int .i64 0, .int .i64 0, .slice none 0 0]) ∧ i.size = 9 ∧ i.bytes = 88 := by
  obtain ⟨i, hi, h⟩ := Option.map_eq_some_iff.1 info_P
  simp only [Prod.mk.injEq] at h
  exact ⟨i, hi, h.1, h.2.1, h.2.2⟩
theorem under_P : Tryz.prog.underlying 22 = some (.slice 49) := by kernel_rfl
theorem PoS.flat_cells {w : World} {ad : Addr} {n : Nat} {es : List Po} (h : PoS w (some ad) n es) : ∀ j u, (flatP es)[j]? = some u → w.cell? (ad.add j) = some u := by
  intro j u hj
  obtain ⟨i, q, rfl, hq, hi⟩ := flatP_split hj
  rw [flatP_at es i q hi hq] at hj
  obtain ⟨b, o, hx, d0, d1, d2, d3, d4, d5, d6, d7, d8⟩ := h.cells i (by rw [← h.len]; exact hi)
  simp only [Option.some.injEq] at hx
  subst hx
  rw [addr_add, ← Nat.add_assoc]
  rcases q with _ | _ | _ | _ | _ | _ | _ | _ | _ | q
  case succ.succ.succ.succ.succ.succ.succ.succ.succ => omega
  all_goals simp only [cP, List.getElem?_cons_zero, List.getElem?_cons_succ, Option.some.injEq] at hj
  all_goals rw [← hj]
  all_goals assumption
/-- append of a whole slice to a row of the call's own. -/
theorem wpList_append_P {w : World} {ops : Array Oper} {rest : List Oper} {o : Oper} {a : Act} {Q : Exit → Act → World → Prop} (hgd : o.guard = none) (s x : Operand)
    (ho : o.op = .call { callee := .builtin .append, args := #[s, x], argTypes := #[22, 22] }) (base : Nat) (v : Value) (es : List Po) (hs : a.eval s = v) (hO : OwnP w base v es)
    (ad : Addr) (m c : Nat) (fs : List Po) (hx : a.eval x = .slice (some ad) m c) (hm : fs.length = m) (hy : ∀ j u, (flatP fs)[j]? = some u → w.cell? (ad.add j) = some u)
    (hlen : es.length + m ≤ 1000000000) (hbase : base ≤ w.heap.size)
    (h : ∀ v' w', OwnP w' base v' (es ++ fs) → w.grownBy w' v.ownBlock → wpList Tryz.prog ops Q rest (a.put o.dst v') w') : wpList Tryz.prog ops Q (o :: rest) a w := by
  obtain ⟨i0, hi, hz0, hz1, hz2⟩ := info_P'
  subst hm
  refine wpList_append_own w hgd s x 22 ho base 49 i0 _ 9 88 under_P hi hz0 hz1 hz2 rfl (by decide) v es.length (flatP es) hs hO ad fs.length c (flatP fs) hx (flatP_len fs) hy (flatP_one fs) (by unfold maxLen; omega) (by omega) hbase ?_
  intro v' w' h1 h2 _
  refine h v' w' ?_ h2
  unfold OwnP
  rw [flatP_app, List.length_append]
  exact h1
theorem OwnP.mem {w : World} {base : Nat} {v : Value} {es : List Po} (h : OwnP w base v es) : ∃ x c, v = .slice x es.length c ∧ es.length ≤ c ∧ c ≤ 9223372036854775807 ∧ (x = none → es.length = 0 ∧ c = 0) ∧ ∀ i, i < es.length → ∃ b o, x = some ⟨b, o, none⟩ ∧ w.cell? ⟨b, o + i * 9, none⟩ = some (.int .i64 (poAt es i).id) ∧ w.cell? ⟨b, o + i * 9 + 1, none⟩ = some (.int .i64 (poAt es i).up) ∧ w.cell? ⟨b, o + i * 9 + 2, none⟩ = some (.int .i64 (poAt es i).a) ∧ w.cell? ⟨b, o + i * 9 + 3, none⟩ = some (.int .i64 (poAt es i).l) ∧ w.cell? ⟨b, o + i * 9 + 4, none⟩ = some (.int .i64 (poAt es i).mn) ∧ w.cell? ⟨b, o + i * 9 + 5, none⟩ = some (.int .i64 (poAt es i).mx) ∧ w.cell? ⟨b, o + i * 9 + 6, none⟩ = some (.int .i64 (poAt es i).us) ∧ w.cell? ⟨b, o + i * 9 + 7, none⟩ = some (.int .i64 (poAt es i).co) ∧ w.cell? ⟨b, o + i * 9 + 8, none⟩ = some (.slice (poAt es i).x (poAt es i).n (poAt es i).c) := by
  rcases h.2 with ⟨rfl, h0⟩ | ⟨g, cap, cur, rfl, -, -, h4, h5, -⟩
  · exact ⟨none, 0, by rw [h0], by omega, by omega, fun _ => ⟨h0, rfl⟩, fun i hi => by omega⟩
  · refine ⟨some ⟨g, 0, none⟩, cap, rfl, h4, by unfold maxLen at h5; omega, fun e => by simp at e, fun i hi => ⟨g, 0, rfl, ?_⟩⟩
    have e : ∀ j, j < 9 → ∀ u, (cP (poAt es i))[j]? = some u → w.cell? ⟨g, 0 + i * 9 + j, none⟩ = some u := fun j hj u hu => by
      have := World.ownsRow.cells h (g := g) rfl (i * 9 + j) u ((flatP_at es i j hi hj).trans hu)
      rw [Addr.add_lit] at this
      rw [Nat.add_assoc]
      exact this
    exact ⟨e 0 (by omega) _ rfl, e 1 (by omega) _ rfl, e 2 (by omega) _ rfl, e 3 (by omega) _ rfl, e 4 (by omega) _ rfl, e 5 (by omega) _ rfl, e 6 (by omega) _ rfl, e 7 (by omega) _ rfl, e 8 (by omega) _ rfl⟩
end Go.Proofs.YtpdoonkhnabfjaaGreat
