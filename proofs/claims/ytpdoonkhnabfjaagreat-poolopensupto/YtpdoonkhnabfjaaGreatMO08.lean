/- The ground of this seat's proofs: what a space, a prefix, a number that came in are. -/
import Derived.Test.YtpdoonkhnabfjaaGreatRows
import Derived.Test.YtpdoonkhnabfjaaGreatMO07
import Derived.ProofKit
import Derived.OpenShut
import Derived.Carry
import Derived.Deep.SlicePairs
import Derived.Deep.DeepHandedRow
import Derived.Lib.SmallJoins
import Derived.Test.YtpdoonkhnabfjaaGreatMO06
import Derived.Test.YtpdoonkhnabfjaaGreatMO05
import Derived.Deep.RegionHeld3
namespace Go.Proofs.YtpdoonkhnabfjaaGreat
open Go.ChangeShapes Go.WideShapes Go.ChangeAt Go.RowKit Go.Joins

theorem own : ownKnob Tryz.prog.godebug = none := by kernel_rfl
theorem laidOut : laidOutB Tryz.prog = true := by kernel_rfl
theorem cellsP : Tryz.prog.cellsOf 26 = 2 := by kernel_rfl
theorem cellsS : Tryz.prog.cellsOf 71 = 3 := by kernel_rfl
theorem cellsU : Tryz.prog.cellsOf 69 = 1 := by kernel_rfl
theorem cells3 : Tryz.prog.cellsOf 3 = 1 := by kernel_rfl

theorem wf_range {n : Int} (h : (Lit.int .i64 n).wf = true) : -9223372036854775808 ≤ n ∧ n ≤ 9223372036854775807 := by
  have h1 : IntKind.i64.min = -9223372036854775808 := by rfl
  have h2 : IntKind.i64.max = 9223372036854775807 := by rfl
  simp [Lit.wf] at h
  omega

set_option maxRecDepth 100000 in
theorem open_space {H : Type} {enc : TypeId × Value → H} {w : World} {r : Reach} {b0 : Nat} {v : Value} {d : DataW H} {p : List MemPlace}
    (hv : Value.okWide Tryz.prog w r b0 71 v) (h : DataW.Trod enc Tryz.prog w 0 (fun _ => true) true 71 v d p) :
    ∃ (a l : Int) (x : Option Addr) (n c : Nat) (ps : List (Int × Int)), v = .agg #[.int .i64 a, .int .i64 l, .slice x n c] ∧ PS w x n ps ∧ n ≤ c ∧ c ≤ 9223372036854775807 ∧ ((x = none ∧ c = 0) ∨ (∃ q, x = some q ∧ c = 0) ∨ ∃ b o, x = some ⟨b, o, none⟩) := by
  obtain ⟨cs, rfl, hsz⟩ := okWide_struct Tryz.underlying71 hv
  obtain ⟨c0, c1, c2, rfl⟩ := array3 (hsz.trans cellsS)
  obtain ⟨fuel, hf⟩ := h
  obtain ⟨y0, y1, n, hx, _, h0, h1⟩ := trod_struct2 Tryz.underlying71 hf
  simp [Value.cells, cellsP, cellsU] at h0 h1
  obtain ⟨z0, z1, m, hz, _, g0, g1⟩ := trod_struct2 Tryz.underlying26 h0
  simp [cells3] at g0 g1
  obtain ⟨a, ea, -, -⟩ := DataW.trod_int Tryz.underlying3 g0
  obtain ⟨l, el, -, -⟩ := DataW.trod_int Tryz.underlying3 g1
  simp at ea el
  subst ea el
  clear g0 g1 hz h0 hx hf hv hsz
  rcases Deep.open_slice_pairs Tryz.underlying69 Tryz.underlying26 cellsP rfl rfl cells3 cells3 h1 with ⟨hc, -⟩ | ⟨q, len, cap, k, n', V0, V1, D0, D1, P0, P1, hc, -, hlc, hcm, hk, -, hV⟩
  · simp at hc
    subst hc
    exact ⟨a, l, none, 0, 0, [], rfl, ⟨rfl, fun i hi => by cases hi⟩, by omega, by omega, .inl ⟨rfl, rfl⟩⟩
  · simp at hc
    subst hc
    simp at hk
    have hk' := hk.symm
    subst hk'
    clear hk
    have hspot : 0 < cap → q.spot = none := fun h => by
      have := World.cell?_spot (hV 0 h).1
      simpa [Addr.add] using this
    have hmax : cap ≤ 9223372036854775807 := by unfold maxLen at hcm; omega
    by_cases h0 : cap = 0
    · subst h0
      obtain rfl : len = 0 := by omega
      exact ⟨a, l, some q, 0, 0, [], rfl, ⟨rfl, fun i hi => by cases hi⟩, by omega, by omega, .inr (.inl ⟨q, rfl, rfl⟩)⟩
    · obtain ⟨b, o, sp'⟩ := q
      have hs : sp' = none := hspot (by omega)
      subst hs
      refine ⟨a, l, some ⟨b, o, none⟩, len, cap, (List.range len).map fun i => (intOf (V0 i), intOf (V1 i)), rfl, ⟨by simp, fun i hi => ⟨b, o, rfl, ?_, ?_⟩⟩, hlc, hmax, .inr (.inr ⟨b, o, rfl⟩)⟩
      · obtain ⟨e0, -, t0, -⟩ := hV i (by omega)
        obtain ⟨x, ex, -, -⟩ := DataW.trod_int Tryz.underlying3 t0
        simp at ex
        rw [addr_add, ex] at e0
        rw [e0]
        simp [at0, List.getD_eq_getElem?_getD, hi, ex, intOf]
      · obtain ⟨-, e0, -, t0⟩ := hV i (by omega)
        obtain ⟨x, ex, -, -⟩ := DataW.trod_int Tryz.underlying3 t0
        simp at ex
        rw [addr_add, ex] at e0
        rw [show o + i * 2 + 1 = o + (i * 2 + 1) by omega, e0]
        simp [at1, List.getD_eq_getElem?_getD, hi, ex, intOf]

set_option maxRecDepth 100000 in
theorem open_prefix {H : Type} {enc : TypeId × Value → H} {w : World} {r : Reach} {b0 : Nat} {v : Value} {d : DataW H} {p : List MemPlace}
    (hv : Value.okWide Tryz.prog w r b0 26 v) (h : DataW.Trod enc Tryz.prog w 0 (fun _ => true) true 26 v d p) :
    ∃ (a l : Int), v = .agg #[.int .i64 a, .int .i64 l] := by
  obtain ⟨c0, c1, y0, y1, m0, rfl, -, -, hy0, hy1⟩ := open_agg2 Tryz.underlying26 (by kernel_rfl) cellsP hv h
  obtain ⟨a, ea, -, -⟩ := DataW.trod_int Tryz.underlying3 hy0
  obtain ⟨l, el, -, -⟩ := DataW.trod_int Tryz.underlying3 hy1
  simp at ea el
  subst ea el
  exact ⟨a, l, rfl⟩
end Go.Proofs.YtpdoonkhnabfjaaGreat
/- What order.Put and slices.Index come to at prefixes. -/
namespace Go.Proofs.YtpdoonkhnabfjaaGreat
open Go.RowKit Go.Shelf
theorem at_take {ps : List (Int × Int)} {i j : Nat} (h : j < i) : at0 (ps.take i) j = at0 ps j ∧ at1 (ps.take i) j = at1 ps j := by
  simp [at0, at1, List.getD_eq_getElem?_getD, List.getElem?_take_of_lt h]
theorem at_drop {ps : List (Int × Int)} {i j : Nat} : at0 (ps.drop i) j = at0 ps (i + j) ∧ at1 (ps.drop i) j = at1 ps (i + j) := by
  simp [at0, at1, List.getD_eq_getElem?_getD]
theorem PS.take {w : World} {x : Option Addr} {n i : Nat} {ps : List (Int × Int)} (h : PS w x n ps) (hi : i ≤ n) : PS w x i (ps.take i) where
  len := by rw [List.length_take, h.len]; omega
  cells := fun j hj => by
    obtain ⟨b, o, hx, c0, c1⟩ := h.cells j (by omega)
    exact ⟨b, o, hx, by rw [(at_take hj).1]; exact c0, by rw [(at_take hj).2]; exact c1⟩
theorem PS.drop {w : World} {b o n i c : Nat} {ps : List (Int × Int)} (h : PS w (some ⟨b, o, none⟩) n ps) (hi : i ≤ n) (hnc : n ≤ c) : PS w (if c = i then some ⟨b, o, none⟩ else some ⟨b, o + i * 2, none⟩) (n - i) (ps.drop i) where
  len := by rw [List.length_drop, h.len]
  cells := fun j hj => by
    have hne : c ≠ i := by omega
    obtain ⟨b', o', hx, c0, c1⟩ := h.cells (i + j) (by omega)
    cases hx
    refine ⟨b, o + i * 2, by rw [if_neg hne], ?_, ?_⟩
    · rw [at_drop.1, show o + i * 2 + j * 2 = o + (i + j) * 2 by omega]; exact c0
    · rw [at_drop.2, show o + i * 2 + j * 2 + 1 = o + (i + j) * 2 + 1 by omega]; exact c1

/-- What Put answers: the prefix stands ahead of the first one that begins behind it. -/
def PutPost (a l : Int) (n : Nat) (ps : List (Int × Int)) (w : World) (e : Ending) (w' : World) : Prop :=
  ∃ x' c', e = .returned (.slice x' (n + 1) c') ∧ Below w.heap.size w w' ∧ ∃ i, i ≤ n ∧ (∀ j, j < i → ¬ a < at0 ps j) ∧ (i < n → a < at0 ps i) ∧ PS w' x' (n + 1) (ps.take i ++ [(a, l)] ++ ps.drop i) ∧ (∀ q, x' = some q → w.heap.size ≤ q.block) ∧ n + 1 ≤ c' ∧ c' ≤ 9223372036854775807

end Go.Proofs.YtpdoonkhnabfjaaGreat
/- What Holes and Fit of package space come to. -/
namespace Go.Proofs.YtpdoonkhnabfjaaGreat
open Go.RowKit Go.Shelf

theorem chkS_ok {a l : Int} {n : Nat} {ps : List (Int × Int)} (h : chkS a l n ps = 0) : n ≤ 32 ∧ rt a l = true ∧ apartB a l ps = true := by
  unfold chkS at h
  by_cases h1 : 32 < n
  · rw [if_pos h1] at h; cases h
  · rw [if_neg h1] at h
    cases h2 : rt a l <;> cases h3 : apartB a l ps <;> simp [h2, h3] at h
    exact ⟨by omega, rfl, rfl⟩

/-- The holes of a right space; none of another one. -/
def holS (a l : Int) (n : Nat) (ps : List (Int × Int)) : List (Int × Int) := if chkS a l n ps = 0 then hol ps (16 - l).toNat a l else []

theorem two_boxes (w : World) (a l : Int) (x : Option Addr) (n c : Nat) : ∃ V, V = (w.alloc (.cells #[.int .i64 a, .int .i64 l] 26)).alloc (.cells #[.slice x n c] 69) ∧ Below w.heap.size w V ∧
    V.cell? ⟨w.heap.size, 0, none⟩ = some (.int .i64 a) ∧ V.cell? ⟨w.heap.size, 1, none⟩ = some (.int .i64 l) ∧ V.heap[w.heap.size + 1]? = some (.cells #[.slice x n c] 69) := by
  refine ⟨_, rfl, bl2 w _ _, ?_, ?_, heap_new _ (by simp)⟩
  · exact cell_later (bl1 _ _) (by simp)
  · exact cell_later (bl1 _ _) (by simp)

theorem below_set2 {w V : World} (h : Below w.heap.size w V) {b : Nat} (hb : w.heap.size ≤ b) (p q : Value) : Below w.heap.size w ((V.setCell ⟨b, 0, none⟩ p).setCell ⟨b, 1, none⟩ q) :=
  (h.setCell (p := ⟨b, 0, none⟩) hb p).setCell (p := ⟨b, 1, none⟩) hb q
theorem fit_boxes {w w1 : World} {a l z : Int} {x : Option Addr} {n c : Nat}
    (hb1 : Below (((w.alloc (.cells #[.int .i64 a, .int .i64 l, .slice x n c] 71)).alloc (.cells #[.int .i64 z] 3)).alloc (.cells #[.int .i64 0, .int .i64 0] 26)).heap.size (((w.alloc (.cells #[.int .i64 a, .int .i64 l, .slice x n c] 71)).alloc (.cells #[.int .i64 z] 3)).alloc (.cells #[.int .i64 0, .int .i64 0] 26)) w1) :
    w1.cell? ⟨w.heap.size, 0, none⟩ = some (.int .i64 a) ∧ w1.cell? ⟨w.heap.size, 1, none⟩ = some (.int .i64 l) ∧ w1.cell? ⟨w.heap.size, 2, none⟩ = some (.slice x n c) ∧ w1.cell? ⟨w.heap.size + 1, 0, none⟩ = some (.int .i64 z) ∧ w1.heap[w.heap.size + 1 + 1]? = some (.cells #[.int .i64 0, .int .i64 0] 26) ∧ w.heap.size + 3 ≤ w1.heap.size := by
  have h0 : (((w.alloc (.cells #[.int .i64 a, .int .i64 l, .slice x n c] 71)).alloc (.cells #[.int .i64 z] 3)).alloc (.cells #[.int .i64 0, .int .i64 0] 26)).heap[w.heap.size]? = some (.cells #[.int .i64 a, .int .i64 l, .slice x n c] 71) := heap_old _ (heap_old _ (heap_new _ rfl))
  have h1 : (((w.alloc (.cells #[.int .i64 a, .int .i64 l, .slice x n c] 71)).alloc (.cells #[.int .i64 z] 3)).alloc (.cells #[.int .i64 0, .int .i64 0] 26)).heap[w.heap.size + 1]? = some (.cells #[.int .i64 z] 3) := heap_old _ (heap_new _ (by simp))
  have h2 : (((w.alloc (.cells #[.int .i64 a, .int .i64 l, .slice x n c] 71)).alloc (.cells #[.int .i64 z] 3)).alloc (.cells #[.int .i64 0, .int .i64 0] 26)).heap[w.heap.size + 1 + 1]? = some (.cells #[.int .i64 0, .int .i64 0] 26) := heap_new _ (by simp)
  have g0 := (hb1.block _ (Array.getElem?_eq_some_iff.1 h0).1).trans h0
  have g1 := (hb1.block _ (Array.getElem?_eq_some_iff.1 h1).1).trans h1
  have g2 := (hb1.block _ (Array.getElem?_eq_some_iff.1 h2).1).trans h2
  have hs := hb1.size
  simp only [World.size_alloc] at hs
  refine ⟨by simp [World.cell?, g0], by simp [World.cell?, g0], by simp [World.cell?, g0], by simp [World.cell?, g1], g2, by omega⟩

def fitE (a l : Int) (n : Nat) (ps : List (Int × Int)) (z : Int) : Int := if chkS a l n ps = 0 then (if z < l ∨ 16 < z then 3 else 0) else chkS a l n ps
def fitV (z : Int) : Option Int → Int → Value
  | some x, _ => .tuple #[.agg #[.int .i64 x, .int .i64 z], .bool true, .int .i64 0]
  | none, e => .tuple #[.agg #[.int .i64 0, .int .i64 0], .bool false, .int .i64 e]
/-- What fits in a right space: where the first hole begins that is great enough. -/
def fitS (a l : Int) (n : Nat) (ps : List (Int × Int)) (z : Int) : Option Int := if fitE a l n ps z = 0 then ((hol ps (16 - l).toNat a l).find? fun h => decide (h.2 ≤ z)).map (·.1) else none

set_option maxRecDepth 20000 in
set_option maxHeartbeats 800000 in
theorem fit_any (a l : Int) (x : Option Addr) (n c : Nat) (ps : List (Int × Int)) (z : Int) (w : World) (hp : n ≤ 32 → PS w x n ps) :
    Calls Tryz.prog 78 #[.agg #[.int .i64 a, .int .i64 l, .slice x n c], .int .i64 z] w fun e w' =>
      e = .returned (fitV z (fitS a l n ps z) (fitE a l n ps z)) ∧ Below w.heap.size w w' := by
  have hck := checkS_any a l x n c ps
  have hb3 : ∀ (w : World) (o p q : Obj), Below w.heap.size w (((w.alloc o).alloc p).alloc q) := fun w o p q => (bl2 w o p).alloc (by simp; omega) q
  by_cases hv : chkS a l n ps = 0
  · obtain ⟨hn, hr, -⟩ := chkS_ok hv
    have hp' := hp hn
    rw [hv] at hck
    by_cases hz1 : z < l
    · have hE : fitE a l n ps z = 3 := by unfold fitE; rw [if_pos hv, if_pos (.inl hz1)]
      have hS : fitS a l n ps z = none := by unfold fitS; rw [hE]; rfl
      rw [hE, hS]
      go_enter Tryz.func78, Tryz.ntmps78
      go_wp2_with fail
      refine (hck _ (fun h => (hp h).later (hb3 w _ _ _))).mono ?_
      rintro e w1 ⟨rfl, hb1⟩
      have hB := (hb3 w (.cells #[.int .i64 a, .int .i64 l, .slice x n c] 71) (.cells #[.int .i64 z] 3) (.cells #[.int .i64 0, .int .i64 0] 26)).trans (hb1.mono (by simp; omega))
      obtain ⟨e0, e1, e2, ez, er, hsz⟩ := fit_boxes hb1
      obtain ⟨f0, f1, z0, z1⟩ := box2 er
      go_wp2
      refine bodyPost_ret (v := .tuple #[.agg #[.int .i64 0, .int .i64 0], .bool false, .int .i64 3]) (by simp [results, Tryz.results78, go_sem, f0, f1]) rfl ⟨rfl, ?_⟩
      exact below_set2 hB (by omega) _ _
    · by_cases hz2 : 16 < z
      · have hE : fitE a l n ps z = 3 := by unfold fitE; rw [if_pos hv, if_pos (.inr hz2)]
        have hS : fitS a l n ps z = none := by unfold fitS; rw [hE]; rfl
        rw [hE, hS]
        go_enter Tryz.func78, Tryz.ntmps78
        go_wp2_with fail
        refine (hck _ (fun h => (hp h).later (hb3 w _ _ _))).mono ?_
        rintro e w1 ⟨rfl, hb1⟩
        have hB := (hb3 w (.cells #[.int .i64 a, .int .i64 l, .slice x n c] 71) (.cells #[.int .i64 z] 3) (.cells #[.int .i64 0, .int .i64 0] 26)).trans (hb1.mono (by simp; omega))
        obtain ⟨e0, e1, e2, ez, er, hsz⟩ := fit_boxes hb1
        obtain ⟨f0, f1, z0, z1⟩ := box2 er
        go_wp2
        refine bodyPost_ret (v := .tuple #[.agg #[.int .i64 0, .int .i64 0], .bool false, .int .i64 3]) (by simp [results, Tryz.results78, go_sem, f0, f1]) rfl ⟨rfl, ?_⟩
        exact below_set2 hB (by omega) _ _
      · have hE : fitE a l n ps z = 0 := by unfold fitE; rw [if_pos hv, if_neg (by omega)]
        have hS : fitS a l n ps z = ((hol ps (16 - l).toNat a l).find? fun h => decide (h.2 ≤ z)).map (·.1) := by unfold fitS; rw [hE]; rfl
        rw [hE, hS]
        go_enter Tryz.func78, Tryz.ntmps78
        go_wp2_with fail
        refine (hck _ (fun h => (hp h).later (hb3 w _ _ _))).mono ?_
        rintro e w1 ⟨rfl, hb1⟩
        have hB := (hb3 w (.cells #[.int .i64 a, .int .i64 l, .slice x n c] 71) (.cells #[.int .i64 z] 3) (.cells #[.int .i64 0, .int .i64 0] 26)).trans (hb1.mono (by simp; omega))
        obtain ⟨e0, e1, e2, ez, er, hsz⟩ := fit_boxes hb1
        obtain ⟨f0, f1, z0, z1⟩ := box2 er
        go_wp2_with fail
        have hfi := callsIn_wide.1 (first_any a l z x n c ps hr (by omega) (w.heap.size + 1) 0 w1 (hp'.later hB) ez)
        unfold wantF at hfi
        refine hfi.mono ?_
        rintro e w2 ⟨rfl, hb2⟩
        have hC := hB.trans (hb2.mono hB.size)
        have er2 := (hb2.block _ (Array.getElem?_eq_some_iff.1 er).1).trans er
        have ez2 := cell_later hb2 ez
        have hsz2 := hb2.size
        clear e0 e1 e2 ez f0 f1 z0 z1 hb1
        cases hfind : (hol ps (16 - l).toNat a l).find? fun h => decide (h.2 ≤ z)
        · simp only [firstV]
          have er3 : ∀ o, (w2.alloc o).heap[w.heap.size + 1 + 1]? = some (.cells #[.int .i64 0, .int .i64 0] 26) := fun o => heap_old o er2
          have f0 : ∀ o, (w2.alloc o).cell? ⟨w.heap.size + 1 + 1, 0, none⟩ = some (.int .i64 0) := fun o => (box2 (er3 o)).1
          have f1 : ∀ o, (w2.alloc o).cell? ⟨w.heap.size + 1 + 1, 1, none⟩ = some (.int .i64 0) := fun o => (box2 (er3 o)).2.1
          have z0 : ∀ o, (w2.alloc o).frozen? ⟨w.heap.size + 1 + 1, 0, none⟩ = false := fun o => (box2 (er3 o)).2.2.1
          have z1 : ∀ o, (w2.alloc o).frozen? ⟨w.heap.size + 1 + 1, 1, none⟩ = false := fun o => (box2 (er3 o)).2.2.2
          go_wp2
          refine bodyPost_ret (v := .tuple #[.agg #[.int .i64 0, .int .i64 0], .bool false, .int .i64 0]) (by simp [results, Tryz.results78, go_sem, f0, f1]) rfl ⟨by rw [hfind]; rfl, ?_⟩
          exact below_set2 (hC.trans ((bl1 w2 _).mono hC.size)) (by omega) _ _
        · rename_i h
          simp only [firstV]
          have er3 : ∀ o, (w2.alloc o).heap[w.heap.size + 1 + 1]? = some (.cells #[.int .i64 0, .int .i64 0] 26) := fun o => heap_old o er2
          have f0 : ∀ o, (w2.alloc o).cell? ⟨w.heap.size + 1 + 1, 0, none⟩ = some (.int .i64 0) := fun o => (box2 (er3 o)).1
          have f1 : ∀ o, (w2.alloc o).cell? ⟨w.heap.size + 1 + 1, 1, none⟩ = some (.int .i64 0) := fun o => (box2 (er3 o)).2.1
          have z0 : ∀ o, (w2.alloc o).frozen? ⟨w.heap.size + 1 + 1, 0, none⟩ = false := fun o => (box2 (er3 o)).2.2.1
          have z1 : ∀ o, (w2.alloc o).frozen? ⟨w.heap.size + 1 + 1, 1, none⟩ = false := fun o => (box2 (er3 o)).2.2.2
          have ez3 : ∀ o, (w2.alloc o).cell? ⟨w.heap.size + 1, 0, none⟩ = some (.int .i64 z) := fun o => cell_later (bl1 w2 o) ez2
          go_wp2
          refine bodyPost_ret (v := .tuple #[.agg #[.int .i64 h.1, .int .i64 z], .bool true, .int .i64 0]) (by simp [results, Tryz.results78, go_sem, f0, f1]) rfl ⟨by rw [hfind]; rfl, ?_⟩
          exact below_set2 (hC.trans ((bl1 w2 _).mono hC.size)) (by omega) _ _
  · have hE : fitE a l n ps z = chkS a l n ps := by unfold fitE; rw [if_neg hv]
    have hS : fitS a l n ps z = none := by unfold fitS; rw [hE, if_neg hv]
    rw [hE, hS]
    have hb : (chkS a l n ps != 0) = true := by simpa using hv
    have hb' : (chkS a l n ps == 0) = false := by simpa using hv
    clear hE hS
    generalize chkS a l n ps = v at hck hb hb' hv ⊢
    go_enter Tryz.func78, Tryz.ntmps78
    go_wp2_with fail
    refine (hck _ (fun h => (hp h).later (hb3 w _ _ _))).mono ?_
    rintro e w1 ⟨rfl, hb1⟩
    have hB := (hb3 w (.cells #[.int .i64 a, .int .i64 l, .slice x n c] 71) (.cells #[.int .i64 z] 3) (.cells #[.int .i64 0, .int .i64 0] 26)).trans (hb1.mono (by simp; omega))
    obtain ⟨e0, e1, e2, ez, er, hsz⟩ := fit_boxes hb1
    obtain ⟨f0, f1, z0, z1⟩ := box2 er
    go_wp2
    refine bodyPost_ret (v := .tuple #[.agg #[.int .i64 0, .int .i64 0], .bool false, .int .i64 v]) (by simp [results, Tryz.results78, go_sem, f0, f1]) rfl ⟨rfl, ?_⟩
    exact below_set2 hB (by omega) _ _
end Go.Proofs.YtpdoonkhnabfjaaGreat
