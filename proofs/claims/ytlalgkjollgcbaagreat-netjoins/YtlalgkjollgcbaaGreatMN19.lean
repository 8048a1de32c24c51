/- Grow, Concat and Put at links. -/
import Derived.Test.YtlalgkjollgcbaaGreatMN18
import Derived.Lib.AppendZerosOnto
import Derived.Lib.AppendZeros
import Derived.Deep.RegionHeld3
import Derived.Deep.DeepAppendRoom
import Derived.Laws.CopyRow
import Derived.Lib.MinMax
import Derived.Test.YtlalgkjollgcbaaGreatMN01
import Derived.OrdersHeld
import Derived.StillTail
namespace Go.Proofs.YtlalgkjollgcbaaGreat
open Go.RowKit Go.Shelf

/-- The one link stands ahead of the other. -/
def lkLt (p r : Int × Int) : Bool := decide (p.1 < r.1) || (decide (p.1 = r.1) && decide (p.2 < r.2))
theorem lkLt_cmp (p r : Int × Int) : ∃ v, Cmp2 p.1 p.2 r.1 r.2 v ∧ (lkLt p r = decide (v < 0)) := by
  unfold lkLt
  rcases Int.lt_trichotomy p.1 r.1 with h | h | h
  · exact ⟨-1, .inl ⟨h, rfl⟩, by simp [h]⟩
  · rcases Int.lt_trichotomy p.2 r.2 with h2 | h2 | h2
    · exact ⟨-1, .inr (.inl ⟨h, .inl ⟨h2, rfl⟩⟩), by simp [h, h2]⟩
    · exact ⟨0, .inr (.inl ⟨h, .inr (.inl ⟨h2, rfl⟩)⟩), by simp [h, h2]⟩
    · exact ⟨1, .inr (.inl ⟨h, .inr (.inr ⟨h2, rfl⟩)⟩), by simp [h]; omega⟩
  · exact ⟨1, .inr (.inr ⟨h, rfl⟩), by simp; omega⟩
/-- These lie one behind the other from there on. -/
def RunK (w : World) (x : Option Addr) (n : Nat) (es : List (Int × Int)) : Prop := es.length = n ∧ (0 < n → x ≠ none) ∧ ∀ ad, x = some ad → ∀ j u, (flatK es)[j]? = some u → w.cell? (ad.add j) = some u
theorem RunK.later {w w' : World} {x : Option Addr} {n : Nat} {es : List (Int × Int)} (h : RunK w x n es) (hb : Below w.heap.size w w') : RunK w' x n es :=
  ⟨h.1, h.2.1, fun ad hx j u hj => cell_later_add hb (h.2.2 ad hx j u hj)⟩
theorem RunK.empty (w : World) (x : Option Addr) : RunK w x 0 [] := ⟨rfl, fun h => by omega, fun _ _ j u hj => by simp [flatK] at hj⟩
theorem PS.runK {w : World} {x : Option Addr} {n : Nat} {es : List (Int × Int)} (h : PS w x n es) : RunK w x n es :=
  ⟨h.len, (fun h0 e => by obtain ⟨b, o, hx, -⟩ := h.cells 0 h0; rw [e] at hx; cases hx), fun ad hx => by subst hx; exact h.flatK_cells⟩
theorem RunK.take {w : World} {x : Option Addr} {n i : Nat} {es : List (Int × Int)} (h : RunK w x n es) (hi : i ≤ n) : RunK w x i (es.take i) := by
  refine ⟨by rw [List.length_take, h.1]; omega, fun h0 => h.2.1 (by omega), fun ad hx j u hj => h.2.2 ad hx j u ?_⟩
  conv => lhs; rw [← List.take_append_drop i es]
  rw [flatK_app, List.getElem?_append_left (List.getElem?_eq_some_iff.1 hj).1]
  exact hj
theorem RunK.drop {w : World} {b o n i c : Nat} {es : List (Int × Int)} (h : RunK w (some ⟨b, o, none⟩) n es) (hi : i ≤ n) (hnc : n ≤ c) : RunK w (if c = i then some ⟨b, o, none⟩ else some ⟨b, o + i * 2, none⟩) (n - i) (es.drop i) := by
  refine ⟨by rw [List.length_drop, h.1], fun _ => by split <;> simp, fun ad hx j u hj => ?_⟩
  have hlt : i < n := by
    by_cases e : i < n
    · exact e
    · rw [List.drop_eq_nil_of_le (by rw [h.1]; omega)] at hj
      simp [flatK] at hj
  rw [if_neg (by omega)] at hx
  cases hx
  have h2 := h.2.2 _ rfl (i * 2 + j) u (by
    conv => lhs; rw [← List.take_append_drop i es]
    have hm : (flatK (es.take i)).length = i * 2 := by rw [flatK_len, List.length_take, h.1, show min i n = i by omega]
    rw [flatK_app, List.getElem?_append_right (by rw [hm]; omega), hm, show i * 2 + j - i * 2 = j by omega]
    exact hj)
  rw [addr_add] at h2 ⊢
  rw [show o + i * 2 + j = o + (i * 2 + j) by omega]
  exact h2

set_option maxRecDepth 20000 in
set_option maxHeartbeats 800000 in
theorem growK_nil (n : Nat) (w : World) (h0 : 0 < n) (hn : n ≤ 1000) :
    Calls Tryz.prog 99 #[.slice none 0 0, .int .i64 n] w fun e w' => ∃ v, e = .returned v ∧ Below w.heap.size w w' ∧ OwnK w' w.heap.size v [] := by
  obtain ⟨i0, hi, hz0, hz1, hz2⟩ := info_K'
  have hold : (Builtin.firstCells i0.size 0 (.slice none 0 0)).run Tryz.prog w.drew = .ok ([] : List Value).toArray w.drew := run_firstCells_none w.drew i0.size 0 0 0
  have hrz : ∀ ty, (Builtin.append_ #[23, 3] ty #[.slice none 0 0, .int .i64 (n : Int)]).run Tryz.prog w = _ := fun ty =>
    Lib.run_append_grow_zeros w 23 3 ty 63 i0 _ .i64 .i64 under_K under_int hi hz0 none 0 0 [] hold n (by omega) (by omega) (by omega) (by omega) (by rw [hz2]; omega) (by rw [hz2]; exact growslice_fits (by omega) (by omega))
  have hG := grownCap_le_maxLen w (0 + n) 0 63 (by unfold maxLen; omega)
  have hGn := grownCap_ge w (0 + n) 0 63
  generalize grownCap w (0 + n) 0 63 = G at hrz hG hGn
  have h1 : ¬ ((n : Int) < 0) := by omega
  have h4 : (n : Int) > 0 := by omega
  have hG63 : G ≤ 9223372036854775807 := by unfold maxLen at hG; omega
  go_enter Tryz.func99, Tryz.ntmps99
  go_wp2_with (at_builtin; refine Lib.wpList_append_run _ rfl _ _ _ _ rfl _ _ rfl rfl _ _ (hrz _) ?_)
  go_ret
  refine ⟨_, rfl, (bl1 w _).drew, (World.ownsRow_made w _ G (Nat.le_refl _) hG ?_).drew⟩
  simp only [Array.size_append, size_zeroCells, List.size_toArray, List.length_cons, List.length_nil]
  omega
theorem growK_zero (w : World) :
    Calls Tryz.prog 99 #[.slice none 0 0, .int .i64 0] w fun e w' => e = .returned (.slice none 0 0) ∧ w' = w := by
  go_enter Tryz.func99, Tryz.ntmps99
  go_wp2
  go_ret
  exact ⟨rfl, rfl⟩
theorem growK_any (n : Nat) (w : World) (hn : n ≤ 1000) :
    Calls Tryz.prog 99 #[.slice none 0 0, .int .i64 n] w fun e w' => ∃ v, e = .returned v ∧ Below w.heap.size w w' ∧ OwnK w' w.heap.size v [] := by
  by_cases h : n = 0
  · subst h
    exact (growK_zero w).mono fun _ _ ⟨he, hw⟩ => ⟨_, he, by rw [hw]; exact Below.refl _ _, World.ownsRow_nil _ _ _ _⟩
  · exact growK_nil n w (by omega) hn
def catKTo (ql : Nat → List (Int × Int)) : Nat → List (Int × Int)
  | 0 => []
  | j + 1 => catKTo ql j ++ ql j

set_option maxRecDepth 20000 in
set_option maxHeartbeats 1600000 in
theorem concatK_any (B k k' : Nat) (xl : Nat → Option Addr) (nl cl : Nat → Nat) (ql : Nat → List (Int × Int)) (w : World) (hk : k ≤ 3)
    (hc : ∀ j, j < k → w.cell? ⟨B, j, none⟩ = some (.slice (xl j) (nl j) (cl j))) (hp : ∀ j, j < k → RunK w (xl j) (nl j) (ql j)) (hn : ∀ j, j < k → nl j ≤ 64) (h0 : ∀ j, j < k → xl j = none → nl j = 0 ∧ cl j = 0) :
    Calls Tryz.prog 76 #[.slice (some ⟨B, 0, none⟩) k k'] w fun e w' => ∃ v, e = .returned v ∧ Below w.heap.size w w' ∧ OwnK w' w.heap.size v (catKTo ql k) := by
  obtain ⟨i0, hi, hz0, hz1, hz2⟩ := info_K'
  have hlen : ∀ j, j ≤ k → (catKTo ql j).length ≤ 64 * j := by
    intro j
    induction j with
    | zero => intro _; simp [catKTo]
    | succ j ih =>
      intro hj
      have h1 := ih (by omega)
      have h2 := (hp j (by omega)).1
      have h3 := hn j (by omega)
      simp only [catKTo, List.length_append]
      omega
  go_enter Tryz.func76, Tryz.ntmps76
  go_wp2
  go_loopw [11, 3] (fun i t wr => ∃ j : Nat, j ≤ k ∧ i = .int .i64 j ∧ t = .int .i64 ((catKTo ql j).length : Nat) ∧ wr = w) (fun i _ _ => k - (intOf i).toNat)
  case atStart => exact ⟨0, by omega, rfl, rfl, rfl⟩
  case round =>
    obtain ⟨j, hj, rfl, rfl, hw⟩ := hrel
    have hw' := hw.symm
    subst hw'
    clear hw
    have hl := hlen j hj
    by_cases hlt : j < k
    · have hcj := hc j hlt
      have hl2 := hlen (j + 1) hlt
      have hpl := (hp j hlt).1
      have hnj := hn j hlt
      have hlt' := hlt
      have hcat : (catKTo ql (j + 1)).length = (catKTo ql j).length + nl j := by simp only [catKTo, List.length_append, hpl]
      have hneg : ¬ (((catKTo ql j).length : Int) + (nl j : Int) < 0) := by omega
      go_wp2
      go_roundw
      case rel => exact ⟨j + 1, hlt', by go_num, by rw [hcat]; go_num, trivial⟩
      case measure => simp [intOf]; omega
    · obtain rfl : j = k := by omega
      go_wp2_with fail
      refine (growK_any _ w (by omega)).mono ?_
      rintro e w1 ⟨v0, rfl, hb1, hown1⟩
      go_wp2
      go_loopw [27, 6] (fun i v wq => ∃ q : Nat, q ≤ j ∧ i = .int .i64 q ∧ Below w.heap.size w wq ∧ OwnK wq w.heap.size v (catKTo ql q)) (fun i _ _ => j - (intOf i).toNat)
      case atStart => exact ⟨0, by omega, rfl, hb1, hown1⟩
      case round =>
        obtain ⟨q, hq, rfl, hB, hown⟩ := hrel
        by_cases hlt2 : q < j
        · have hcq := cell_later hB (hc q hlt2)
          have hpq := (hp q hlt2).later hB
          have hlq := hlen q hq
          have hnq := hn q hlt2
          have hlt3 := hlt2
          have hsz := hB.size
          cases hxq : xl q with
          | none =>
            obtain ⟨hn0, hc0⟩ := h0 q hlt2 hxq
            rw [hxq, hn0, hc0] at hcq
            have hq0 : ql q = [] := List.eq_nil_of_length_eq_zero (by rw [hpq.1]; exact hn0)
            go_wp2_with (at_builtin; refine wpList_append_own_none rfl _ _ 23 rfl w.heap.size 63 i0 2 under_K hi _ _ _ rfl hown rfl ?_)
            go_roundw
            case rel => exact ⟨q + 1, hlt3, by go_num, hB, by simp only [catKTo, hq0, List.append_nil]; exact hown⟩
            case measure => simp [intOf]; omega
          | some ad =>
            rw [hxq] at hcq hpq
            go_wp2_with (at_builtin; refine Hid.out ?_)
            unfold Hid
            refine wpList_append_K rfl _ _ rfl w.heap.size _ _ rfl hown ad (nl q) (cl q) (ql q) rfl hpq.1 (hpq.2.2 ad rfl) (by omega) (by omega) ?_
            intro v' w2 hown2 hgrow'
            have hgrow : wr.grownBy w2 u6.ownBlock := hgrow'
            clear hgrow'
            have hB2 : Below w.heap.size w w2 := ⟨hgrow.os.trans hB.os, hgrow.tape.trans hB.tape, hgrow.output.trans hB.output, Nat.le_trans hsz hgrow.size, fun k hk => (hgrow.block k (by omega) (fun e => by have := (hown.lt _ e.symm).1; omega)).trans (hB.block k hk)⟩
            have hown3 : OwnK w2 w.heap.size v' (catKTo ql (q + 1)) := hown2
            clear hown2
            go_wp2
            go_roundw
            case rel => exact ⟨q + 1, hlt3, by go_num, hB2, hown3⟩
            case measure => simp [intOf]; omega
        · obtain rfl : q = j := by omega
          go_wp2
          go_ret
          exact ⟨_, rfl, hB, hown⟩
set_option maxRecDepth 20000 in
set_option maxHeartbeats 800000 in
theorem put1K_any (p r : (Int × Int)) (bp bb bf k : Nat) (w : World) (h10 : w.cell? ⟨bp, 0, none⟩ = some (.int .i64 p.1)) (h11 : w.cell? ⟨bp, 1, none⟩ = some (.int .i64 p.2))
    (h2 : w.cell? ⟨bb, 0, none⟩ = some (.slice (some ⟨bf, 0, none⟩) 2 k)) (h3 : w.cell? ⟨bf, 0, none⟩ = some (.func (.func 43) #[] #[])) (h4 : w.cell? ⟨bf, 1, none⟩ = some (.func (.func 44) #[] #[])) :
    Calls Tryz.prog 74 #[.agg #[.int .i64 r.1, .int .i64 r.2], .pointer (some ⟨bp, 0, none⟩), .pointer (some ⟨bb, 0, none⟩)] w fun e w' => e = .returned (.bool (lkLt p r)) ∧ Below w.heap.size w w' := by
  have k10 : ∀ q, (w.alloc q).cell? ⟨bp, 0, none⟩ = some (.int .i64 p.1) := fun q => cell_later (bl1 w q) h10
  have k11 : ∀ q, (w.alloc q).cell? ⟨bp, 1, none⟩ = some (.int .i64 p.2) := fun q => cell_later (bl1 w q) h11
  have k2 : ∀ q, (w.alloc q).cell? ⟨bb, 0, none⟩ = some (.slice (some ⟨bf, 0, none⟩) 2 k) := fun q => cell_later (bl1 w q) h2
  have hv := lkLt_cmp p r
  obtain ⟨v, hv, hd⟩ := hv
  rw [hd]
  go_enter Tryz.func74, Tryz.ntmps74
  go_wp2_with (go_at_call 75; refine (compareL_is p.1 p.2 r.1 r.2 v hv bf k _ (cell_later (bl1 w _) h3) (cell_later (bl1 w _) h4)).mono ?_; rintro e w1 ⟨rfl, hb1⟩)
  go_ret
  exact ⟨rfl, (bl1 w _).trans (hb1.mono (by simp))⟩
theorem call_put1K (args : Array Value) (W : World) : (callFunc 74 args).run Tryz.prog W = .ok (.enter 74 args) W := by simp [go_sem]

set_option maxHeartbeats 800000 in
theorem concatK3 (x1 x3 : Option Addr) (n1 c1 n3 c3 : Nat) (q1 q3 : List (Int × Int)) (e : (Int × Int)) (w : World) (h1 : RunK w x1 n1 q1) (h3 : RunK w x3 n3 q3) (b1 : n1 ≤ 64) (b3 : n3 ≤ 64) (z1 : x1 = none → n1 = 0 ∧ c1 = 0) (z3 : x3 = none → n3 = 0 ∧ c3 = 0) :
    Calls Tryz.prog 76 #[.slice (some ⟨w.heap.size + 1, 0, none⟩) 3 3] ((w.alloc (.cells #[.int .i64 e.1, .int .i64 e.2] 63)).alloc (.cells #[.slice x1 n1 c1, .slice (some ⟨w.heap.size, 0, none⟩) 1 1, .slice x3 n3 c3] 23)).drew fun r w' =>
      ∃ v, r = .returned v ∧ Below w.heap.size w w' ∧ OwnK w' (w.heap.size + 2) v (q1 ++ [e] ++ q3) := by
  obtain ⟨W, hW⟩ : ∃ W, W = ((w.alloc (.cells #[.int .i64 e.1, .int .i64 e.2] 63)).alloc (.cells #[.slice x1 n1 c1, .slice (some ⟨w.heap.size, 0, none⟩) 1 1, .slice x3 n3 c3] 23)).drew := ⟨_, rfl⟩
  have hB : Below w.heap.size w W := by rw [hW]; exact (bl2 w _ _).drew
  have g0 : W.heap[w.heap.size]? = some (.cells #[.int .i64 e.1, .int .i64 e.2] 63) := by rw [hW]; exact heap_old _ (heap_new _ rfl)
  have g1 : W.heap[w.heap.size + 1]? = some (.cells #[.slice x1 n1 c1, .slice (some ⟨w.heap.size, 0, none⟩) 1 1, .slice x3 n3 c3] 23) := by rw [hW]; exact heap_new _ (by simp)
  have hs : W.heap.size = w.heap.size + 2 := by rw [hW]; simp
  rw [← hW]
  clear hW
  have hp2 : RunK W (some ⟨w.heap.size, 0, none⟩) 1 [e] := ⟨rfl, fun _ => by simp, fun ad hx j u hj => by
    cases hx
    rw [addr_add, Nat.zero_add]
    simp only [flatK, List.flatMap_cons, List.flatMap_nil, List.append_nil] at hj
    simpa [World.cell?, g0, cK] using hj⟩
  have hcat : catKTo (fun j => if j = 0 then q1 else if j = 1 then [e] else q3) 3 = q1 ++ [e] ++ q3 := by simp [catKTo]
  refine (concatK_any (w.heap.size + 1) 3 3 (fun j => if j = 0 then x1 else if j = 1 then some ⟨w.heap.size, 0, none⟩ else x3) (fun j => if j = 0 then n1 else if j = 1 then 1 else n3) (fun j => if j = 0 then c1 else if j = 1 then 1 else c3) (fun j => if j = 0 then q1 else if j = 1 then [e] else q3) W (by omega) ?_ ?_ ?_ ?_).mono ?_
  · intro j hj
    rcases j with _ | _ | _ | j
    · simp [World.cell?, g1]
    · simp [World.cell?, g1]
    · simp [World.cell?, g1]
    · omega
  · intro j hj
    rcases j with _ | _ | _ | j
    · simpa using h1.later hB
    · simpa using hp2
    · simpa using h3.later hB
    · omega
  · intro j hj
    rcases j with _ | _ | _ | j
    · simpa using b1
    · simp
    · simpa using b3
    · omega
  · intro j hj
    rcases j with _ | _ | _ | j
    · simpa using z1
    · simp
    · simpa using z3
    · omega
  · rintro r w' ⟨v, rfl, hb, hown⟩
    rw [hcat, hs] at hown
    exact ⟨v, rfl, hB.trans (hb.mono (by omega)), hown⟩
/-- What Put answers: it stands ahead of the first one whose number is greater. -/
def PutKPost (e : (Int × Int)) (n : Nat) (ps : List (Int × Int)) (w : World) (r : Ending) (w' : World) : Prop :=
  ∃ v, r = .returned v ∧ Below w.heap.size w w' ∧ ∃ i, i ≤ n ∧ (∀ j, j < i → lkLt e (lkAt ps j) = false) ∧ (i < n → lkLt e (lkAt ps i) = true) ∧ OwnK w' w.heap.size v (ps.take i ++ [e] ++ ps.drop i)

set_option maxRecDepth 20000 in
set_option maxHeartbeats 1600000 in
theorem putK_any (e : (Int × Int)) (x : Option Addr) (n c : Nat) (ps : List (Int × Int)) (bf k : Nat) (w : World) (hp : PS w x n ps) (hn : n ≤ 32) (hnc : n ≤ c) (hc63 : c ≤ 9223372036854775807) (hx : (x = none ∧ c = 0) ∨ ∃ b o, x = some ⟨b, o, none⟩)
    (hby : w.cell? ⟨bf, 0, none⟩ = some (.func (.func 43) #[] #[])) (hby2 : w.cell? ⟨bf, 1, none⟩ = some (.func (.func 44) #[] #[])) :
    Calls Tryz.prog 42 #[.slice x n c, .agg #[.int .i64 e.1, .int .i64 e.2], .slice (some ⟨bf, 0, none⟩) 2 k] w (PutKPost e n ps w) := by
  have hB2 := bl2 w (.cells #[.int .i64 e.1, .int .i64 e.2] 63) (.cells #[.slice (some ⟨bf, 0, none⟩) 2 k] 100)
  go_enter Tryz.func42, Tryz.ntmps42
  go_wp2_with fail
  have hF : FnLkAt 74 #[.pointer (some ⟨w.heap.size, 0, none⟩), .pointer (some ⟨w.heap.size + 1, 0, none⟩)] n ps (fun i => lkLt e (lkAt ps i)) ((w.alloc (.cells #[.int .i64 e.1, .int .i64 e.2] 63)).alloc (.cells #[.slice (some ⟨bf, 0, none⟩) 2 k] 100)) := fun i hi W hW =>
    put1K_any e (lkAt ps i) w.heap.size (w.heap.size + 1) bf k W (cell_later hW (by simp)) (cell_later hW (by simp)) (cell_later hW (by simp)) (cell_later hW (cell_later hB2 hby)) (cell_later hW (cell_later hB2 hby2))
  refine (indexFuncLk_any _ _ x n c ps _ _ (hp.later hB2) (by omega) hF call_put1K).mono ?_
  rintro e' w1 ⟨⟨r, rfl, hr⟩, hb1⟩
  have hB := hB2.trans (hb1.mono (by simp; omega))
  have e0 : w1.cell? ⟨w.heap.size, 0, none⟩ = some (.int .i64 e.1) := (hb1.cell (p := ⟨w.heap.size, 0, none⟩) (by show w.heap.size < _; simp; omega)).trans (by simp)
  have e1 : w1.cell? ⟨w.heap.size, 1, none⟩ = some (.int .i64 e.2) := (hb1.cell (p := ⟨w.heap.size, 1, none⟩) (by show w.heap.size < _; simp; omega)).trans (by simp)
  have hi : ∃ i : Nat, i ≤ n ∧ (∀ j, j < i → lkLt e (lkAt ps j) = false) ∧ (i < n → lkLt e (lkAt ps i) = true) ∧ ((r = i ∧ ¬ r < 0) ∨ (r = -1 ∧ i = n)) := by
    rcases hr with ⟨i, hi, hf, hno, rfl⟩ | ⟨hno, rfl⟩
    · exact ⟨i, by omega, fun j hj => by have := hno j hj; simpa using this, fun _ => by simpa using hf, .inl ⟨rfl, by omega⟩⟩
    · exact ⟨n, by omega, fun j hj => by have := hno j hj; simpa using this, fun h => by omega, .inr ⟨rfl, rfl⟩⟩
  obtain ⟨i, hin, hlow, hup, hri⟩ := hi
  have hrun := hp.runK
  rcases hx with ⟨rfl, rfl⟩ | ⟨b, o, rfl⟩
  · obtain rfl : n = 0 := by omega
    obtain rfl : i = 0 := by omega
    have hps0 := List.eq_nil_of_length_eq_zero hp.len
    rcases hri with ⟨rfl, hneg⟩ | ⟨rfl, hi2⟩
    · go_wp2_with fail
      have hpw := hrun.later hB
      go_region_held3 (fun w' => w'.cell? ⟨w.heap.size, 0, none⟩ = some (.int .i64 e.1) ∧ w'.cell? ⟨w.heap.size, 1, none⟩ = some (.int .i64 e.2)) (first | (go_keep; done) | (exact ⟨cell_later (bl1 _ _) (by assumption), cell_later (bl1 _ _) (by assumption)⟩) | (exact ⟨cell_later hb2 e0, cell_later hb2 e1⟩)) (first | (go_at_call 76; refine (concatK3 none none 0 0 0 0 [] [] e w1 (RunK.empty _ _) (RunK.empty _ _) (by omega) (by omega) (fun _ => ⟨rfl, rfl⟩) (fun _ => ⟨rfl, rfl⟩)).mono ?_; rintro e' w2 ⟨v2, rfl, hb2, hps⟩) | fail)
      all_goals go_wp2
      all_goals go_ret
      all_goals unfold PutKPost
      all_goals exact ⟨_, rfl, hB.trans (hb2.mono hB.size), 0, by omega, fun j hj => by omega, fun h => by omega, by rw [hps0]; exact OwnK.low hps (by have := hB.size; omega)⟩
    · go_wp2_with fail
      have hpw := hrun.later hB
      go_region_held3 (fun w' => w'.cell? ⟨w.heap.size, 0, none⟩ = some (.int .i64 e.1) ∧ w'.cell? ⟨w.heap.size, 1, none⟩ = some (.int .i64 e.2)) (first | (go_keep; done) | (exact ⟨cell_later (bl1 _ _) (by assumption), cell_later (bl1 _ _) (by assumption)⟩) | (exact ⟨cell_later hb2 e0, cell_later hb2 e1⟩)) (first | (go_at_call 76; refine (concatK3 none none 0 0 0 0 [] [] e w1 (RunK.empty _ _) (RunK.empty _ _) (by omega) (by omega) (fun _ => ⟨rfl, rfl⟩) (fun _ => ⟨rfl, rfl⟩)).mono ?_; rintro e' w2 ⟨v2, rfl, hb2, hps⟩) | fail)
      all_goals go_wp2
      all_goals go_ret
      all_goals unfold PutKPost
      all_goals exact ⟨_, rfl, hB.trans (hb2.mono hB.size), 0, by omega, fun j hj => by omega, fun h => by omega, by rw [hps0]; exact OwnK.low hps (by have := hB.size; omega)⟩
  · rcases hri with ⟨rfl, hneg⟩ | ⟨rfl, hi2⟩
    · go_wp2_with fail
      have hic : i ≤ c := by omega
      have hpw := hrun.later hB
      go_region_held3 (fun w' => w'.cell? ⟨w.heap.size, 0, none⟩ = some (.int .i64 e.1) ∧ w'.cell? ⟨w.heap.size, 1, none⟩ = some (.int .i64 e.2)) (first | (go_keep; done) | (exact ⟨cell_later (bl1 _ _) (by assumption), cell_later (bl1 _ _) (by assumption)⟩) | (exact ⟨cell_later hb2 e0, cell_later hb2 e1⟩)) (first | (go_at_call 76; refine (concatK3 (some ⟨b, o, none⟩) (if c = i then some ⟨b, o, none⟩ else some ⟨b, o + i * 2, none⟩) i c (n - i) (c - i) (ps.take i) (ps.drop i) e w1 (hpw.take (by omega)) (hpw.drop (by omega) hnc) (by omega) (by omega) (fun h => by cases h) (fun h => by split at h <;> cases h)).mono ?_; rintro e' w2 ⟨v2, rfl, hb2, hps⟩) | fail)
      all_goals go_wp2
      all_goals go_ret
      all_goals unfold PutKPost
      all_goals exact ⟨_, rfl, hB.trans (hb2.mono hB.size), i, by omega, hlow, hup, OwnK.low hps (by have := hB.size; omega)⟩
    · have hi3 := hi2.symm
      subst hi3
      clear hi2
      by_cases hcn : n = c
      · subst hcn
        go_wp2_with fail
        have hpw := hrun.later hB
        go_region_held3 (fun w' => w'.cell? ⟨w.heap.size, 0, none⟩ = some (.int .i64 e.1) ∧ w'.cell? ⟨w.heap.size, 1, none⟩ = some (.int .i64 e.2)) (first | (go_keep; done) | (exact ⟨cell_later (bl1 _ _) (by assumption), cell_later (bl1 _ _) (by assumption)⟩) | (exact ⟨cell_later hb2 e0, cell_later hb2 e1⟩)) (first | (go_at_call 76; refine (concatK3 (some ⟨b, o, none⟩) (some ⟨b, o, none⟩) n n 0 0 ps [] e w1 hpw (RunK.empty _ _) (by omega) (by omega) (fun h => by cases h) (fun h => by cases h)).mono ?_; rintro e' w2 ⟨v2, rfl, hb2, hps⟩) | fail)
        all_goals go_wp2
        all_goals go_ret
        all_goals unfold PutKPost
        all_goals exact ⟨_, rfl, hB.trans (hb2.mono hB.size), n, by omega, hlow, fun h => by omega, by rw [List.take_of_length_le (by rw [hp.len]; omega), List.drop_eq_nil_of_le (by rw [hp.len]; omega)]; exact OwnK.low hps (by have := hB.size; omega)⟩
      · have hcn' : ¬ c = n := fun h => hcn h.symm
        go_wp2_with fail
        have hpw := hrun.later hB
        go_region_held3 (fun w' => w'.cell? ⟨w.heap.size, 0, none⟩ = some (.int .i64 e.1) ∧ w'.cell? ⟨w.heap.size, 1, none⟩ = some (.int .i64 e.2)) (first | (go_keep; done) | (exact ⟨cell_later (bl1 _ _) (by assumption), cell_later (bl1 _ _) (by assumption)⟩) | (exact ⟨cell_later hb2 e0, cell_later hb2 e1⟩)) (first | (go_at_call 76; refine (concatK3 (some ⟨b, o, none⟩) (some ⟨b, o + n * 2, none⟩) n c 0 (c - n) ps [] e w1 hpw (RunK.empty _ _) (by omega) (by omega) (fun h => by cases h) (fun h => by cases h)).mono ?_; rintro e' w2 ⟨v2, rfl, hb2, hps⟩) | fail)
        all_goals go_wp2
        all_goals go_ret
        all_goals unfold PutKPost
        all_goals exact ⟨_, rfl, hB.trans (hb2.mono hB.size), n, by omega, hlow, fun h => by omega, by rw [List.take_of_length_le (by rw [hp.len]; omega), List.drop_eq_nil_of_le (by rw [hp.len]; omega)]; exact OwnK.low hps (by have := hB.size; omega)⟩
end Go.Proofs.YtlalgkjollgcbaaGreat
/- slices.Delete of one link; link of package net; rows of networks, written over in place; a network of the call's own. -/
namespace Go.Proofs.YtlalgkjollgcbaaGreat
open Go.RowKit Go.Shelf

/-- The first i of them, in the same memory. -/
theorem OwnK.take {w : World} {base g n cap : Nat} {es : List (Int × Int)} (h : OwnK w base (.slice (some ⟨g, 0, none⟩) n cap) es) (i : Nat) (hi : i ≤ es.length) : OwnK w base (.slice (some ⟨g, 0, none⟩) i cap) (es.take i) := by
  rcases h.2 with ⟨hv, -⟩ | ⟨g', cap', cur, hv, h1, h2, h3, h4, h5, h6⟩
  · simp at hv
  · simp only [Value.slice.injEq, Option.some.injEq, Addr.mk.injEq] at hv
    obtain ⟨⟨rfl, -⟩, rfl, rfl⟩ := hv
    have hl : (es.take i).length = i := by rw [List.length_take]; omega
    refine ⟨flatK_len _, .inr ⟨g, cap, cur, by rw [hl], h1, h2, by rw [hl]; omega, h4, h5, ?_⟩⟩
    have e : flatK es = flatK (es.take i) ++ flatK (es.drop i) := by rw [← flatK_app, List.take_append_drop]
    have e2 : (flatK (es.take i)).length = i * 2 := by rw [flatK_len, hl]
    rw [hl]
    have h7 : (cur.toList.take (es.length * 2)).take (i * 2) = (flatK es).take (i * 2) := by rw [h6]
    rw [List.take_take, show min (i * 2) (es.length * 2) = i * 2 by omega] at h7
    rw [h7]
    conv => lhs; rw [e]
    rw [← e2]
    exact List.take_left'  rfl
theorem zero_K (w : World) : (zeroValue 63).run Tryz.prog w = .ok (.agg #[.int .i64 0, .int .i64 0]) w := by
  obtain ⟨i0, hi, hz0, hz1, hz2⟩ := info_K'
  simp [zeroValue, typeInfo, hi, hz0]
theorem clearK_run {w : World} {base g m cap : Nat} {es : List (Int × Int)} (hO : OwnK w base (.slice (some ⟨g, 0, none⟩) m cap) es) (n c : Nat) (hn : 0 < n) (hm : es.length + n ≤ cap) (ty : TypeId) :
    ∃ w', (Builtin.clear_ #[23] ty #[.slice (some ⟨g, es.length * 2, none⟩) n c]).run Tryz.prog w = .ok (.tuple #[]) w' ∧ OwnK w' base (.slice (some ⟨g, 0, none⟩) m cap) es ∧ w.grownBy w' (some g) := by
  rcases hO.2 with ⟨hv, -⟩ | ⟨g', cap', cur, hv, h1, h2, h3, h4, h5, h6⟩
  · simp at hv
  simp only [Value.slice.injEq, Option.some.injEq, Addr.mk.injEq] at hv
  obtain ⟨⟨rfl, -⟩, rfl, rfl⟩ := hv
  obtain ⟨zs, hzs⟩ : ∃ zs, zs = (Builtin.zeroCells (Value.agg #[.int .i64 0, .int .i64 0]).cells n).toList := ⟨_, rfl⟩
  have hzl : zs.length = n * 2 := by rw [hzs, Array.length_toList, size_zeroCells]; rfl
  have hz1 : ∀ v ∈ zs, v.oneCell' = true := by
    intro v hv
    rw [hzs] at hv
    simp [Builtin.zeroCells] at hv
    obtain ⟨j, -, rfl⟩ := hv
    have h8 : j % 2 < 2 := Nat.mod_lt _ (by decide)
    show (#[Value.int .i64 0, .int .i64 0][j % 2]!).oneCell' = true
    generalize j % 2 = q at h8
    rcases q with _ | _ | q
    · rfl
    · rfl
    · exact absurd h8 (by omega)
  have h5' : cur.toList.length = cap * 2 := by simpa using h5
  have hst := run_storeCells_at (P := Tryz.prog) g (es.length * 2) 63 zs 0 cur w h2 (by rw [hzl]; omega) hz1
  simp only [Nat.add_zero] at hst
  have hls : (cur.toList.take (es.length * 2)).length = es.length * 2 := by rw [List.length_take, h5']; omega
  refine ⟨w.setRow g (cur.toList.take (es.length * 2) ++ zs ++ cur.toList.drop (es.length * 2 + zs.length)).toArray, ?_, ⟨flatK_len _, .inr ⟨g, cap, (cur.toList.take (es.length * 2) ++ zs ++ cur.toList.drop (es.length * 2 + zs.length)).toArray, rfl, h1, setRow_heap w g cur _ _ _ h2, h3, h4, ?_, ?_⟩⟩, ?_⟩
  · obtain ⟨k, rfl⟩ : ∃ k, n = k + 1 := ⟨n - 1, by omega⟩
    simp [Builtin.clear_, run_underlying under_K, ← hzs, hst]
  · simp only [List.size_toArray, List.length_append, hls, hzl, List.length_drop, h5']
    omega
  · rw [List.append_assoc, List.take_append_of_le_length (by rw [hls]; exact Nat.le_refl _), List.take_of_length_le (by rw [hls]; exact Nat.le_refl _)]
    exact h6
  · exact ⟨rfl, rfl, rfl, by simp, fun k _ hne => setRow_other w g k _ (fun e => hne (by rw [e]))⟩

theorem OwnK.drew {w : World} {base : Nat} {v : Value} {es : List (Int × Int)} (h : OwnK w base v es) : OwnK w.drew base v es := h.later (Below.refl _ _).drew
set_option maxRecDepth 20000 in
set_option maxHeartbeats 400000 in
theorem deleteK_any (base g k cap i j : Nat) (es : List (Int × Int)) (w : World) (hO : OwnK w base (.slice (some ⟨g, 0, none⟩) (k + 1) cap) es) (hn : es.length = k + 1) (hi : i ≤ k) (hj : j = i + 1) (hn64 : k ≤ 64) (hnc : k + 1 ≤ cap) (hcm : cap ≤ 9223372036854775807) :
    Calls Tryz.prog 46 #[.slice (some ⟨g, 0, none⟩) (k + 1) cap, .int .i64 i, .int .i64 j] w fun e w' => e = .returned (.slice (some ⟨g, 0, none⟩) k cap) ∧ OwnK w' base (.slice (some ⟨g, 0, none⟩) k cap) (es.take i ++ es.drop j) ∧ w.grownBy w' (some g) := by
  obtain ⟨i0, hi0, hz0, hz1, hz2⟩ := info_K'
  have b1 : (0 : Int) ≤ i := by omega
  have b2 : (0 : Int) ≤ j := by omega
  have b3 : (i : Int) ≤ j := by omega
  have b4 : (j : Int) ≤ (k : Int) + 1 := by omega
  have b5 : (k : Int) + 1 ≤ cap := by omega
  have b6 : ¬ (i : Int) = j := by omega
  have b7 : (i : Int) ≤ cap := by omega
  have b8 : (k : Int) ≤ (k : Int) + 1 := by omega
  have c1 : i ≤ j := by omega
  have c2 : j ≤ k + 1 := by omega
  have c3 : i ≤ cap := by omega
  have c4 : ¬ i = j := by omega
  have c5 : ¬ cap = k := by omega
  have hlt : (es.take i).length = i := by rw [List.length_take]; omega
  have hld : (es.drop j).length = k + 1 - j := by rw [List.length_drop]; omega
  have hle : (es.take i ++ es.drop j).length = k := by rw [List.length_append, hlt, hld]; omega
  have hOi := (hO.take i (by omega)).drew
  unfold OwnK at hOi
  rw [hlt] at hOi
  have Run_X : RunK w (some ⟨g, 0, none⟩) (k + 1) es := ⟨hn, fun _ => by simp, fun ad hx q u hq => by cases hx; exact World.ownsRow.cells hO (g := g) rfl q u hq⟩
  have hrun := (Run_X.later (Below.refl _ _).drew).drop (i := j) c2 hnc
  have hik : i + (k + 1 - j) = k := by omega
  have hfin : ∃ wa wb, (∀ q c', ((cap = j ∧ q = 0 ∧ c' = 0) ∨ (¬ cap = j ∧ q = j * 2 ∧ c' = cap - j)) → (Builtin.append_ #[23, 23] 23 #[.slice (some ⟨g, 0, none⟩) i cap, .slice (some ⟨g, q, none⟩) (k + 1 - j) c']).run Tryz.prog w.drew = .ok (.slice (some ⟨g, 0, none⟩) k cap) wa) ∧
      (∀ ty, (Builtin.clear_ #[23] ty #[.slice (some ⟨g, k * 2, none⟩) 1 (cap - k)]).run Tryz.prog wa = .ok (.tuple #[]) wb) ∧ OwnK wb base (.slice (some ⟨g, 0, none⟩) k cap) (es.take i ++ es.drop j) ∧ w.grownBy wb (some g) := by
    by_cases hcj : cap = j
    · rw [if_pos hcj] at hrun
      obtain ⟨wa, h1, h2, h3⟩ := run_append_own_spare (P := Tryz.prog) w.drew base 23 23 63 i0 2 under_K hi0 hz1 g i cap _ hOi ⟨g, 0, none⟩ (k + 1 - j) 0 (flatK (es.drop j)) (by rw [flatK_len, hld]) (hrun.2.2 _ rfl) (flatK_one _) (by omega)
      rw [hik] at h1 h2
      have hO2 : OwnK wa base (.slice (some ⟨g, 0, none⟩) k cap) (es.take i ++ es.drop j) := by unfold OwnK; rw [flatK_app, hle]; exact h2
      obtain ⟨wb, h4, h5, h6⟩ := clearK_run hO2 1 (cap - k) (by omega) (by omega) 0
      rw [hle] at h4
      refine ⟨wa, wb, fun q c' h => ?_, fun ty => h4, h5, ⟨h6.os.trans h3.os, h6.tape.trans h3.tape, h6.output.trans h3.output, Nat.le_trans h3.size h6.size, fun m hm hne => (h6.block m (Nat.lt_of_lt_of_le hm h3.size) hne).trans (h3.block m hm hne)⟩⟩
      rcases h with ⟨-, rfl, rfl⟩ | ⟨h, -⟩
      · exact h1
      · exact absurd hcj h
    · rw [if_neg hcj, Nat.zero_add] at hrun
      obtain ⟨wa, h1, h2, h3⟩ := run_append_own_spare (P := Tryz.prog) w.drew base 23 23 63 i0 2 under_K hi0 hz1 g i cap _ hOi ⟨g, j * 2, none⟩ (k + 1 - j) (cap - j) (flatK (es.drop j)) (by rw [flatK_len, hld]) (hrun.2.2 _ rfl) (flatK_one _) (by omega)
      rw [hik] at h1 h2
      have hO2 : OwnK wa base (.slice (some ⟨g, 0, none⟩) k cap) (es.take i ++ es.drop j) := by unfold OwnK; rw [flatK_app, hle]; exact h2
      obtain ⟨wb, h4, h5, h6⟩ := clearK_run hO2 1 (cap - k) (by omega) (by omega) 0
      rw [hle] at h4
      refine ⟨wa, wb, fun q c' h => ?_, fun ty => h4, h5, ⟨h6.os.trans h3.os, h6.tape.trans h3.tape, h6.output.trans h3.output, Nat.le_trans h3.size h6.size, fun m hm hne => (h6.block m (Nat.lt_of_lt_of_le hm h3.size) hne).trans (h3.block m hm hne)⟩⟩
      rcases h with ⟨h, -⟩ | ⟨-, rfl, rfl⟩
      · exact absurd h hcj
      · exact h1
  obtain ⟨wa, wb, hap, hcl, hOb, hgb⟩ := hfin
  have hij : Hid (j = i + 1) := hj
  clear hrun hOi hle hld hlt hik hn hO hz0 hz1 hz2 hi0 hj
  by_cases hcj : cap = j
  · have hap1 := hap 0 0 (.inl ⟨hcj, rfl, rfl⟩)
    clear hap
    obtain rfl : i = k := by have := hij.out; omega
    obtain rfl : cap = i + 1 := by have := hij.out; omega
    obtain rfl : j = i + 1 := hcj.symm
    clear hij hcj b1 b2 b3 b4 b5 b6 b7 b8 c1 c2 c3 c4 c5
    rw [show i + 1 - (i + 1) = 0 by omega] at hap1
    simp [go_sem] at hap1
    rw [show i + 1 - i = 1 by omega] at hcl
    subst hap1
    go_enter Tryz.func46, Tryz.ntmps46
    go_upto_region 5 with fail
    go_region_with fail
    all_goals go_wp2
    all_goals go_ret
    all_goals exact ⟨rfl, hOb, hgb⟩
  · have hap1 := hap _ _ (.inr ⟨hcj, rfl, rfl⟩)
    have hcj' : ¬ j = cap := fun h => hcj h.symm
    clear hap
    simp [go_sem] at hap1
    go_enter Tryz.func46, Tryz.ntmps46
    go_upto_region 5 with fail
    go_region_with fail
    all_goals go_wp2
    all_goals go_ret
    all_goals exact ⟨rfl, hOb, hgb⟩
theorem OwnV.frozen {w : World} {base g n cap : Nat} {fs : List Vn} (h : OwnV w base (.slice (some ⟨g, 0, none⟩) n cap) fs) (i : Nat) : w.frozen? ⟨g, i, none⟩ = false := by
  rcases h.2 with ⟨hv, -⟩ | ⟨g', cap', cur, hv, h1, h2, -⟩
  · simp at hv
  · simp only [Value.slice.injEq, Option.some.injEq, Addr.mk.injEq] at hv
    obtain ⟨⟨rfl, -⟩, -, rfl⟩ := hv
    simp [World.frozen?, h2]
theorem OwnV.block {w : World} {base g n cap : Nat} {fs : List Vn} (h : OwnV w base (.slice (some ⟨g, 0, none⟩) n cap) fs) : base ≤ g ∧ ∃ cur, w.heap[g]? = some (.cells cur 52) := by
  rcases h.2 with ⟨hv, -⟩ | ⟨g', cap', cur, hv, h1, h2, -⟩
  · simp at hv
  · simp only [Value.slice.injEq, Option.some.injEq, Addr.mk.injEq] at hv
    obtain ⟨⟨rfl, -⟩, -, rfl⟩ := hv
    exact ⟨h1, cur, h2⟩
theorem OwnV.cells {w : World} {base g n cap : Nat} {fs : List Vn} (h : OwnV w base (.slice (some ⟨g, 0, none⟩) n cap) fs) (q : Nat) (hq : q < fs.length) :
    w.cell? ⟨g, q * 3, none⟩ = some (.int .i64 (vnAt fs q).id) ∧ w.cell? ⟨g, q * 3 + 1, none⟩ = some (.slice (vnAt fs q).rx (vnAt fs q).rn (vnAt fs q).rc) ∧ w.cell? ⟨g, q * 3 + 2, none⟩ = some (.slice (vnAt fs q).sx (vnAt fs q).sn (vnAt fs q).sc) := by
  obtain ⟨x2, c2, he2, -, -, -, hm'⟩ := h.mem
  simp only [Value.slice.injEq] at he2
  obtain ⟨b2, o2, he3, c7, c8, c9⟩ := hm' q hq
  rw [← he2.1] at he3
  simp only [Option.some.injEq, Addr.mk.injEq] at he3
  obtain ⟨rfl, rfl, -⟩ := he3
  exact ⟨by simpa using c7, by simpa using c8, by simpa using c9⟩
/-- A row that is not empty has a block. -/
theorem OwnV.held {w : World} {base : Nat} {v : Value} {fs : List Vn} (h : OwnV w base v fs) (hf : 0 < fs.length) : ∃ g cap, v = .slice (some ⟨g, 0, none⟩) fs.length cap := by
  rcases h.2 with ⟨-, h0⟩ | ⟨g, cap, cur, hv, -⟩
  · omega
  · exact ⟨g, cap, hv⟩
theorem vnAt_setN {fs : List Vn} {i : Nat} (hi : i < fs.length) (e : Vn) (j : Nat) : vnAt (fs.set i e) j = if i = j then e else vnAt fs j := by
  unfold vnAt
  rw [List.getD_eq_getElem?_getD, List.getElem?_set, List.getD_eq_getElem?_getD]
  by_cases h : i = j
  · subst h
    rw [if_pos rfl, if_pos rfl, if_pos hi]
    rfl
  · rw [if_neg h, if_neg h]
theorem flatV_setN (fs : List Vn) (i : Nat) (e : Vn) (hi : i < fs.length) : (((flatV fs).set (i * 3) (.int .i64 e.id)).set (i * 3 + 1) (.slice e.rx e.rn e.rc)).set (i * 3 + 2) (.slice e.sx e.sn e.sc) = flatV (fs.set i e) := by
  refine List.ext_getElem? fun j => ?_
  by_cases hj : j < fs.length * 3
  · have e1 : j = (j / 3) * 3 + j % 3 := by omega
    have hq : j / 3 < fs.length := by omega
    rw [e1, flatV_at _ _ _ (by rw [List.length_set]; exact hq) (by omega), vnAt_setN hi, List.getElem?_set, List.length_set, List.length_set, List.getElem?_set, List.length_set, List.getElem?_set, flatV_len]
    by_cases h1 : i = j / 3
    · rw [if_pos h1]
      have h3 : j % 3 = 0 ∨ j % 3 = 1 ∨ j % 3 = 2 := by omega
      rcases h3 with h3 | h3 | h3
      · rw [if_neg (by omega), if_neg (by omega), if_pos (by omega), if_pos (by omega), h3]
        rfl
      · rw [if_neg (by omega), if_pos (by omega), if_pos (by omega), h3]
        rfl
      · rw [if_pos (by omega), if_pos (by omega), h3]
        rfl
    · rw [if_neg h1, if_neg (by omega), if_neg (by omega), if_neg (by omega), flatV_at _ _ _ hq (by omega)]
  · rw [List.getElem?_eq_none (by rw [List.length_set, List.length_set, List.length_set, flatV_len]; omega), List.getElem?_eq_none (by rw [flatV_len, List.length_set]; omega)]
/-- The world with a network of a row written over. -/
def setN (w : World) (g i : Nat) (e : Vn) : World := ((w.setCell ⟨g, i * 3, none⟩ (.int .i64 e.id)).setCell ⟨g, i * 3 + 1, none⟩ (.slice e.rx e.rn e.rc)).setCell ⟨g, i * 3 + 2, none⟩ (.slice e.sx e.sn e.sc)
theorem OwnV.setE {w : World} {base g n cap : Nat} {fs : List Vn} (h : OwnV w base (.slice (some ⟨g, 0, none⟩) n cap) fs) (i : Nat) (hi : i < fs.length) (e : Vn) :
    OwnV (setN w g i e) base (.slice (some ⟨g, 0, none⟩) n cap) (fs.set i e) := by
  rcases h.2 with ⟨hv, -⟩ | ⟨g', cap', cur, hv, h1, h2, h3, h4, h5, h6⟩
  · simp at hv
  · simp only [Value.slice.injEq, Option.some.injEq, Addr.mk.injEq] at hv
    obtain ⟨⟨rfl, -⟩, rfl, rfl⟩ := hv
    refine ⟨flatV_len _, .inr ⟨g, cap, ((cur.setIfInBounds (i * 3) (.int .i64 e.id)).setIfInBounds (i * 3 + 1) (.slice e.rx e.rn e.rc)).setIfInBounds (i * 3 + 2) (.slice e.sx e.sn e.sc), by rw [List.length_set], h1, heap_setCell_same _ g _ _ _ _ (heap_setCell_same _ g _ _ _ _ (heap_setCell_same w g _ _ _ _ h2)), by rw [List.length_set]; exact h3, h4, by simpa using h5, ?_⟩⟩
    rw [List.length_set, Array.toList_setIfInBounds, Array.toList_setIfInBounds, Array.toList_setIfInBounds, List.take_set, List.take_set, List.take_set, h6, flatV_setN fs i e hi]
theorem setN_box {w : World} {g i b : Nat} {e : Vn} (h : b ≠ g) : (setN w g i e).heap[b]? = w.heap[b]? :=
  (heap_setCell_other _ _ _ _ h).trans ((heap_setCell_other _ _ _ _ h).trans (heap_setCell_other _ _ _ _ h))
theorem setN_size {w : World} {g i : Nat} {e : Vn} : (setN w g i e).heap.size = w.heap.size := by simp [setN]
theorem setN_below {w W : World} {n g i : Nat} {e : Vn} (h : Below n w W) (hg : n ≤ g) : Below n w (setN W g i e) :=
  ((h.setCell (p := ⟨g, i * 3, none⟩) hg _).setCell (p := ⟨g, i * 3 + 1, none⟩) hg _).setCell (p := ⟨g, i * 3 + 2, none⟩) hg _

set_option maxRecDepth 20000 in
theorem netLink_any (a b : Int) (w : World) :
    Calls Tryz.prog 41 #[.int .i64 a, .int .i64 b] w fun e w' => e = .returned (.agg #[.int .i64 (min a b), .int .i64 (max a b)]) ∧ Below w.heap.size w w' := by
  go_enter Tryz.func41, Tryz.ntmps41
  go_wp2
  refine bodyPost_ret (v := .agg #[.int .i64 (min a b), .int .i64 (max a b)]) (by simp [results, Tryz.results41, go_sem]) rfl ⟨rfl, ?_⟩
  exact bl1 _ _
/-- A network's ranges and subnets are in memory of the call's own. -/
def Von (w : World) (base : Nat) (v : Vn) : Prop := OwnR w base (.slice v.rx v.rn v.rc) v.rs ∧ OSs w base (.slice v.sx v.sn v.sc) v.ss v.ss.length
theorem Von.later {w w' : World} {base : Nat} {v : Vn} (h : Von w base v) (hb : Below w.heap.size w w') : Von w' base v := ⟨OwnR.later h.1 hb, h.2.later hb⟩
theorem Von.low {w : World} {base base' : Nat} {v : Vn} (h : Von w base v) (hb : base' ≤ base) : Von w base' v := ⟨h.1.low hb, h.2.low hb⟩
theorem Von.putBox {w : World} {base b o : Nat} {u : Value} {v : Vn} {cs : Array Value} {t : TypeId} (h : Von w base v) (hb : w.heap[b]? = some (.cells cs t)) (h0 : t ≠ 29) (h1 : t ≠ 90) (h2 : t ≠ 99) (h3 : t ≠ 3) : Von (w.setCell ⟨b, o, none⟩ u) base v :=
  ⟨h.1.putBox hb h0, h.2.putBox hb h1 h2 h3⟩
theorem Von.put {w : World} {base b o : Nat} {u : Value} {v : Vn} (h : Von w base v) (hb : b < base) : Von (w.setCell ⟨b, o, none⟩ u) base v := ⟨h.1.put hb, h.2.put hb⟩
theorem Von.vp {w : World} {base : Nat} {v : Vn} (h : Von w base v) : v.rn ≤ 9223372036854775807 ∧ v.sn ≤ 9223372036854775807 ∧ v.rc ≤ 9223372036854775807 ∧ Vp w v.rx v.rn v.rc v.rs v.sx v.sn v.sc v.ss := by
  obtain ⟨x1, c1, e1, h1, h2, h3⟩ := h.1.rs
  obtain ⟨x2, c2, e2, g1, g2, g3⟩ := h.2.subs
  simp only [Value.slice.injEq] at e1 e2
  obtain ⟨rfl, hrn, rfl⟩ := e1
  obtain ⟨rfl, hsn, rfl⟩ := e2
  rw [hrn, hsn]
  exact ⟨by omega, by omega, h3, ⟨h2, g2, h1, g1⟩⟩
/-- The same but for where it lies. -/
def sameV (v u : Vn) : Prop := v.id = u.id ∧ v.rn = u.rn ∧ v.rs = u.rs ∧ v.sn = u.sn ∧ sameSs v.ss u.ss
def sameVs (vs us : List Vn) : Prop := vs.length = us.length ∧ ∀ i, i < vs.length → sameV (vnAt vs i) (vnAt us i)
theorem sameV.refl (v : Vn) : sameV v v := ⟨rfl, rfl, rfl, rfl, sameSs.refl _⟩
theorem sameVs.refl (vs : List Vn) : sameVs vs vs := ⟨rfl, fun _ _ => sameV.refl _⟩
theorem sameVs.set {vs us : List Vn} {k : Nat} {u : Vn} (h : sameVs vs us) (hk : k < us.length) (hu : sameV (vnAt vs k) u) : sameVs vs (us.set k u) := by
  refine ⟨by rw [List.length_set]; exact h.1, fun i hi => ?_⟩
  rw [vnAt_setN hk]
  split
  · rename_i e
    rw [← e]
    exact hu
  · exact h.2 i hi
/-- Stores into a row of networks leave networks of the call's own as they are. -/
theorem Von.setN {w : World} {base base' g n cap k : Nat} {e v : Vn} {fs : List Vn} (h : Von w base v) (hO : OwnV w base' (.slice (some ⟨g, 0, none⟩) n cap) fs) : Von (setN w g k e) base v := by
  obtain ⟨-, cur, hg⟩ := hO.block
  have h1 := h.putBox (o := k * 3) (u := .int .i64 e.id) hg (by decide) (by decide) (by decide) (by decide)
  have g1 := heap_setCell_same w g (k * 3) _ _ (.int .i64 e.id) hg
  have h2 := h1.putBox (o := k * 3 + 1) (u := .slice e.rx e.rn e.rc) g1 (by decide) (by decide) (by decide) (by decide)
  have g2 := heap_setCell_same _ g (k * 3 + 1) _ _ (.slice e.rx e.rn e.rc) g1
  exact h2.putBox (o := k * 3 + 2) (u := .slice e.sx e.sn e.sc) g2 (by decide) (by decide) (by decide) (by decide)
theorem OwnK.setN {w : World} {base base' g n cap k : Nat} {e : Vn} {v : Value} {ls : List (Int × Int)} {fs : List Vn} (h : OwnK w base v ls) (hO : OwnV w base' (.slice (some ⟨g, 0, none⟩) n cap) fs) : OwnK (setN w g k e) base v ls := by
  obtain ⟨-, cur, hg⟩ := hO.block
  have h1 : OwnK (w.setCell ⟨g, k * 3, none⟩ (.int .i64 e.id)) base v ls := h.kept (set_grown _ _ _ _) (fun q hq e => by subst e; exact h.ne hg (by decide) hq)
  have g1 := heap_setCell_same w g (k * 3) _ _ (.int .i64 e.id) hg
  have h2 : OwnK ((w.setCell ⟨g, k * 3, none⟩ (.int .i64 e.id)).setCell ⟨g, k * 3 + 1, none⟩ (.slice e.rx e.rn e.rc)) base v ls := h1.kept (set_grown _ _ _ _) (fun q hq e => by subst e; exact h1.ne g1 (by decide) hq)
  have g2 := heap_setCell_same _ g (k * 3 + 1) _ _ (.slice e.rx e.rn e.rc) g1
  exact h2.kept (set_grown _ _ _ _) (fun q hq e => by subst e; exact h2.ne g2 (by decide) hq)
theorem OwnV.put {w : World} {base b o : Nat} {u v : Value} {vs : List Vn} (h : OwnV w base v vs) (hb : b < base) : OwnV (w.setCell ⟨b, o, none⟩ u) base v vs :=
  h.kept (set_grown _ _ _ _) (fun k hk => by have := h.lt k hk; omega)
theorem OwnK.put {w : World} {base b o : Nat} {u v : Value} {ls : List (Int × Int)} (h : OwnK w base v ls) (hb : b < base) : OwnK (w.setCell ⟨b, o, none⟩ u) base v ls :=
  h.kept (set_grown _ _ _ _) (fun k hk => by have := h.lt k hk; omega)
end Go.Proofs.YtlalgkjollgcbaaGreat
/- Net of package fresh. -/
namespace Go.Proofs.YtlalgkjollgcbaaGreat
open Go.RowKit Go.Shelf

abbrev netB (v l : Value) : Obj := .cells #[v, l] 25
theorem net_put {w0 w2 : World} {b : Nat} {vV vK : Value} {vs : List Vn} {ls : List (Int × Int)} (hy : w2.heap[b]? = some (netB (.slice none 0 0) (.slice none 0 0))) (hb : w0.heap.size ≤ b) (hO1 : OwnV w2 w0.heap.size vV vs) (hO2 : OwnK w2 w0.heap.size vK ls) (hB : Below w0.heap.size w0 w2) :
    OwnV ((w2.setCell ⟨b, 0, none⟩ vV).setCell ⟨b, 1, none⟩ vK) w0.heap.size vV vs ∧ OwnK ((w2.setCell ⟨b, 0, none⟩ vV).setCell ⟨b, 1, none⟩ vK) w0.heap.size vK ls ∧ ((w2.setCell ⟨b, 0, none⟩ vV).setCell ⟨b, 1, none⟩ vK).heap[b]? = some (netB vV vK) ∧ Below w0.heap.size w0 ((w2.setCell ⟨b, 0, none⟩ vV).setCell ⟨b, 1, none⟩ vK) := by
  have n1 : ∀ k, vV.ownBlock = some k → k ≠ b := fun k hk e => by subst e; exact hO1.ne hy (by decide) hk
  have n2 : ∀ k, vK.ownBlock = some k → k ≠ b := fun k hk e => by subst e; exact hO2.ne hy (by decide) hk
  refine ⟨(hO1.kept (set_grown _ _ _ _) n1).kept (set_grown _ _ _ _) n1, (hO2.kept (set_grown _ _ _ _) n2).kept (set_grown _ _ _ _) n2, ?_, (hB.setCell hb _).setCell hb _⟩
  have h1 := heap_setCell_same w2 b 0 _ _ vV hy
  have h2 := heap_setCell_same _ b 1 _ _ vK h1
  simpa using h2
/-- What comes is the same, in memory of the call's own. -/
def FnPost (vs : List Vn) (ls : List (Int × Int)) (w : World) (e : Ending) (w' : World) : Prop :=
  ∃ vV vK us, e = .returned (.agg #[vV, vK]) ∧ sameVs vs us ∧ OwnV w' w.heap.size vV us ∧ (∀ i, i < us.length → Von w' w.heap.size (vnAt us i)) ∧ OwnK w' w.heap.size vK ls ∧ Below w.heap.size w w'
/-- A right network is a small one. -/
def FewV (v : Vn) : Prop := v.rn ≤ 64 ∧ v.sn ≤ 64 ∧ (∀ i, i < v.sn → (sbAt v.ss i).n ≤ 64) ∧ ∀ i, i < v.sn → ∀ j, j < (sbAt v.ss i).n → (fcAt (sbAt v.ss i).fs j).n ≤ 64

def FnMid (vs : List Vn) (ls : List (Int × Int)) (n ln nb : Nat) (xv : Option Addr) (cv : Nat) (xl : Option Addr) (cl : Nat) (w0 : World) (i : Value) (wr : World) : Prop := ∃ (q : Nat) (us : List Vn), q ≤ n ∧ i = .int .i64 q ∧ sameVs vs us ∧ (∀ i, q ≤ i → vnAt us i = vnAt vs i) ∧ OwnV wr w0.heap.size (.slice xv n cv) us ∧ (∀ i, i < q → Von wr w0.heap.size (vnAt us i)) ∧ OwnK wr w0.heap.size (.slice xl ln cl) ls ∧ wr.heap[nb]? = some (netB (.slice xv n cv) (.slice xl ln cl)) ∧ Below w0.heap.size w0 wr

set_option maxRecDepth 100000 in
set_option maxHeartbeats 6400000 in
theorem freshNet_any (x : Option Addr) (n c : Nat) (vs : List Vn) (lx : Option Addr) (ln lc : Nat) (ls : List (Int × Int)) (w : World) (hp : VS w x n vs) (hn : n ≤ 64) (hl : PS w lx ln ls) (hln : ln ≤ 64) (hfew : ∀ i, i < n → FewV (vnAt vs i)) :
    Calls Tryz.prog 26 #[.agg #[.slice x n c, .slice lx ln lc]] w (FnPost vs ls w) := by
  have hvl : Hid (vs.length = n) := hp.len
  have hll : Hid (ls.length = ln) := hl.len
  go_enter Tryz.func26, Tryz.ntmps26
  go_upto_region 1 with fail
  obtain ⟨w0, hw0⟩ : ∃ w0, w0 = (w.alloc (netO x n c lx ln lc)).alloc (netB (.slice none 0 0) (.slice none 0 0)) := ⟨_, rfl⟩
  rw [← hw0]
  have hB0 : Below w.heap.size w w0 := by rw [hw0]; exact bl2 w _ _
  have hb0 : w0.heap[w.heap.size]? = some (netO x n c lx ln lc) := by rw [hw0]; exact heap_old _ (heap_new _ rfl)
  have hr0 : w0.heap[w.heap.size + 1]? = some (netB (.slice none 0 0) (.slice none 0 0)) := by rw [hw0]; exact heap_new _ (by simp)
  clear hw0
  have hsz : w.heap.size + 1 < w0.heap.size := (Array.getElem?_eq_some_iff.1 hr0).1
  have hp0 := hp.later hB0
  have hl0 := hl.later hB0
  have a0 := Ws.here (show w0.cell? ⟨w.heap.size, 0, none⟩ = some (.slice x n c) from (box_cells hb0).1 0)
  have a1 := Ws.here (show w0.cell? ⟨w.heap.size, 1, none⟩ = some (.slice lx ln lc) from (box_cells hb0).1 1)
  go_cut [3] (fun p wc => ∃ nb vV vK, p = .pointer (some ⟨nb, 0, none⟩) ∧ w0.heap.size ≤ nb ∧ OwnV wc w0.heap.size vV vs ∧ OwnK wc w0.heap.size vK ls ∧ wc.heap[nb]? = some (netB vV vK) ∧ Below w0.heap.size w0 wc)
  case first =>
    have hbd : Below w0.heap.size w0 w0.drew := (Below.refl _ _).drew
    refine wp_region_V (fun w' => ∃ u : Ws w0.heap.size w0, w' = u.val) (fun j => decide (j < 8)) 9 _ (by kernel_rfl) rfl rfl ?_
    refine wpV_takes 5 [0, 1, 3, 4] rfl _ rfl (by kernel_rfl) (fun d _ _ _ _ h => by cases d <;> exact h) ⟨⟨_, hbd⟩, rfl⟩ ?_
    simp only [List.map_cons, List.map_nil, List.getD_cons_zero, List.getD_cons_succ]
    repeat (go_big_quiet_step (fail))
    refine wpQuiet_nil ?_
    clear a0 a1
    refine wpV_two 2 7 _ _ _ _ (by kernel_rfl) (by kernel_rfl) rfl rfl rfl rfl ?_ ?_
    · intro K hK
      simp only [List.getD_cons_zero, List.getD_cons_succ]
      go_wp2_with fail
      refine (cloneV_any x n c vs w0.drew (hp0.later hbd) (by omega)).mono ?_
      rintro e w1 ⟨v1, rfl, hO1, hb1⟩
      obtain ⟨x1, c1, hv1, -⟩ := hO1.mem
      subst hv1
      have hB1 : Below w0.heap.size w0 w1 := ⟨hb1.os, hb1.tape, hb1.output, hb1.size, hb1.block⟩
      go_wp2_with fail
      refine wildK_normal (hK.out _ _ ⟨⟨_, hB1⟩, rfl⟩ ?_)
      clear hK K
      refine wpV_two 5 7 _ _ _ _ (by kernel_rfl) (by kernel_rfl) rfl rfl rfl rfl ?_ ?_
      · intro K hK
        simp only [List.getD_cons_zero, List.getD_cons_succ]
        go_wp2_with fail
        refine (cloneK_any lx ln lc ls w1 (hl0.later hB1) (by omega)).mono ?_
        rintro e w2 ⟨v2, rfl, hO2, hb2⟩
        obtain ⟨x2, c2, hv2, -⟩ := hO2.mem
        subst hv2
        have hB2 : Below w0.heap.size w0 w2 := hB1.trans (hb2.mono hB1.size)
        go_wp2_with fail
        refine wildK_normal (hK.out _ _ ⟨⟨_, hB2⟩, rfl⟩ ?_)
        clear hK K

        refine wpV_takes 2 [6] rfl _ rfl (by kernel_rfl) (fun d _ _ _ _ h => by cases d <;> exact h) ⟨⟨_, hB2⟩, rfl⟩ ?_
        simp only [List.map_cons, List.map_nil, List.getD_cons_zero, List.getD_cons_succ]
        repeat (go_big_quiet_step (fail))
        refine wpQuiet_nil ?_

        refine wpV_one 7 _ _ (by kernel_rfl) (by kernel_rfl) rfl rfl ?_
        intro K hK
        simp only [List.getD_cons_zero, List.getD_cons_succ]
        go_wp2_with fail
        have hB3 : Below w0.heap.size w0 (w2.alloc (netB (.slice none 0 0) (.slice none 0 0))) := hB2.trans ((bl1 w2 _).mono hB2.size)
        refine wildK_normal (hK.out _ _ ⟨⟨_, hB3⟩, rfl⟩ ?_)
        clear hK K

        obtain ⟨w3, hw3⟩ : ∃ w3, w3 = w2.alloc (netB (.slice none 0 0) (.slice none 0 0)) := ⟨_, rfl⟩
        rw [← hw3] at hB3 ⊢
        have h23 : Below w2.heap.size w2 w3 := by rw [hw3]; exact bl1 w2 _
        have hy : w3.heap[w2.heap.size]? = some (netB (.slice none 0 0) (.slice none 0 0)) := by rw [hw3]; exact heap_new _ rfl
        clear hw3
        have hnb : w0.heap.size ≤ w2.heap.size := hB2.size
        have hO1' := ((hO1.low (base' := w0.heap.size) (Nat.le_refl _)).later hb2).later h23
        have hO2' := (hO2.low (base' := w0.heap.size) hB1.size).later h23
        have hBf := hB3

        refine wpV_tail [8] rfl (by kernel_rfl) ?_
        simp only [List.map_cons, List.map_nil, List.getD_cons_zero, List.getD_cons_succ]
        have q0 := (box_cells hy).1 0
        have q1 := (box_cells hy).1 1
        have f0 := (box_cells hy).2 0
        have f1 := (box_cells hy).2 1
        simp only [List.getElem?_toArray, List.getElem?_cons_zero, List.getElem?_cons_succ] at q0 q1
        go_wp2_with fail
        go_meet
        case rel => exact ⟨_, _, _, rfl, hnb, net_put hy hnb hO1' hO2' hBf⟩
      · intro K hK
        simp only [List.getD_cons_zero, List.getD_cons_succ]
        go_wp2_with fail
        have hB2 : Below w0.heap.size w0 (w1.alloc (netB (.slice none 0 0) (.slice none 0 0))) := hB1.trans ((bl1 w1 _).mono hB1.size)
        refine wildK_normal (hK.out _ _ ⟨⟨_, hB2⟩, rfl⟩ ?_)
        clear hK K

        obtain ⟨w2, hw2⟩ : ∃ w2, w2 = w1.alloc (netB (.slice none 0 0) (.slice none 0 0)) := ⟨_, rfl⟩
        rw [← hw2] at hB2 ⊢
        have h12 : Below w1.heap.size w1 w2 := by rw [hw2]; exact bl1 w1 _
        have hy1 : w2.heap[w1.heap.size]? = some (netB (.slice none 0 0) (.slice none 0 0)) := by rw [hw2]; exact heap_new _ rfl
        clear hw2

        refine wpV_one 5 _ _ (by kernel_rfl) (by kernel_rfl) rfl rfl ?_
        intro K hK
        simp only [List.getD_cons_zero, List.getD_cons_succ]
        go_wp2_with fail
        refine (cloneK_any lx ln lc ls w2 (hl0.later hB2) (by omega)).mono ?_
        rintro e w3 ⟨v2, rfl, hO2, hb3⟩
        obtain ⟨x2, c2, hv2, -⟩ := hO2.mem
        subst hv2
        have hB3 : Below w0.heap.size w0 w3 := hB2.trans (hb3.mono hB2.size)
        go_wp2_with fail
        refine wildK_normal (hK.out _ _ ⟨⟨_, hB3⟩, rfl⟩ ?_)
        clear hK K

        refine wpV_takes 1 [6] rfl _ rfl (by kernel_rfl) (fun d _ _ _ _ h => by cases d <;> exact h) ⟨⟨_, hB3⟩, rfl⟩ ?_
        simp only [List.map_cons, List.map_nil, List.getD_cons_zero, List.getD_cons_succ]
        repeat (go_big_quiet_step (fail))
        refine wpQuiet_nil ?_

        have hy := heap_later hb3 hy1
        have hnb : w0.heap.size ≤ w1.heap.size := hB1.size
        have hO1' := ((hO1.low (base' := w0.heap.size) (Nat.le_refl _)).later h12).later hb3
        have hO2' := hO2.low (base' := w0.heap.size) hB2.size
        have hBf := hB3

        refine wpV_tail [8] rfl (by kernel_rfl) ?_
        simp only [List.map_cons, List.map_nil, List.getD_cons_zero, List.getD_cons_succ]
        have q0 := (box_cells hy).1 0
        have q1 := (box_cells hy).1 1
        have f0 := (box_cells hy).2 0
        have f1 := (box_cells hy).2 1
        simp only [List.getElem?_toArray, List.getElem?_cons_zero, List.getElem?_cons_succ] at q0 q1
        go_wp2_with fail
        go_meet
        case rel => exact ⟨_, _, _, rfl, hnb, net_put hy hnb hO1' hO2' hBf⟩
    · intro K hK
      simp only [List.getD_cons_zero, List.getD_cons_succ]
      go_wp2_with fail
      have hB1 : Below w0.heap.size w0 (w0.alloc (netB (.slice none 0 0) (.slice none 0 0))).drew := (bl1 w0 _).drew
      refine wildK_normal (hK.out _ _ ⟨⟨_, hB1⟩, rfl⟩ ?_)
      clear hK K

      have hy0 : ((w0.alloc (netB (.slice none 0 0) (.slice none 0 0))).drew).heap[w0.heap.size]? = some (netB (.slice none 0 0) (.slice none 0 0)) := heap_new (W := w0) _ rfl

      refine wpV_one 2 _ _ (by kernel_rfl) (by kernel_rfl) rfl rfl ?_
      intro K hK
      simp only [List.getD_cons_zero, List.getD_cons_succ]
      go_wp2_with fail
      refine (cloneV_any x n c vs (w0.alloc (netB (.slice none 0 0) (.slice none 0 0))).drew (hp0.later hB1) (by omega)).mono ?_
      rintro e w2 ⟨v1, rfl, hO1, hb2⟩
      obtain ⟨x1, c1, hv1, -⟩ := hO1.mem
      subst hv1
      have hB2 : Below w0.heap.size w0 w2 := hB1.trans (hb2.mono hB1.size)
      go_wp2_with fail
      refine wildK_normal (hK.out _ _ ⟨⟨_, hB2⟩, rfl⟩ ?_)
      clear hK K

      refine wpV_one 5 _ _ (by kernel_rfl) (by kernel_rfl) rfl rfl ?_
      intro K hK
      simp only [List.getD_cons_zero, List.getD_cons_succ]
      go_wp2_with fail
      refine (cloneK_any lx ln lc ls w2 (hl0.later hB2) (by omega)).mono ?_
      rintro e w3 ⟨v2, rfl, hO2, hb3⟩
      obtain ⟨x2, c2, hv2, -⟩ := hO2.mem
      subst hv2
      have hB3 : Below w0.heap.size w0 w3 := hB2.trans (hb3.mono hB2.size)
      go_wp2_with fail
      refine wildK_normal (hK.out _ _ ⟨⟨_, hB3⟩, rfl⟩ ?_)
      clear hK K

      refine wpV_takes 1 [6] rfl _ rfl (by kernel_rfl) (fun d _ _ _ _ h => by cases d <;> exact h) ⟨⟨_, hB3⟩, rfl⟩ ?_
      simp only [List.map_cons, List.map_nil, List.getD_cons_zero, List.getD_cons_succ]
      repeat (go_big_quiet_step (fail))
      refine wpQuiet_nil ?_

      have hy := heap_later hb3 (heap_later hb2 hy0)
      have hnb : w0.heap.size ≤ w0.heap.size := Nat.le_refl _
      have hO1' := (hO1.low (base' := w0.heap.size) hB1.size).later hb3
      have hO2' := hO2.low (base' := w0.heap.size) hB2.size
      have hBf := hB3

      refine wpV_tail [8] rfl (by kernel_rfl) ?_
      simp only [List.map_cons, List.map_nil, List.getD_cons_zero, List.getD_cons_succ]
      have q0 := (box_cells hy).1 0
      have q1 := (box_cells hy).1 1
      have f0 := (box_cells hy).2 0
      have f1 := (box_cells hy).2 1
      simp only [List.getElem?_toArray, List.getElem?_cons_zero, List.getElem?_cons_succ] at q0 q1
      go_wp2_with fail
      go_meet
      case rel => exact ⟨_, _, _, rfl, hnb, net_put hy hnb hO1' hO2' hBf⟩
  case rest =>
    clear a0 a1
    obtain ⟨nb, vV, vK, rfl, hnb, hOV, hOK, hbx, hBc⟩ := hcut
    obtain ⟨xv, cv, hvv, -⟩ := hOV.mem
    obtain ⟨xl, cl, hvk, -⟩ := hOK.mem
    rw [hvl.out] at hvv
    rw [hll.out] at hvk
    subst hvv
    subst hvk
    have e1 : wc.cell? ⟨nb, 0, none⟩ = some (.slice xv n cv) := (box_cells hbx).1 0
    go_wp2
    clear e1
    go_loopw [15] (fun i wr => FnMid vs ls n ln nb xv cv xl cl w0 i wr) (fun i _ => n - (intOf i).toNat)
    case atStart => exact ⟨0, vs, by omega, rfl, sameVs.refl _, fun _ _ => rfl, hOV, fun i hi => by omega, hOK, hbx, hBc⟩
    case round =>
      clear hOV hOK hbx hBc
      obtain ⟨q, us, hq, rfl, hs, htl, hO, hV, hK', hbr, hBr⟩ := hrel
      have hul : Hid (us.length = n) := by show _ = _; rw [← hs.1]; exact hvl.out
      by_cases hlt : q < n
      · have hlt' : Hid (q < n) := hlt
        have hqu : q < us.length := by rw [hul.out]; exact hlt
        obtain ⟨g, cap, hgv⟩ := hO.held (by omega)
        simp only [Value.slice.injEq] at hgv
        obtain ⟨rfl, -, rfl⟩ := hgv
        obtain ⟨d0, d1, d2⟩ := hO.cells q hqu
        obtain ⟨hbg, cur, hcur⟩ := hO.block
        have hgl : g < wr.heap.size := (Array.getElem?_eq_some_iff.1 hcur).1
        obtain ⟨f1, f2, f3, f4⟩ := hfew q hlt
        have hvp := (hp0.later hBr).vps q hlt
        have hfv := freshVpc_any (vnAt vs q).id (vnAt vs q).rx (vnAt vs q).rn (vnAt vs q).rc (vnAt vs q).rs (vnAt vs q).sx (vnAt vs q).sn (vnAt vs q).sc (vnAt vs q).ss wr.drew (hvp.2.2.2.later (Below.refl _ _).drew) f1 f2 f3 f4
        rw [htl q (Nat.le_refl _)] at d0 d1 d2
        have hrsl : Hid ((vnAt vs q).rs.length = (vnAt vs q).rn ∧ (vnAt vs q).ss.length = (vnAt vs q).sn) := ⟨hvp.2.2.2.ranges.len, hvp.2.2.2.subs.len⟩
        have htl' : Hid (∀ i, q ≤ i → vnAt us i = vnAt vs i) := htl
        clear htl hvp f1 f2 f3 f4
        have a0 := Ws.here (show wr.cell? ⟨nb, 0, none⟩ = some (.slice (some ⟨g, 0, none⟩) n cv) from (box_cells hbr).1 0)
        have a1 := Ws.here d0
        have a2 := Ws.here d1
        have a3 := Ws.here d2
        go_upto_region 5 with fail
        clear d0 d1 d2
        have hbd : Below wr.heap.size wr wr.drew := (Below.refl _ _).drew
        refine wp_region_V (fun w' => ∃ u : Ws wr.heap.size wr, w' = u.val) (fun j => decide (j < 9)) 11 _ (by kernel_rfl) rfl rfl ?_
        refine wpV_takes 3 [0, 1, 2, 3, 4, 5, 6, 7] rfl _ rfl (by kernel_rfl) (fun d _ _ _ _ h => by cases d <;> exact h) ⟨⟨_, hbd⟩, rfl⟩ ?_
        simp only [List.map_cons, List.map_nil, List.getD_cons_zero, List.getD_cons_succ]
        repeat (go_big_quiet_step (fail))
        refine wpQuiet_nil ?_
        clear a0 a1 a2 a3
        refine wpV_one 8 _ _ (by kernel_rfl) (by kernel_rfl) rfl rfl ?_
        intro K hK
        simp only [List.getD_cons_zero, List.getD_cons_succ]
        go_wp2_with fail
        refine hfv.mono ?_
        rintro e w1 ⟨vR, vS, ts, rfl, hOR, hss, hOS, hb1⟩
        have hB1 : Below wr.heap.size wr w1 := ⟨hb1.os, hb1.tape, hb1.output, hb1.size, hb1.block⟩
        obtain ⟨x1, c1, hv1, -⟩ := hOR.rs
        obtain ⟨x2, c2, hv2, -⟩ := hOS.subs
        subst hv1
        subst hv2
        obtain ⟨u, hu⟩ : ∃ u : Vn, u = ⟨(vnAt vs q).id, x1, (vnAt vs q).rs.length, c1, (vnAt vs q).rs, x2, ts.length, c2, ts⟩ := ⟨_, rfl⟩
        have hVu : Von w1 w0.heap.size u := by
          rw [hu]
          exact Von.low (v := ⟨(vnAt vs q).id, x1, (vnAt vs q).rs.length, c1, (vnAt vs q).rs, x2, ts.length, c2, ts⟩) ⟨hOR, hOS⟩ hBr.size
        have hsu : sameV (vnAt vs q) u := by
          rw [hu]
          exact ⟨rfl, hrsl.out.1.symm, rfl, by rw [← hrsl.out.2]; exact hss.1, hss⟩
        go_wp2_with fail
        refine wildK_normal (hK.out _ _ ⟨⟨_, hB1⟩, rfl⟩ ?_)
        clear hK K hfv
        have hO1 := hO.later hB1
        obtain ⟨y0, y1, y2⟩ := hO1.cells q hqu
        have z0 := hO1.frozen (q * 3)
        have z1 := hO1.frozen (q * 3 + 1)
        have z2 := hO1.frozen (q * 3 + 2)
        have hnbg : nb ≠ g := fun e => by rw [e] at hbr; rw [hbr] at hcur; simp at hcur
        have hOs := hO1.setE q hqu u
        have hBs : Below w0.heap.size w0 (setN w1 g q u) := setN_below (hBr.trans (hB1.mono hBr.size)) hbg
        have hbs : (setN w1 g q u).heap[nb]? = some (netB (.slice (some ⟨g, 0, none⟩) n cv) (.slice xl ln cl)) := (setN_box hnbg).trans (heap_later hB1 hbr)
        have hKs : OwnK (setN w1 g q u) w0.heap.size (.slice xl ln cl) ls := (hK'.later hB1).setN hO1
        have hVs : ∀ i, i < q + 1 → Von (setN w1 g q u) w0.heap.size (vnAt (us.set q u) i) := fun i hi => by
          rw [vnAt_setN hqu]
          split
          · exact hVu.setN hO1
          · exact ((hV i (by omega)).later hB1).setN hO1
        have hss' := hs.set hqu hsu
        have hts : ∀ i, q + 1 ≤ i → vnAt (us.set q u) i = vnAt vs i := fun i hi => by rw [vnAt_setN hqu, if_neg (by omega)]; exact htl'.out i (by omega)
        have hfin : Hid (FnMid vs ls n ln nb (some ⟨g, 0, none⟩) cv xl cl w0 (.int .i64 ((q : Int) + 1)) (setN w1 g q u)) := ⟨q + 1, us.set q u, hlt'.out, by simp, hss', hts, hOs, hVs, hKs, hbs, hBs⟩
        unfold setN at hfin
        rw [hu] at hfin
        clear hO1 hOs hBs hbs hKs hVs hss' hts hVu hsu
        refine wpV_tail [9, 10] rfl (by kernel_rfl) ?_
        simp only [List.map_cons, List.map_nil, List.getD_cons_zero, List.getD_cons_succ]
        go_wp2
        go_roundw
        case rel => exact hfin.out
        case measure => simp [intOf]; have := hlt'.out; omega
      · obtain rfl : n = q := by omega
        have hrr : wr.heap[w.heap.size + 1]? = some (netB (.slice none 0 0) (.slice none 0 0)) := (hBr.block _ hsz).trans hr0
        have e0 : wr.cell? ⟨nb, 0, none⟩ = some (.slice xv n cv) := (box_cells hbr).1 0
        have e1 : wr.cell? ⟨nb, 1, none⟩ = some (.slice xl ln cl) := (box_cells hbr).1 1
        have r0 : wr.cell? ⟨w.heap.size + 1, 0, none⟩ = some (.slice none 0 0) := (box_cells hrr).1 0
        have r1 : wr.cell? ⟨w.heap.size + 1, 1, none⟩ = some (.slice none 0 0) := (box_cells hrr).1 1
        have z0 := (box_cells hrr).2 0
        have z1 := (box_cells hrr).2 1
        go_wp2
        refine bodyPost_ret (v := .agg #[.slice xv n cv, .slice xl ln cl]) (by simp [results, Tryz.results26, go_sem, r0, r1]) rfl ?_
        exact ⟨_, _, us, rfl, hs, ((hO.put hsz).put hsz).low hB0.size, fun i hi => (((hV i (by rw [← hul.out]; exact hi)).put hsz).put hsz).low hB0.size, ((hK'.put hsz).put hsz).low hB0.size, ((hB0.trans (hBr.mono hB0.size)).setCell (by simp) _).setCell (by simp) _⟩
end Go.Proofs.YtlalgkjollgcbaaGreat
/- What operations of package net answer; Make. -/
namespace Go.Proofs.YtlalgkjollgcbaaGreat
open Go.RowKit Go.Shelf

/-- A network that can be read. -/
def VpOk (w : World) (v : Vn) : Prop := v.rn ≤ 9223372036854775807 ∧ v.sn ≤ 9223372036854775807 ∧ v.rc ≤ 9223372036854775807 ∧ Vp w v.rx v.rn v.rc v.rs v.sx v.sn v.sc v.ss
theorem VpOk.later {w w' : World} {v : Vn} (h : VpOk w v) (hb : Below w.heap.size w w') : VpOk w' v := ⟨h.1, h.2.1, h.2.2.1, h.2.2.2.later hb⟩
/-- A network with nothing in it. -/
def newV (id : Int) : Vn := ⟨id, none, 0, 0, [], none, 0, 0, []⟩
theorem newV_ok (w : World) (id : Int) : VpOk w (newV id) :=
  ⟨by simp [newV], by simp [newV], by simp [newV], ⟨by simp [newV], by simp [newV], ⟨rfl, fun i hi => absurd hi (Nat.not_lt_zero _)⟩, ⟨rfl, fun i hi => absurd hi (Nat.not_lt_zero _), fun i hi => absurd hi (Nat.not_lt_zero _)⟩⟩⟩
theorem vnAt_get' {vs : List Vn} {i : Nat} (h : i < vs.length) : vnAt vs i ∈ vs := by
  rw [vnAt_get h]
  exact List.getElem_mem h
theorem mem_vnAt {vs : List Vn} {v : Vn} (h : v ∈ vs) : ∃ i, i < vs.length ∧ vnAt vs i = v := by
  obtain ⟨i, hi, rfl⟩ := List.getElem_of_mem h
  exact ⟨i, hi, vnAt_get hi⟩
theorem OwnV.vs {w : World} {base : Nat} {v : Value} {us : List Vn} (h : OwnV w base v us) (hv : ∀ u ∈ us, VpOk w u) : ∃ X C, v = .slice X us.length C ∧ VS w X us.length us ∧ us.length ≤ C ∧ C ≤ 9223372036854775807 ∧ ((X = none ∧ C = 0) ∨ ∃ b o, X = some ⟨b, o, none⟩) := by
  obtain ⟨X, C, e, h1, h2, h3, h4⟩ := h.mem
  refine ⟨X, C, e, ⟨rfl, h4, fun i hi => hv _ (vnAt_get' hi)⟩, h1, h2, ?_⟩
  rcases h.2 with ⟨e1, e2⟩ | ⟨g, cap, cur, e1, -⟩
  · rw [e] at e1
    simp only [Value.slice.injEq] at e1
    exact .inl ⟨e1.1, e1.2.2⟩
  · rw [e] at e1
    simp only [Value.slice.injEq] at e1
    exact .inr ⟨g, 0, e1.1⟩
theorem OwnK.ps {w : World} {base : Nat} {v : Value} {ms : List (Int × Int)} (h : OwnK w base v ms) : ∃ X C, v = .slice X ms.length C ∧ PS w X ms.length ms ∧ ms.length ≤ C ∧ C ≤ 9223372036854775807 ∧ ((X = none ∧ C = 0) ∨ ∃ b o, X = some ⟨b, o, none⟩) := by
  obtain ⟨X, C, e, h1, h2, h3, h4⟩ := h.mem
  refine ⟨X, C, e, ⟨rfl, h4⟩, h1, h2, ?_⟩
  rcases h.2 with ⟨e1, e2⟩ | ⟨g, cap, cur, e1, -⟩
  · rw [e] at e1
    simp only [Value.slice.injEq] at e1
    exact .inl ⟨e1.1, e1.2.2⟩
  · rw [e] at e1
    simp only [Value.slice.injEq] at e1
    exact .inr ⟨g, 0, e1.1⟩
/-- A net in memory, by its numbers. -/
def NN (w : World) (V : Value) (us : List Vn) (ms : List (Int × Int)) : Prop :=
  ∃ X C LX LC, V = .agg #[.slice X us.length C, .slice LX ms.length LC] ∧ VS w X us.length us ∧ PS w LX ms.length ms ∧ us.length ≤ C ∧ C ≤ 9223372036854775807 ∧ ms.length ≤ LC ∧ LC ≤ 9223372036854775807
theorem NN.later {w w' : World} {V : Value} {us : List Vn} {ms : List (Int × Int)} (h : NN w V us ms) (hb : Below w.heap.size w w') : NN w' V us ms := by
  obtain ⟨X, C, LX, LC, h1, h2, h3, h4⟩ := h
  exact ⟨X, C, LX, LC, h1, h2.later hb, h3.later hb, h4⟩
theorem NN.of {w : World} {base base' : Nat} {vV vK : Value} {us : List Vn} {ms : List (Int × Int)} (h : OwnV w base vV us) (hv : ∀ u ∈ us, VpOk w u) (g : OwnK w base' vK ms) : NN w (.agg #[vV, vK]) us ms := by
  obtain ⟨X, C, rfl, h1, h2, h3, -⟩ := h.vs hv
  obtain ⟨Y, D, rfl, g1, g2, g3, -⟩ := g.ps
  exact ⟨X, C, Y, D, rfl, h1, g1, h2, h3, g2, g3⟩
theorem newV_on (w : World) (base : Nat) (id : Int) : Von w base (newV id) := ⟨World.ownsRow_nil _ _ _ _, OSs.nil w base⟩
/-- A net of the call's own, by its numbers. -/
def NO (w : World) (base : Nat) (V : Value) (us : List Vn) (ms : List (Int × Int)) : Prop := ∃ vV vK, V = .agg #[vV, vK] ∧ OwnV w base vV us ∧ (∀ u ∈ us, Von w base u) ∧ OwnK w base vK ms
theorem NO.of {w : World} {base b1 b2 b3 : Nat} {vV vK : Value} {us : List Vn} {ms : List (Int × Int)} (h : OwnV w b1 vV us) (h1 : base ≤ b1) (hv : ∀ u ∈ us, Von w b2 u) (h2 : base ≤ b2) (g : OwnK w b3 vK ms) (h3 : base ≤ b3) : NO w base (.agg #[vV, vK]) us ms :=
  ⟨vV, vK, rfl, h.low h1, fun u hu => (hv u hu).low h2, g.low h3⟩
theorem NO.nn {w : World} {base : Nat} {V : Value} {us : List Vn} {ms : List (Int × Int)} (h : NO w base V us ms) : NN w V us ms := by
  obtain ⟨vV, vK, rfl, h1, h2, h3⟩ := h
  exact NN.of h1 (fun u hu => (h2 u hu).vp) h3
theorem NO.later {w w' : World} {base : Nat} {V : Value} {us : List Vn} {ms : List (Int × Int)} (h : NO w base V us ms) (hb : Below w.heap.size w w') : NO w' base V us ms := by
  obtain ⟨vV, vK, rfl, h1, h2, h3⟩ := h
  exact ⟨vV, vK, rfl, h1.later hb, fun u hu => (h2 u hu).later hb, h3.later hb⟩
theorem NO.put {w : World} {base b o : Nat} {v : Value} {V : Value} {us : List Vn} {ms : List (Int × Int)} (h : NO w base V us ms) (hb : b < base) : NO (w.setCell ⟨b, o, none⟩ v) base V us ms := by
  obtain ⟨vV, vK, rfl, h1, h2, h3⟩ := h
  exact ⟨vV, vK, rfl, h1.put hb, fun u hu => (h2 u hu).put hb, h3.put hb⟩
/-- What an operation answers: an error, or a net that is so. -/
def NPost (E : Int) (R : List Vn → List (Int × Int) → Prop) (w : World) (e : Ending) (w' : World) : Prop :=
  ∃ V, e = .returned (.tuple #[V, .int .i64 E]) ∧ Below w.heap.size w w' ∧ (E ≠ 0 → V = .agg #[.slice none 0 0, .slice none 0 0]) ∧ (E = 0 → ∃ us ms, NO w' w.heap.size V us ms ∧ R us ms)
theorem NPost.err {E t : Int} {R : List Vn → List (Int × Int) → Prop} {w w' : World} (hE : E = t ∧ t ≠ 0) (hb : Below w.heap.size w w') : NPost E R w (.returned (.tuple #[.agg #[.slice none 0 0, .slice none 0 0], .int .i64 t])) w' :=
  ⟨_, by rw [hE.1], hb, fun _ => rfl, fun h => absurd (hE.1.symm.trans h) hE.2⟩
theorem NPost.ok {E : Int} {R : List Vn → List (Int × Int) → Prop} {w w' : World} {V : Value} {us : List Vn} {ms : List (Int × Int)} (hE : E = 0) (hb : Below w.heap.size w w') (h : NO w' w.heap.size V us ms) (hR : R us ms) : NPost E R w (.returned (.tuple #[V, .int .i64 0])) w' :=
  ⟨V, by rw [hE], hb, fun h => absurd hE h, fun _ => ⟨us, ms, h, hR⟩⟩
/-- The boxes of an operation. -/
structure TM (w W : World) (x : Option Addr) (n c : Nat) (lx : Option Addr) (ln lc : Nat) : Prop where
  hb : W.heap[w.heap.size]? = some (netO x n c lx ln lc)
  hs : W.heap[w.heap.size + 1]? = some (netB (.slice none 0 0) (.slice none 0 0))
  below : Below w.heap.size w W
theorem TM.later {w W W' : World} {x : Option Addr} {n c : Nat} {lx : Option Addr} {ln lc : Nat} (h : TM w W x n c lx ln lc) (hb : Below W.heap.size W W') : TM w W' x n c lx ln lc :=
  ⟨heap_later hb h.hb, heap_later hb h.hs, h.below.trans (hb.mono h.below.size)⟩
/-- The networks of a right net are small ones. -/
theorem few_of {n : Nat} {vs : List Vn} {ln : Nat} {ls : List (Int × Int)} (h : chkN n vs ln ls = 0) : n ≤ 6 ∧ ln ≤ 12 ∧ ∀ i, i < n → FewV (vnAt vs i) := by
  obtain ⟨h6, h12, hv, -, -⟩ := chkN_zero h
  refine ⟨h6, h12, fun i hi => ?_⟩
  obtain ⟨f1, f2, f3, f4⟩ := chkV_few (vpc_zero hv i hi)
  exact ⟨by omega, by omega, fun i hi => by have := f3 i hi; omega, fun i hi j hj => by have := f4 i hi j hj; omega⟩
theorem OwnV.putBox {w : World} {base b o : Nat} {u v : Value} {vs : List Vn} {cs : Array Value} {t : TypeId} (h : OwnV w base v vs) (hb : w.heap[b]? = some (.cells cs t)) (h1 : t ≠ 52) : OwnV (w.setCell ⟨b, o, none⟩ u) base v vs :=
  h.kept (set_grown _ _ _ _) (fun k hk e => by subst e; exact h.ne hb h1 hk)
theorem OwnK.putBox {w : World} {base b o : Nat} {u v : Value} {ls : List (Int × Int)} {cs : Array Value} {t : TypeId} (h : OwnK w base v ls) (hb : w.heap[b]? = some (.cells cs t)) (h1 : t ≠ 63) : OwnK (w.setCell ⟨b, o, none⟩ u) base v ls :=
  h.kept (set_grown _ _ _ _) (fun k hk e => by subst e; exact h.ne hb h1 hk)
theorem VpOk.of {w : World} {base : Nat} {v : Vn} (h : Von w base v) : VpOk w v := h.vp

def makeE (n : Nat) (vs : List Vn) (ln : Nat) (ls : List (Int × Int)) (id : Int) : Int :=
  if chkN n vs ln ls = 0 then (if wth id 1 65536 = false then 3 else if 0 ≤ vplace n vs id then 6 else if n = 6 then 2 else 0) else chkN n vs ln ls
/-- The network stands ahead of the first one whose Id is greater. -/
def PutVn (id : Int) (vs us : List Vn) : Prop := ∃ us0 i, sameVs vs us0 ∧ i ≤ us0.length ∧ (∀ j, j < i → ¬ id < (vnAt us0 j).id) ∧ (i < us0.length → id < (vnAt us0 i).id) ∧ us = us0.take i ++ [newV id] ++ us0.drop i
def MakeR (vs : List Vn) (ls : List (Int × Int)) (id : Int) (us : List Vn) (ms : List (Int × Int)) : Prop := PutVn id vs us ∧ ms = ls

set_option maxRecDepth 100000 in
set_option maxHeartbeats 6400000 in
theorem make_any (x : Option Addr) (n c : Nat) (vs : List Vn) (lx : Option Addr) (ln lc : Nat) (ls : List (Int × Int)) (id : Int) (w : World) (hp : VS w x n vs) (hn : n ≤ 9223372036854775807) (hnc : n ≤ c) (hl : PS w lx ln ls) (hln : ln ≤ 9223372036854775807) :
    Calls Tryz.prog 7 #[.agg #[.slice x n c, .slice lx ln lc], .int .i64 id] w (NPost (makeE n vs ln ls id) (MakeR vs ls id) w) := by
  have hvl : Hid (vs.length = n) := hp.len
  have hE : Hid (makeE n vs ln ls id = if chkN n vs ln ls = 0 then (if wth id 1 65536 = false then 3 else if 0 ≤ vplace n vs id then 6 else if n = 6 then 2 else 0) else chkN n vs ln ls) := rfl
  go_enter Tryz.func7, Tryz.ntmps7
  go_upto_region 1 with fail
  obtain ⟨w0, hw0⟩ : ∃ w0, w0 = (w.alloc (netO x n c lx ln lc)).alloc (netB (.slice none 0 0) (.slice none 0 0)) := ⟨_, rfl⟩
  rw [← hw0]
  have hT0 : TM w w0 x n c lx ln lc := by
    rw [hw0]
    exact ⟨heap_old _ (heap_new _ rfl), heap_new _ (by simp), bl2 w _ _⟩
  clear hw0
  have k0 : w0.cell? ⟨w.heap.size, 0, none⟩ = some (.slice x n c) := (box_cells hT0.hb).1 0
  have k1 : w0.cell? ⟨w.heap.size, 1, none⟩ = some (.slice lx ln lc) := (box_cells hT0.hb).1 1
  have ks0 : w0.cell? ⟨w.heap.size + 1, 0, none⟩ = some (.slice none 0 0) := (box_cells hT0.hs).1 0
  have ks1 : w0.cell? ⟨w.heap.size + 1, 1, none⟩ = some (.slice none 0 0) := (box_cells hT0.hs).1 1
  have kz0 := (box_cells hT0.hs).2 0
  have kz1 := (box_cells hT0.hs).2 1
  by_cases hc0 : chkN n vs ln ls = 0
  · have hck := checkN_is x n c vs lx ln lc ls 0 hc0 w0 (hp.later hT0.below) hn hnc (hl.later hT0.below) hln
    obtain ⟨h6, h12, hfew⟩ := few_of hc0
    have hE1 : Hid (makeE n vs ln ls id = if wth id 1 65536 = false then 3 else if 0 ≤ vplace n vs id then 6 else if n = 6 then 2 else 0) := hE.out.trans (if_pos hc0)
    clear hc0 hE
    go_wp2_with fail
    refine hck.mono ?_
    rintro e w1 ⟨rfl, hb⟩
    have hT1 := hT0.later hb
    clear k0 k1 ks0 ks1 kz0 kz1
    have k0 : w1.cell? ⟨w.heap.size, 0, none⟩ = some (.slice x n c) := (box_cells hT1.hb).1 0
    have k1 : w1.cell? ⟨w.heap.size, 1, none⟩ = some (.slice lx ln lc) := (box_cells hT1.hb).1 1
    have ks0 : w1.cell? ⟨w.heap.size + 1, 0, none⟩ = some (.slice none 0 0) := (box_cells hT1.hs).1 0
    have ks1 : w1.cell? ⟨w.heap.size + 1, 1, none⟩ = some (.slice none 0 0) := (box_cells hT1.hs).1 1
    have kz0 := (box_cells hT1.hs).2 0
    have kz1 := (box_cells hT1.hs).2 1
    clear hck
    cases hwi : wth id 1 65536 with
    | false =>
      have hi := isId_is id false hwi w1
      have hE2 : Hid (makeE n vs ln ls id = 3 ∧ (3 : Int) ≠ 0) := ⟨hE1.out.trans (if_pos hwi), by decide⟩
      clear hwi hE1
      go_wp2_with fail
      refine hi.mono ?_
      rintro e w2 ⟨rfl, rfl⟩
      clear hi
      go_wp2
      refine bodyPost_ret (v := .tuple #[.agg #[.slice none 0 0, .slice none 0 0], .int .i64 3]) (by simp [results, Tryz.results7, go_sem, ks0, ks1]) rfl ?_
      exact NPost.err hE2.out ((hT1.below.setCell (p := ⟨w.heap.size + 1, 0, none⟩) (Nat.le_add_right _ _) _).setCell (p := ⟨w.heap.size + 1, 1, none⟩) (Nat.le_add_right _ _) _)
    | true =>
      have hi := isId_is id true hwi w1
      have hE2 : Hid (makeE n vs ln ls id = if 0 ≤ vplace n vs id then 6 else if n = 6 then 2 else 0) := hE1.out.trans (if_neg (c := wth id 1 65536 = false) (by rw [hwi]; decide))
      clear hwi hE1
      go_wp2_with fail
      refine hi.mono ?_
      rintro e w2 ⟨rfl, rfl⟩
      clear hi
      obtain ⟨t, ht⟩ : ∃ t, vplace n vs id = t := ⟨_, rfl⟩
      have hpl := place_is id x n c vs lx ln lc t ht w2 (hp.later hT1.below) (by omega)
      rw [ht] at hE2
      clear ht
      go_wp2_with fail
      refine hpl.mono ?_
      rintro e w3 ⟨rfl, hb⟩
      have hT3 := hT1.later hb
      clear k0 k1 ks0 ks1 kz0 kz1
      have k0 : w3.cell? ⟨w.heap.size, 0, none⟩ = some (.slice x n c) := (box_cells hT3.hb).1 0
      have k1 : w3.cell? ⟨w.heap.size, 1, none⟩ = some (.slice lx ln lc) := (box_cells hT3.hb).1 1
      have ks0 : w3.cell? ⟨w.heap.size + 1, 0, none⟩ = some (.slice none 0 0) := (box_cells hT3.hs).1 0
      have ks1 : w3.cell? ⟨w.heap.size + 1, 1, none⟩ = some (.slice none 0 0) := (box_cells hT3.hs).1 1
      have kz0 := (box_cells hT3.hs).2 0
      have kz1 := (box_cells hT3.hs).2 1
      clear hpl
      by_cases ht0 : t < 0
      · have ht1 : ¬ (t ≥ 0) := by omega
        by_cases hn6 : n = 6
        · have hE3 : Hid (makeE n vs ln ls id = 2 ∧ (2 : Int) ≠ 0) := ⟨hE2.out.trans (by rw [if_neg (show ¬ (0 : Int) ≤ t by omega), if_pos hn6]), by decide⟩
          have hn6' : ((n : Int) == 6) = true := by simp; omega
          have hn6'' : (n : Int) = 6 := by omega
          clear hE2 hn6
          go_wp2
          refine bodyPost_ret (v := .tuple #[.agg #[.slice none 0 0, .slice none 0 0], .int .i64 2]) (by simp [results, Tryz.results7, go_sem, ks0, ks1]) rfl ?_
          exact NPost.err hE3.out ((hT3.below.setCell (p := ⟨w.heap.size + 1, 0, none⟩) (Nat.le_add_right _ _) _).setCell (p := ⟨w.heap.size + 1, 1, none⟩) (Nat.le_add_right _ _) _)
        · have hE3 : Hid (makeE n vs ln ls id = 0) := hE2.out.trans (by rw [if_neg (show ¬ (0 : Int) ≤ t by omega), if_neg hn6])
          have hn6' : ((n : Int) == 6) = false := by simp; omega
          have hn6'' : ¬ (n : Int) = 6 := by omega
          have hfn := freshNet_any x n c vs lx ln lc ls w3 (hp.later hT3.below) (by omega) (hl.later hT3.below) (by omega) hfew
          clear hE2 hn6
          go_wp2_with fail
          refine hfn.mono ?_
          rintro e w4 ⟨vV, vK, us, rfl, hsv, hOV, hVo, hOK, hb4⟩
          have hT4 := hT3.later hb4
          clear hfn hn6' hn6''
          obtain ⟨X, C, hvV, hVS4, hXC, hC63, hX0⟩ := hOV.vs (fun u hu => by
            obtain ⟨i, hi, rfl⟩ := mem_vnAt hu
            exact VpOk.of (hVo i hi))
          obtain ⟨Y, D, hvK, hPS4, -, -, -⟩ := hOK.ps
          subst hvV
          subst hvK
          have hul : Hid (us.length = n) := by show _ = _; rw [← hsv.1]; exact hvl.out
          have hw3s : Hid (w.heap.size + 1 < w3.heap.size) := (Array.getElem?_eq_some_iff.1 hT3.hs).1
          clear k0 k1 ks0 ks1 kz0 kz1
          go_upto_region 12 with fail
          obtain ⟨w5, hw5⟩ : ∃ w5, w5 = w4.alloc (netB (.slice X us.length C) (.slice Y ls.length D)) := ⟨_, rfl⟩
          rw [← hw5]
          have hb5 : Below w4.heap.size w4 w5 := by rw [hw5]; exact bl1 w4 _
          have hbx5 : w5.heap[w4.heap.size]? = some (netB (.slice X us.length C) (.slice Y ls.length D)) := by rw [hw5]; exact heap_new _ rfl
          clear hw5
          have hT5 := hT4.later hb5
          have m0 : w5.cell? ⟨w4.heap.size, 0, none⟩ = some (.slice X us.length C) := (box_cells hbx5).1 0
          have hVS5 := hVS4.later hb5
          have hput := fun W hW bf hby => putV_any (newV id) X us.length C us bf 1 W (hVS5.later hW) (by rw [hul.out]; omega) hXC hC63 hX0 hby
          go_wp2_with fail
          have hba : Below w5.heap.size w5 (w5.alloc (.cells #[.func (.func 28) #[] #[]] 57)) := bl1 w5 _
          refine (hput _ hba w5.heap.size (by simp)).mono ?_
          rintro e w6 ⟨v6, rfl, hb6, i, hi, hlo, hup, hO6⟩
          have hb56 : Below w5.heap.size w5 w6 := hba.trans (hb6.mono hba.size)
          have hT6 := hT5.later hb56
          have hbx6 := heap_later hb56 hbx5
          have hVo6 : ∀ u ∈ us.take i ++ [newV id] ++ us.drop i, Von w6 w3.heap.size u ∨ u = newV id := fun u hu => by
            rcases List.mem_append.1 hu with hu | hu
            · rcases List.mem_append.1 hu with hu | hu
              · obtain ⟨j, hj, rfl⟩ := mem_vnAt (List.mem_of_mem_take hu)
                exact .inl (((hVo j hj).later hb5).later hb56)
              · exact .inr (by simpa using hu)
            · obtain ⟨j, hj, rfl⟩ := mem_vnAt (List.mem_of_mem_drop hu)
              exact .inl (((hVo j hj).later hb5).later hb56)
          have hOK6 := (hOK.later hb5).later hb56
          have hR : Hid (MakeR vs ls id (us.take i ++ [newV id] ++ us.drop i) ls) := ⟨⟨us, i, hsv, hi, hlo, hup, rfl⟩, rfl⟩
          obtain ⟨u6, hu6⟩ : ∃ u6, u6 = us.take i ++ [newV id] ++ us.drop i := ⟨_, rfl⟩
          rw [← hu6] at hVo6 hO6 hR
          have hO6b : OwnV w6 w3.heap.size v6 u6 := hO6.low (by have := hb4.size; have := hb5.size; have := hba.size; omega)
          obtain ⟨X6, C6, hv6, -⟩ := hO6.mem
          subst hv6
          have g0 : w6.cell? ⟨w4.heap.size, 0, none⟩ = some (.slice X us.length C) := (box_cells hbx6).1 0
          have gz := (box_cells hbx6).2 0
          clear m0 hput hlo hup hu6 hO6
          go_upto_region 13 with fail
          obtain ⟨w7, hw7⟩ : ∃ w7, w7 = w6.setCell ⟨w4.heap.size, 0, none⟩ (.slice X6 u6.length C6) := ⟨_, rfl⟩
          rw [← hw7]
          have hbx7 : w7.heap[w4.heap.size]? = some (netB (.slice X6 u6.length C6) (.slice Y ls.length D)) := by
            rw [hw7]
            simpa using heap_setCell_same w6 w4.heap.size 0 _ _ (.slice X6 u6.length C6) hbx6
          have hne0 : w.heap.size ≠ w4.heap.size := by have := hw3s.out; have := hb4.size; omega
          have hne1 : w.heap.size + 1 ≠ w4.heap.size := by have := hw3s.out; have := hb4.size; omega
          have hT7 : TM w w7 x n c lx ln lc := by
            rw [hw7]
            exact ⟨(heap_setCell_other _ _ _ _ hne0).trans hT6.hb, (heap_setCell_other _ _ _ _ hne1).trans hT6.hs, hT6.below.setCell (p := ⟨w4.heap.size, 0, none⟩) (by show w.heap.size ≤ w4.heap.size; have := hw3s.out; have := hb4.size; omega) _⟩
          have hO7 : OwnV w7 w3.heap.size (.slice X6 u6.length C6) u6 := by rw [hw7]; exact hO6b.putBox hbx6 (by decide)
          have hVo7 : ∀ u ∈ u6, Von w7 w3.heap.size u ∨ u = newV id := fun u hu => by
            rw [hw7]
            rcases hVo6 u hu with h | h
            · exact .inl (h.putBox hbx6 (by decide) (by decide) (by decide) (by decide))
            · exact .inr h
          have hOK7 : OwnK w7 w3.heap.size (.slice Y ls.length D) ls := by rw [hw7]; exact hOK6.putBox hbx6 (by decide)
          clear hw7 g0 gz hO6b hVo6 hOK6 hbx6 hT6
          have g0 : w7.cell? ⟨w4.heap.size, 0, none⟩ = some (.slice X6 u6.length C6) := (box_cells hbx7).1 0
          have g1 : w7.cell? ⟨w4.heap.size, 1, none⟩ = some (.slice Y ls.length D) := (box_cells hbx7).1 1
          have k0 : w7.cell? ⟨w.heap.size, 0, none⟩ = some (.slice x n c) := (box_cells hT7.hb).1 0
          have k1 : w7.cell? ⟨w.heap.size, 1, none⟩ = some (.slice lx ln lc) := (box_cells hT7.hb).1 1
          have ks0 : w7.cell? ⟨w.heap.size + 1, 0, none⟩ = some (.slice none 0 0) := (box_cells hT7.hs).1 0
          have ks1 : w7.cell? ⟨w.heap.size + 1, 1, none⟩ = some (.slice none 0 0) := (box_cells hT7.hs).1 1
          have kz0 := (box_cells hT7.hs).2 0
          have kz1 := (box_cells hT7.hs).2 1
          go_wp2
          refine bodyPost_ret (v := .tuple #[.agg #[.slice X6 u6.length C6, .slice Y ls.length D], .int .i64 0]) (by simp [results, Tryz.results7, go_sem, ks0, ks1]) rfl ?_
          refine NPost.ok hE3.out ((hT7.below.setCell (p := ⟨w.heap.size + 1, 0, none⟩) (Nat.le_add_right _ _) _).setCell (p := ⟨w.heap.size + 1, 1, none⟩) (Nat.le_add_right _ _) _) (us := u6) (ms := ls) (NO.of ((hO7.put hw3s.out).put hw3s.out) (by have := hw3s.out; omega) (b2 := w3.heap.size) (fun u hu => ?_) (by have := hw3s.out; omega) ((hOK7.put hw3s.out).put hw3s.out) (by have := hw3s.out; omega)) hR.out
          rcases hVo7 u hu with h | h
          · exact (h.put hw3s.out).put hw3s.out
          · rw [h]; exact newV_on _ _ _
      · have ht1 : t ≥ 0 := by omega
        have hE3 : Hid (makeE n vs ln ls id = 6 ∧ (6 : Int) ≠ 0) := ⟨hE2.out.trans (if_pos (show (0 : Int) ≤ t by omega)), by decide⟩
        clear hE2
        go_wp2
        refine bodyPost_ret (v := .tuple #[.agg #[.slice none 0 0, .slice none 0 0], .int .i64 6]) (by simp [results, Tryz.results7, go_sem, ks0, ks1]) rfl ?_
        exact NPost.err hE3.out ((hT3.below.setCell (p := ⟨w.heap.size + 1, 0, none⟩) (Nat.le_add_right _ _) _).setCell (p := ⟨w.heap.size + 1, 1, none⟩) (Nat.le_add_right _ _) _)
  · obtain ⟨t, ht⟩ : ∃ t, chkN n vs ln ls = t := ⟨_, rfl⟩
    have hck := checkN_is x n c vs lx ln lc ls t ht w0 (hp.later hT0.below) hn hnc (hl.later hT0.below) hln
    rw [ht] at hc0
    have hE1 : Hid (makeE n vs ln ls id = t ∧ t ≠ 0) := ⟨by rw [hE.out, ht, if_neg hc0], hc0⟩
    have hne : (t != 0) = true := by simpa using hc0
    clear hE ht
    go_wp2_with fail
    refine hck.mono ?_
    rintro e w1 ⟨rfl, hb⟩
    have hT1 := hT0.later hb
    clear k0 k1 ks0 ks1 kz0 kz1
    have k0 : w1.cell? ⟨w.heap.size, 0, none⟩ = some (.slice x n c) := (box_cells hT1.hb).1 0
    have k1 : w1.cell? ⟨w.heap.size, 1, none⟩ = some (.slice lx ln lc) := (box_cells hT1.hb).1 1
    have ks0 : w1.cell? ⟨w.heap.size + 1, 0, none⟩ = some (.slice none 0 0) := (box_cells hT1.hs).1 0
    have ks1 : w1.cell? ⟨w.heap.size + 1, 1, none⟩ = some (.slice none 0 0) := (box_cells hT1.hs).1 1
    have kz0 := (box_cells hT1.hs).2 0
    have kz1 := (box_cells hT1.hs).2 1
    clear hck
    go_wp2
    refine bodyPost_ret (v := .tuple #[.agg #[.slice none 0 0, .slice none 0 0], .int .i64 t]) (by simp [results, Tryz.results7, go_sem, ks0, ks1]) rfl ?_
    exact NPost.err hE1.out ((hT1.below.setCell (p := ⟨w.heap.size + 1, 0, none⟩) (Nat.le_add_right _ _) _).setCell (p := ⟨w.heap.size + 1, 1, none⟩) (Nat.le_add_right _ _) _)
end Go.Proofs.YtlalgkjollgcbaaGreat
/- Part of package net. -/
namespace Go.Proofs.YtlalgkjollgcbaaGreat
open Go.RowKit Go.Shelf

theorem indexLk_is (a l : Int) (x : Option Addr) (n c : Nat) (ps : List (Int × Int)) (t : Int) (h : fstAt n (eqLk ps a l) = t) (w : World) (hp : PS w x n ps) (hn : n ≤ 64) :
    Calls Tryz.prog 45 #[.slice x n c, .agg #[.int .i64 a, .int .i64 l]] w fun e w' => e = .returned (.int .i64 t) ∧ Below w.heap.size w w' := by
  refine (indexLk_any a l x n c ps w hp hn).mono ?_
  rintro e w' ⟨⟨r, rfl, hr⟩, hb⟩
  refine ⟨?_, hb⟩
  rcases fstAt_cases n (eqLk ps a l) with ⟨i, hi, hf, hno, he⟩ | ⟨hno, he⟩
  · rcases hr with ⟨j, hj, hfj, hnoj, rfl⟩ | ⟨hno2, -⟩
    · have : i = j := by
        rcases Nat.lt_trichotomy i j with h1 | h1 | h1
        · rw [hnoj i h1] at hf; cases hf
        · exact h1
        · rw [hno j h1] at hfj; cases hfj
      subst this
      rw [← h, he]
    · rw [hno2 i hi] at hf; cases hf
  · rcases hr with ⟨j, hj, hfj, -, -⟩ | ⟨-, rfl⟩
    · rw [hno j hj] at hfj; cases hfj
    · rw [← h, he]
theorem Von.grown {w w' : World} {base g : Nat} {v : Vn} {cs : Array Value} {t : TypeId} (h : Von w base v) (hg : w.grownBy w' (some g)) (hb : w.heap[g]? = some (.cells cs t)) (h0 : t ≠ 29) (h1 : t ≠ 90) (h2 : t ≠ 99) (h3 : t ≠ 3) : Von w' base v :=
  ⟨h.1.kept hg (fun k hk e => by subst e; exact h.1.ne hb h0 hk), h.2.row.kept hg (fun k hk e => by subst e; exact h.2.row.ne hb h1 hk), fun i hi => (h.2.own i hi).kept_of hg hb h2 h3, h.2.apart⟩
def partE (n : Nat) (vs : List Vn) (ln : Nat) (ls : List (Int × Int)) (a b : Int) : Int :=
  if chkN n vs ln ls = 0 then (if jnB ln ls a b = true then 0 else 5) else chkN n vs ln ls
/-- The link is gone. -/
def CutLk (a b : Int) (ls ms : List (Int × Int)) : Prop := ∃ i, i < ls.length ∧ eqLk ls (min a b) (max a b) i = true ∧ ms = ls.take i ++ ls.drop (i + 1)
def PartR (vs : List Vn) (ls : List (Int × Int)) (a b : Int) (us : List Vn) (ms : List (Int × Int)) : Prop := sameVs vs us ∧ CutLk a b ls ms
theorem OwnK.block {w : World} {base g n cap : Nat} {fs : List (Int × Int)} (h : OwnK w base (.slice (some ⟨g, 0, none⟩) n cap) fs) : base ≤ g ∧ ∃ cur, w.heap[g]? = some (.cells cur 63) := by
  rcases h.2 with ⟨hv, -⟩ | ⟨g', cap', cur, hv, h1, h2, -⟩
  · simp at hv
  · simp only [Value.slice.injEq, Option.some.injEq, Addr.mk.injEq] at hv
    obtain ⟨⟨rfl, -⟩, -, rfl⟩ := hv
    exact ⟨h1, cur, h2⟩
theorem OwnK.held {w : World} {base : Nat} {v : Value} {fs : List (Int × Int)} (h : OwnK w base v fs) (hf : 0 < fs.length) : ∃ g cap, v = .slice (some ⟨g, 0, none⟩) fs.length cap ∧ fs.length ≤ cap ∧ cap ≤ 9223372036854775807 := by
  obtain ⟨x2, c2, he2, h1, h2, -⟩ := h.mem
  rcases h.2 with ⟨-, h0⟩ | ⟨g, cap, cur, hv, -⟩
  · omega
  · rw [he2] at hv
    simp only [Value.slice.injEq] at hv
    obtain ⟨rfl, -, rfl⟩ := hv
    exact ⟨g, c2, he2, h1, h2⟩

set_option maxRecDepth 100000 in
set_option maxHeartbeats 6400000 in
theorem part_any (x : Option Addr) (n c : Nat) (vs : List Vn) (lx : Option Addr) (ln lc : Nat) (ls : List (Int × Int)) (a b : Int) (w : World) (hp : VS w x n vs) (hn : n ≤ 9223372036854775807) (hnc : n ≤ c) (hl : PS w lx ln ls) (hln : ln ≤ 9223372036854775807) :
    Calls Tryz.prog 19 #[.agg #[.slice x n c, .slice lx ln lc], .int .i64 a, .int .i64 b] w (NPost (partE n vs ln ls a b) (PartR vs ls a b) w) := by
  have hvl : Hid (vs.length = n) := hp.len
  have hll : Hid (ls.length = ln) := hl.len
  have hE : Hid (partE n vs ln ls a b = if chkN n vs ln ls = 0 then (if jnB ln ls a b = true then 0 else 5) else chkN n vs ln ls) := rfl
  go_enter Tryz.func19, Tryz.ntmps19
  go_upto_region 1 with fail
  obtain ⟨w0, hw0⟩ : ∃ w0, w0 = (w.alloc (netO x n c lx ln lc)).alloc (netB (.slice none 0 0) (.slice none 0 0)) := ⟨_, rfl⟩
  rw [← hw0]
  have hT0 : TM w w0 x n c lx ln lc := by
    rw [hw0]
    exact ⟨heap_old _ (heap_new _ rfl), heap_new _ (by simp), bl2 w _ _⟩
  clear hw0
  have k0 : w0.cell? ⟨w.heap.size, 0, none⟩ = some (.slice x n c) := (box_cells hT0.hb).1 0
  have k1 : w0.cell? ⟨w.heap.size, 1, none⟩ = some (.slice lx ln lc) := (box_cells hT0.hb).1 1
  have ks0 : w0.cell? ⟨w.heap.size + 1, 0, none⟩ = some (.slice none 0 0) := (box_cells hT0.hs).1 0
  have ks1 : w0.cell? ⟨w.heap.size + 1, 1, none⟩ = some (.slice none 0 0) := (box_cells hT0.hs).1 1
  have kz0 := (box_cells hT0.hs).2 0
  have kz1 := (box_cells hT0.hs).2 1
  by_cases hc0 : chkN n vs ln ls = 0
  · have hck := checkN_is x n c vs lx ln lc ls 0 hc0 w0 (hp.later hT0.below) hn hnc (hl.later hT0.below) hln
    obtain ⟨h6, h12, hfew⟩ := few_of hc0
    have hE1 : Hid (partE n vs ln ls a b = if jnB ln ls a b = true then 0 else 5) := hE.out.trans (if_pos hc0)
    clear hc0 hE
    go_wp2_with fail
    refine hck.mono ?_
    rintro e w1 ⟨rfl, hb⟩
    have hT1 := hT0.later hb
    clear k0 k1 ks0 ks1 kz0 kz1
    have k0 : w1.cell? ⟨w.heap.size, 0, none⟩ = some (.slice x n c) := (box_cells hT1.hb).1 0
    have k1 : w1.cell? ⟨w.heap.size, 1, none⟩ = some (.slice lx ln lc) := (box_cells hT1.hb).1 1
    have ks0 : w1.cell? ⟨w.heap.size + 1, 0, none⟩ = some (.slice none 0 0) := (box_cells hT1.hs).1 0
    have ks1 : w1.cell? ⟨w.heap.size + 1, 1, none⟩ = some (.slice none 0 0) := (box_cells hT1.hs).1 1
    have kz0 := (box_cells hT1.hs).2 0
    have kz1 := (box_cells hT1.hs).2 1
    clear hck
    have hjn : Hid (jnB ln ls a b = anyAt ln (eqLk ls (min a b) (max a b))) := rfl
    obtain ⟨t, ht⟩ : ∃ t, fstAt ln (eqLk ls (min a b) (max a b)) = t := ⟨_, rfl⟩
    have hix := fun W (hW : Below w1.heap.size w1 W) => indexLk_is (min a b) (max a b) lx ln lc ls t ht W ((hl.later hT1.below).later hW) (by omega)
    have a0 := Ws.here k1
    go_upto_region 4 with fail
    go_cut [9] (fun v wc => v = .int .i64 t ∧ Below w1.heap.size w1 wc)
    case first =>
      clear k0 k1 ks0 ks1 kz0 kz1
      refine wp_region_ws w1.heap.size (by kernel_rfl) (by kernel_rfl) ?_
      repeat (go_big_quiet_step (first | (go_at_call 41; exact Calls.in_ws (Nat.le_refl _) (netLink_any _ _ _)) | (go_at_call 45; exact Calls.in_ws (Nat.le_refl _) (hix _ (Ws.property _)))))
      refine wpQuiet_nil ?_
      rintro _ ⟨u, rfl⟩
      have hu := u.property
      generalize u.val = wu at hu ⊢
      clear u a0
      go_wp2
      go_meet
      case rel => exact ⟨rfl, hu⟩
    case rest =>
      obtain ⟨rfl, hBc⟩ := hcut
      have hT2 := hT1.later hBc
      clear k0 k1 ks0 ks1 kz0 kz1
      clear a0 hix
      have k0 : wc.cell? ⟨w.heap.size, 0, none⟩ = some (.slice x n c) := (box_cells hT2.hb).1 0
      have k1 : wc.cell? ⟨w.heap.size, 1, none⟩ = some (.slice lx ln lc) := (box_cells hT2.hb).1 1
      have ks0 : wc.cell? ⟨w.heap.size + 1, 0, none⟩ = some (.slice none 0 0) := (box_cells hT2.hs).1 0
      have ks1 : wc.cell? ⟨w.heap.size + 1, 1, none⟩ = some (.slice none 0 0) := (box_cells hT2.hs).1 1
      have kz0 := (box_cells hT2.hs).2 0
      have kz1 := (box_cells hT2.hs).2 1
      rcases fstAt_cases ln (eqLk ls (min a b) (max a b)) with ⟨i, hi, hf, hno, hfp⟩ | ⟨hno, hfp⟩
      · obtain rfl : t = i := ht.symm.trans hfp
        have hE2 : Hid (partE n vs ln ls a b = 0) := hE1.out.trans (if_pos (by rw [hjn.out]; exact any_yes hi hf))
        have hi' : Hid (i < ln ∧ eqLk ls (min a b) (max a b) i = true) := ⟨hi, hf⟩
        have hi0 : ¬ ((i : Int) < 0) := by omega
        have hfn := freshNet_any x n c vs lx ln lc ls wc (hp.later hT2.below) (by omega) (hl.later hT2.below) (by omega) hfew
        clear hE1 hjn ht hfp hf hno
        go_wp2_with fail
        refine hfn.mono ?_
        rintro e w4 ⟨vV, vK, us, rfl, hsv, hOV, hVo, hOK, hb4⟩
        have hT4 := hT2.later hb4
        clear hfn
        obtain ⟨g, cap, hvK, hgc, hg63⟩ := hOK.held (by rw [hll.out]; omega)
        obtain ⟨X, C, hvV, -⟩ := hOV.mem
        obtain ⟨kk, hkk⟩ : ∃ kk, Hid (ls.length = kk + 1) := ⟨ls.length - 1, by show _ = _; rw [hll.out]; omega⟩
        rw [hkk.out] at hvK hgc
        subst hvV
        subst hvK
        have hw3s : Hid (w.heap.size + 1 < wc.heap.size) := (Array.getElem?_eq_some_iff.1 hT2.hs).1
        have hik : i ≤ kk := by have := hkk.out; have := hll.out; omega
        clear k0 k1 ks0 ks1 kz0 kz1
        go_upto_region 8 with fail
        obtain ⟨w5, hw5⟩ : ∃ w5, w5 = w4.alloc (netB (.slice X us.length C) (.slice (some ⟨g, 0, none⟩) (kk + 1) cap)) := ⟨_, rfl⟩
        rw [← hw5]
        have hb5 : Below w4.heap.size w4 w5 := by rw [hw5]; exact bl1 w4 _
        have hbx5 : w5.heap[w4.heap.size]? = some (netB (.slice X us.length C) (.slice (some ⟨g, 0, none⟩) (kk + 1) cap)) := by rw [hw5]; exact heap_new _ rfl
        clear hw5
        have hT5 := hT4.later hb5
        have hOK5 := hOK.later hb5
        have hOV5 := hOV.later hb5
        have m1 : w5.cell? ⟨w4.heap.size, 1, none⟩ = some (.slice (some ⟨g, 0, none⟩) (kk + 1) cap) := (box_cells hbx5).1 1
        have hdel := deleteK_any wc.heap.size g kk cap i (i + 1) ls w5 hOK5 hkk.out hik rfl (by have := hkk.out; have := hll.out; omega) hgc hg63
        have hw63 : IntKind.i64.wrap ((i : Int) + 1) = (i : Int) + 1 := by rw [IntKind.wrap_i64]; omega
        obtain ⟨hgb, cur, hcur⟩ := hOK5.block
        have hkk6 : kk ≤ 12 := by have := hkk.out; have := hll.out; omega
        go_wp2_with fail
        refine hdel.mono ?_
        rintro e w6 ⟨rfl, hO6, hg6⟩
        have hbg : w4.heap.size ≠ g := fun e => by rw [← e, hbx5] at hcur; simp at hcur
        have hng : g ≠ w.heap.size ∧ g ≠ w.heap.size + 1 := by have := hw3s.out; omega
        have hT6 : TM w w6 x n c lx ln lc := ⟨grown_box hg6 (fun e => hng.1 e.symm) hT5.hb, grown_box hg6 (fun e => hng.2 e.symm) hT5.hs, below_grownr hT5.below hg6 (fun q e => by cases e; have := hw3s.out; omega)⟩
        have hbx6 := grown_box hg6 hbg hbx5
        have hOV6 : OwnV w6 wc.heap.size (.slice X us.length C) us := hOV5.kept hg6 (fun q hq e => by subst e; exact hOV5.ne hcur (by decide) hq)
        have hVo6 : ∀ i, i < us.length → Von w6 wc.heap.size (vnAt us i) := fun i hi => ((hVo i hi).later hb5).grown hg6 hcur (by decide) (by decide) (by decide) (by decide)
        have hR : Hid (PartR vs ls a b us (ls.take i ++ ls.drop (i + 1))) := ⟨hsv, i, by rw [hll.out]; exact hi'.out.1, hi'.out.2, rfl⟩
        have hml : Hid ((ls.take i ++ ls.drop (i + 1)).length = kk) := by show _ = _; have := hkk.out; simp; omega
        obtain ⟨ms, hms⟩ : ∃ ms, ms = ls.take i ++ ls.drop (i + 1) := ⟨_, rfl⟩
        rw [← hms] at hO6 hR hml
        have g1 : w6.cell? ⟨w4.heap.size, 1, none⟩ = some (.slice (some ⟨g, 0, none⟩) (kk + 1) cap) := (box_cells hbx6).1 1
        have gz := (box_cells hbx6).2 1
        clear m1 hdel hw63 hms hOV5 hVo hOK5 hOK hOV hg6
        go_upto_region 9 with fail
        obtain ⟨w7, hw7⟩ : ∃ w7, w7 = w6.setCell ⟨w4.heap.size, 1, none⟩ (.slice (some ⟨g, 0, none⟩) kk cap) := ⟨_, rfl⟩
        rw [← hw7]
        have hbx7 : w7.heap[w4.heap.size]? = some (netB (.slice X us.length C) (.slice (some ⟨g, 0, none⟩) kk cap)) := by
          rw [hw7]
          simpa using heap_setCell_same w6 w4.heap.size 1 _ _ (.slice (some ⟨g, 0, none⟩) kk cap) hbx6
        have hne0 : w.heap.size ≠ w4.heap.size := by have := hw3s.out; have := hb4.size; omega
        have hne1 : w.heap.size + 1 ≠ w4.heap.size := by have := hw3s.out; have := hb4.size; omega
        have hT7 : TM w w7 x n c lx ln lc := by
          rw [hw7]
          exact ⟨(heap_setCell_other _ _ _ _ hne0).trans hT6.hb, (heap_setCell_other _ _ _ _ hne1).trans hT6.hs, hT6.below.setCell (p := ⟨w4.heap.size, 1, none⟩) (by show w.heap.size ≤ w4.heap.size; have := hw3s.out; have := hb4.size; omega) _⟩
        have hO7 : OwnV w7 wc.heap.size (.slice X us.length C) us := by rw [hw7]; exact hOV6.putBox hbx6 (by decide)
        have hVo7 : ∀ i, i < us.length → Von w7 wc.heap.size (vnAt us i) := fun i hi => by rw [hw7]; exact (hVo6 i hi).putBox hbx6 (by decide) (by decide) (by decide) (by decide)
        have hOK7 : OwnK w7 wc.heap.size (.slice (some ⟨g, 0, none⟩) kk cap) ms := by rw [hw7]; exact hO6.putBox hbx6 (by decide)
        clear hw7 g1 gz hOV6 hVo6 hO6 hbx6 hT6
        have g0 : w7.cell? ⟨w4.heap.size, 0, none⟩ = some (.slice X us.length C) := (box_cells hbx7).1 0
        have g1 : w7.cell? ⟨w4.heap.size, 1, none⟩ = some (.slice (some ⟨g, 0, none⟩) kk cap) := (box_cells hbx7).1 1
        have k0 : w7.cell? ⟨w.heap.size, 0, none⟩ = some (.slice x n c) := (box_cells hT7.hb).1 0
        have k1 : w7.cell? ⟨w.heap.size, 1, none⟩ = some (.slice lx ln lc) := (box_cells hT7.hb).1 1
        have ks0 : w7.cell? ⟨w.heap.size + 1, 0, none⟩ = some (.slice none 0 0) := (box_cells hT7.hs).1 0
        have ks1 : w7.cell? ⟨w.heap.size + 1, 1, none⟩ = some (.slice none 0 0) := (box_cells hT7.hs).1 1
        have kz0 := (box_cells hT7.hs).2 0
        have kz1 := (box_cells hT7.hs).2 1
        go_wp2
        refine bodyPost_ret (v := .tuple #[.agg #[.slice X us.length C, .slice (some ⟨g, 0, none⟩) kk cap], .int .i64 0]) (by simp [results, Tryz.results19, go_sem, ks0, ks1]) rfl ?_
        exact NPost.ok hE2.out ((hT7.below.setCell (p := ⟨w.heap.size + 1, 0, none⟩) (Nat.le_add_right _ _) _).setCell (p := ⟨w.heap.size + 1, 1, none⟩) (Nat.le_add_right _ _) _) (us := us) (ms := ms) (NO.of ((hO7.put hw3s.out).put hw3s.out) (by have := hw3s.out; omega) (b2 := wc.heap.size) (fun u hu => by
          obtain ⟨j, hj, rfl⟩ := mem_vnAt hu
          exact ((hVo7 j hj).put hw3s.out).put hw3s.out) (by have := hw3s.out; omega) ((hOK7.put hw3s.out).put hw3s.out) (by have := hw3s.out; omega)) hR.out
      · obtain rfl : t = -1 := ht.symm.trans hfp
        have hE2 : Hid (partE n vs ln ls a b = 5 ∧ (5 : Int) ≠ 0) := ⟨hE1.out.trans (if_neg (by rw [hjn.out, any_no hno]; decide)), by decide⟩
        clear hE1 hjn ht hfp hno
        go_wp2
        refine bodyPost_ret (v := .tuple #[.agg #[.slice none 0 0, .slice none 0 0], .int .i64 5]) (by simp [results, Tryz.results19, go_sem, ks0, ks1]) rfl ?_
        exact NPost.err hE2.out ((hT2.below.setCell (p := ⟨w.heap.size + 1, 0, none⟩) (Nat.le_add_right _ _) _).setCell (p := ⟨w.heap.size + 1, 1, none⟩) (Nat.le_add_right _ _) _)
  · obtain ⟨t, ht⟩ : ∃ t, chkN n vs ln ls = t := ⟨_, rfl⟩
    have hck := checkN_is x n c vs lx ln lc ls t ht w0 (hp.later hT0.below) hn hnc (hl.later hT0.below) hln
    rw [ht] at hc0
    have hE1 : Hid (partE n vs ln ls a b = t ∧ t ≠ 0) := ⟨by rw [hE.out, ht, if_neg hc0], hc0⟩
    have hne : (t != 0) = true := by simpa using hc0
    clear hE ht
    go_wp2_with fail
    refine hck.mono ?_
    rintro e w1 ⟨rfl, hb⟩
    have hT1 := hT0.later hb
    clear k0 k1 ks0 ks1 kz0 kz1
    have k0 : w1.cell? ⟨w.heap.size, 0, none⟩ = some (.slice x n c) := (box_cells hT1.hb).1 0
    have k1 : w1.cell? ⟨w.heap.size, 1, none⟩ = some (.slice lx ln lc) := (box_cells hT1.hb).1 1
    have ks0 : w1.cell? ⟨w.heap.size + 1, 0, none⟩ = some (.slice none 0 0) := (box_cells hT1.hs).1 0
    have ks1 : w1.cell? ⟨w.heap.size + 1, 1, none⟩ = some (.slice none 0 0) := (box_cells hT1.hs).1 1
    have kz0 := (box_cells hT1.hs).2 0
    have kz1 := (box_cells hT1.hs).2 1
    clear hck
    go_wp2
    refine bodyPost_ret (v := .tuple #[.agg #[.slice none 0 0, .slice none 0 0], .int .i64 t]) (by simp [results, Tryz.results19, go_sem, ks0, ks1]) rfl ?_
    exact NPost.err hE1.out ((hT1.below.setCell (p := ⟨w.heap.size + 1, 0, none⟩) (Nat.le_add_right _ _) _).setCell (p := ⟨w.heap.size + 1, 1, none⟩) (Nat.le_add_right _ _) _)
end Go.Proofs.YtlalgkjollgcbaaGreat
/- Join of package net. -/
namespace Go.Proofs.YtlalgkjollgcbaaGreat
open Go.RowKit Go.Shelf

theorem Hid.mk' {p : Prop} (h : p) : Hid p := h
/-- Where a link's place is. -/
def posLk (p : Int × Int) (ls : List (Int × Int)) : Nat := ((List.range ls.length).find? fun i => lkLt p (lkAt ls i)).getD ls.length
/-- The links with one more, at its place. -/
def insLk (p : Int × Int) (ls : List (Int × Int)) : List (Int × Int) := ls.take (posLk p ls) ++ [p] ++ ls.drop (posLk p ls)
theorem posLk_is {p : Int × Int} {ls : List (Int × Int)} {i : Nat} (hi : i ≤ ls.length) (hlo : ∀ j, j < i → lkLt p (lkAt ls j) = false) (hup : i < ls.length → lkLt p (lkAt ls i) = true) : posLk p ls = i := by
  unfold posLk
  by_cases h : i < ls.length
  · have : (List.range ls.length).find? (fun i => lkLt p (lkAt ls i)) = some i := by
      rw [List.find?_range_eq_some]
      exact ⟨hup h, by simpa using h, fun j hj => by simpa using hlo j hj⟩
    rw [this]
    rfl
  · obtain rfl : i = ls.length := by omega
    have : (List.range ls.length).find? (fun i => lkLt p (lkAt ls i)) = none := by
      rw [List.find?_eq_none]
      intro j hj
      rw [hlo j (by simpa using hj)]
      decide
    rw [this]
    rfl
theorem ins_at {p : Int × Int} {ls : List (Int × Int)} {i : Nat} (hi : i ≤ ls.length) (hlo : ∀ j, j < i → lkLt p (lkAt ls j) = false) (hup : i < ls.length → lkLt p (lkAt ls i) = true) : insLk p ls = ls.take i ++ [p] ++ ls.drop i := by
  unfold insLk
  rw [posLk_is hi hlo hup]
theorem ins_mem {p q : Int × Int} {ls : List (Int × Int)} : q ∈ insLk p ls ↔ q = p ∨ q ∈ ls := by
  unfold insLk
  conv => rhs; rw [← List.take_append_drop (posLk p ls) ls]
  simp only [List.mem_append, List.mem_cons, List.not_mem_nil, or_false]
  constructor
  · rintro ((h | h) | h)
    · exact .inr (.inl h)
    · exact .inl h
    · exact .inr (.inr h)
  · rintro (h | h | h)
    · exact .inl (.inr h)
    · exact .inl (.inl h)
    · exact .inr h
theorem ins_len {p : Int × Int} {ls : List (Int × Int)} : (insLk p ls).length = ls.length + 1 := by
  have h1 : ls.length = (ls.take (posLk p ls)).length + (ls.drop (posLk p ls)).length := by
    rw [← List.length_append, List.take_append_drop]
  unfold insLk
  rw [List.length_append, List.length_append, List.length_singleton]
  omega
theorem all_sameN {n : Nat} {f g : Nat → Bool} (h : ∀ i, i < n → f i = g i) : (List.range n).all f = (List.range n).all g := by
  rw [Bool.eq_iff_iff, List.all_eq_true, List.all_eq_true]
  constructor
  · intro h1 i hi
    rw [← h i (by simpa using hi)]
    exact h1 i hi
  · intro h1 i hi
    rw [h i (by simpa using hi)]
    exact h1 i hi
theorem ids_same {vs us : List Vn} (h : sameVs vs us) : idsOf us = idsOf vs := by
  unfold idsOf
  refine List.ext_getElem (by simp [h.1]) fun i h1 h2 => ?_
  have hi : i < vs.length := by simpa using h2
  have hj : i < us.length := by rw [← h.1]; exact hi
  rw [List.getElem_map, List.getElem_map, ← vnAt_get hi, ← vnAt_get hj, (h.2 i hi).1]
theorem apB_same {ms : List (Int × Int)} {n : Nat} {vs us : List Vn} (hl : vs.length = n) (h : sameVs vs us) : apB ms n us = apB ms n vs := by
  unfold apB
  refine all_sameN fun i hi => ?_
  unfold apAt
  refine all_sameN fun j hj => ?_
  unfold clsh
  obtain ⟨a1, a2, a3, -⟩ := h.2 i (by omega)
  obtain ⟨b1, b2, b3, -⟩ := h.2 j (by omega)
  rw [a1, a2, a3, b1, b2, b3]
def joinE (n : Nat) (vs : List Vn) (ln : Nat) (ls : List (Int × Int)) (a b : Int) : Int :=
  if chkN n vs ln ls = 0 then (if a = b then 3 else if vplace n vs a < 0 then 5 else if vplace n vs b < 0 then 5 else if jnB ln ls a b = true then 6 else if apB (insLk (min a b, max a b) ls) n vs = false then 9 else if ln = 12 then 2 else 0) else chkN n vs ln ls
def JoinR (vs : List Vn) (ls : List (Int × Int)) (a b : Int) (us : List Vn) (ms : List (Int × Int)) : Prop := sameVs vs us ∧ ms = insLk (min a b, max a b) ls

set_option maxRecDepth 100000 in
set_option maxHeartbeats 6400000 in
theorem join_any (x : Option Addr) (n c : Nat) (vs : List Vn) (lx : Option Addr) (ln lc : Nat) (ls : List (Int × Int)) (a b : Int) (w : World) (hp : VS w x n vs) (hn : n ≤ 9223372036854775807) (hnc : n ≤ c) (hl : PS w lx ln ls) (hln : ln ≤ 9223372036854775807) :
    Calls Tryz.prog 18 #[.agg #[.slice x n c, .slice lx ln lc], .int .i64 a, .int .i64 b] w (NPost (joinE n vs ln ls a b) (JoinR vs ls a b) w) := by
  have hvl : Hid (vs.length = n) := hp.len
  have hll : Hid (ls.length = ln) := hl.len
  obtain ⟨E, hEE⟩ : ∃ E, E = joinE n vs ln ls a b := ⟨_, rfl⟩
  rw [← hEE]
  unfold joinE at hEE
  replace hEE := Hid.mk' hEE
  go_enter Tryz.func18, Tryz.ntmps18
  go_upto_region 1 with fail
  obtain ⟨w0, hw0⟩ : ∃ w0, w0 = (w.alloc (netO x n c lx ln lc)).alloc (netB (.slice none 0 0) (.slice none 0 0)) := ⟨_, rfl⟩
  rw [← hw0]
  have hT0 : TM w w0 x n c lx ln lc := by
    rw [hw0]
    exact ⟨heap_old _ (heap_new _ rfl), heap_new _ (by simp), bl2 w _ _⟩
  clear hw0
  have k0 : w0.cell? ⟨w.heap.size, 0, none⟩ = some (.slice x n c) := (box_cells hT0.hb).1 0
  have k1 : w0.cell? ⟨w.heap.size, 1, none⟩ = some (.slice lx ln lc) := (box_cells hT0.hb).1 1
  have ks0 : w0.cell? ⟨w.heap.size + 1, 0, none⟩ = some (.slice none 0 0) := (box_cells hT0.hs).1 0
  have ks1 : w0.cell? ⟨w.heap.size + 1, 1, none⟩ = some (.slice none 0 0) := (box_cells hT0.hs).1 1
  have kz0 := (box_cells hT0.hs).2 0
  have kz1 := (box_cells hT0.hs).2 1
  by_cases hc0 : chkN n vs ln ls = 0
  · have hck := checkN_is x n c vs lx ln lc ls 0 hc0 w0 (hp.later hT0.below) hn hnc (hl.later hT0.below) hln
    obtain ⟨h6, h12, hfew⟩ := few_of hc0
    rw [if_pos hc0] at hEE
    obtain ⟨-, -, hvb, hlb, -⟩ := chkN_zero hc0
    have hvf := vpcs_few hvb
    have hlk0 : Hid (∀ q ∈ ls, q.1 ∈ idsOf vs ∧ q.2 ∈ idsOf vs) := fun q hq => by
      obtain ⟨-, ⟨k1, h1, e1⟩, k2, h2, e2⟩ := links_in hvl.out hll.out hlb q hq
      rw [← e1, ← e2]
      exact ⟨ids_mem (by rw [hvl.out]; exact h1), ids_mem (by rw [hvl.out]; exact h2)⟩
    clear hc0 hvb hlb
    by_cases hab : a = b
    · rw [if_pos hab] at hEE
      have hE2 : Hid (E = 3 ∧ (3 : Int) ≠ 0) := ⟨hEE.out, by decide⟩
      have hab' : (a == b) = true := by simpa using hab
      clear hEE hab
      go_wp2_with fail
      refine hck.mono ?_
      rintro e w1 ⟨rfl, hb⟩
      have hT1 := hT0.later hb
      clear k0 k1 ks0 ks1 kz0 kz1
      have k0 : w1.cell? ⟨w.heap.size, 0, none⟩ = some (.slice x n c) := (box_cells hT1.hb).1 0
      have k1 : w1.cell? ⟨w.heap.size, 1, none⟩ = some (.slice lx ln lc) := (box_cells hT1.hb).1 1
      have ks0 : w1.cell? ⟨w.heap.size + 1, 0, none⟩ = some (.slice none 0 0) := (box_cells hT1.hs).1 0
      have ks1 : w1.cell? ⟨w.heap.size + 1, 1, none⟩ = some (.slice none 0 0) := (box_cells hT1.hs).1 1
      have kz0 := (box_cells hT1.hs).2 0
      have kz1 := (box_cells hT1.hs).2 1
      clear hck
      go_wp2
      refine bodyPost_ret (v := .tuple #[.agg #[.slice none 0 0, .slice none 0 0], .int .i64 3]) (by simp [results, Tryz.results18, go_sem, ks0, ks1]) rfl ?_
      exact NPost.err hE2.out ((hT1.below.setCell (p := ⟨w.heap.size + 1, 0, none⟩) (Nat.le_add_right _ _) _).setCell (p := ⟨w.heap.size + 1, 1, none⟩) (Nat.le_add_right _ _) _)
    rw [if_neg hab] at hEE
    have hab' : (a == b) = false := by simpa using hab
    clear hab
    go_wp2_with fail
    refine hck.mono ?_
    rintro e w1 ⟨rfl, hb⟩
    have hT1 := hT0.later hb
    clear k0 k1 ks0 ks1 kz0 kz1
    have k0 : w1.cell? ⟨w.heap.size, 0, none⟩ = some (.slice x n c) := (box_cells hT1.hb).1 0
    have k1 : w1.cell? ⟨w.heap.size, 1, none⟩ = some (.slice lx ln lc) := (box_cells hT1.hb).1 1
    have ks0 : w1.cell? ⟨w.heap.size + 1, 0, none⟩ = some (.slice none 0 0) := (box_cells hT1.hs).1 0
    have ks1 : w1.cell? ⟨w.heap.size + 1, 1, none⟩ = some (.slice none 0 0) := (box_cells hT1.hs).1 1
    have kz0 := (box_cells hT1.hs).2 0
    have kz1 := (box_cells hT1.hs).2 1
    clear hck
    obtain ⟨ta, hta⟩ : ∃ t, vplace n vs a = t := ⟨_, rfl⟩
    obtain ⟨tb, htb⟩ : ∃ t, vplace n vs b = t := ⟨_, rfl⟩
    have hpa := place_is a x n c vs lx ln lc ta hta w1 (hp.later hT1.below) (by omega)
    have hmA : Hid (0 ≤ ta → a ∈ idsOf vs) := fun h => vplace_mem hvl.out (by rw [hta]; omega)
    have hmB : Hid (0 ≤ tb → b ∈ idsOf vs) := fun h => vplace_mem hvl.out (by rw [htb]; omega)
    have hpb := fun W (hW : Below w1.heap.size w1 W) => place_is b x n c vs lx ln lc tb htb W ((hp.later hT1.below).later hW) (by omega)
    rw [hta, htb] at hEE
    clear hta htb
    by_cases ha0 : ta < 0
    · rw [if_pos ha0] at hEE
      have hE2 : Hid (E = 5 ∧ (5 : Int) ≠ 0) := ⟨hEE.out, by decide⟩
      clear hEE hpb hmA hmB
      go_wp2_with fail
      refine hpa.mono ?_
      rintro e w2 ⟨rfl, hb⟩
      have hT2 := hT1.later hb
      clear k0 k1 ks0 ks1 kz0 kz1
      have k0 : w2.cell? ⟨w.heap.size, 0, none⟩ = some (.slice x n c) := (box_cells hT2.hb).1 0
      have k1 : w2.cell? ⟨w.heap.size, 1, none⟩ = some (.slice lx ln lc) := (box_cells hT2.hb).1 1
      have ks0 : w2.cell? ⟨w.heap.size + 1, 0, none⟩ = some (.slice none 0 0) := (box_cells hT2.hs).1 0
      have ks1 : w2.cell? ⟨w.heap.size + 1, 1, none⟩ = some (.slice none 0 0) := (box_cells hT2.hs).1 1
      have kz0 := (box_cells hT2.hs).2 0
      have kz1 := (box_cells hT2.hs).2 1
      clear hpa
      go_wp2
      refine bodyPost_ret (v := .tuple #[.agg #[.slice none 0 0, .slice none 0 0], .int .i64 5]) (by simp [results, Tryz.results18, go_sem, ks0, ks1]) rfl ?_
      exact NPost.err hE2.out ((hT2.below.setCell (p := ⟨w.heap.size + 1, 0, none⟩) (Nat.le_add_right _ _) _).setCell (p := ⟨w.heap.size + 1, 1, none⟩) (Nat.le_add_right _ _) _)
    rw [if_neg ha0] at hEE
    have hma := hmA.out (by omega)
    go_wp2_with fail
    refine hpa.mono ?_
    rintro e w2 ⟨rfl, hb2⟩
    have hT2 := hT1.later hb2
    have hpb2 := hpb w2 hb2
    clear k0 k1 ks0 ks1 kz0 kz1
    have k0 : w2.cell? ⟨w.heap.size, 0, none⟩ = some (.slice x n c) := (box_cells hT2.hb).1 0
    have k1 : w2.cell? ⟨w.heap.size, 1, none⟩ = some (.slice lx ln lc) := (box_cells hT2.hb).1 1
    have ks0 : w2.cell? ⟨w.heap.size + 1, 0, none⟩ = some (.slice none 0 0) := (box_cells hT2.hs).1 0
    have ks1 : w2.cell? ⟨w.heap.size + 1, 1, none⟩ = some (.slice none 0 0) := (box_cells hT2.hs).1 1
    have kz0 := (box_cells hT2.hs).2 0
    have kz1 := (box_cells hT2.hs).2 1
    clear hpa hpb hmA
    by_cases hb0 : tb < 0
    · rw [if_pos hb0] at hEE
      have hE2 : Hid (E = 5 ∧ (5 : Int) ≠ 0) := ⟨hEE.out, by decide⟩
      clear hEE hmB
      go_wp2_with fail
      refine hpb2.mono ?_
      rintro e w3 ⟨rfl, hb⟩
      have hT3 := hT2.later hb
      clear k0 k1 ks0 ks1 kz0 kz1
      have k0 : w3.cell? ⟨w.heap.size, 0, none⟩ = some (.slice x n c) := (box_cells hT3.hb).1 0
      have k1 : w3.cell? ⟨w.heap.size, 1, none⟩ = some (.slice lx ln lc) := (box_cells hT3.hb).1 1
      have ks0 : w3.cell? ⟨w.heap.size + 1, 0, none⟩ = some (.slice none 0 0) := (box_cells hT3.hs).1 0
      have ks1 : w3.cell? ⟨w.heap.size + 1, 1, none⟩ = some (.slice none 0 0) := (box_cells hT3.hs).1 1
      have kz0 := (box_cells hT3.hs).2 0
      have kz1 := (box_cells hT3.hs).2 1
      clear hpb2
      go_wp2
      refine bodyPost_ret (v := .tuple #[.agg #[.slice none 0 0, .slice none 0 0], .int .i64 5]) (by simp [results, Tryz.results18, go_sem, ks0, ks1]) rfl ?_
      exact NPost.err hE2.out ((hT3.below.setCell (p := ⟨w.heap.size + 1, 0, none⟩) (Nat.le_add_right _ _) _).setCell (p := ⟨w.heap.size + 1, 1, none⟩) (Nat.le_add_right _ _) _)
    rw [if_neg hb0] at hEE
    have hmb := hmB.out (by omega)
    go_wp2_with fail
    refine hpb2.mono ?_
    rintro e w3 ⟨rfl, hb3⟩
    have hT3 := hT2.later hb3
    clear k0 k1 ks0 ks1 kz0 kz1
    have k0 : w3.cell? ⟨w.heap.size, 0, none⟩ = some (.slice x n c) := (box_cells hT3.hb).1 0
    have k1 : w3.cell? ⟨w.heap.size, 1, none⟩ = some (.slice lx ln lc) := (box_cells hT3.hb).1 1
    have ks0 : w3.cell? ⟨w.heap.size + 1, 0, none⟩ = some (.slice none 0 0) := (box_cells hT3.hs).1 0
    have ks1 : w3.cell? ⟨w.heap.size + 1, 1, none⟩ = some (.slice none 0 0) := (box_cells hT3.hs).1 1
    have kz0 := (box_cells hT3.hs).2 0
    have kz1 := (box_cells hT3.hs).2 1
    clear hpb2 hmB
    have hma' : Hid (a ∈ idsOf vs ∧ b ∈ idsOf vs) := ⟨hma, hmb⟩
    clear hma hmb
    obtain ⟨tj, htj⟩ : ∃ t, jnB ln ls a b = t := ⟨_, rfl⟩
    have htj' : anyAt ln (eqLk ls (min a b) (max a b)) = tj := htj
    have hcn := fun W (hW : Below w3.heap.size w3 W) => containsLk_any (min a b) (max a b) lx ln lc ls W ((hl.later hT3.below).later hW) (by omega)
    rw [htj'] at hcn
    rw [htj] at hEE
    clear htj htj'
    have a0 := Ws.here k1
    go_upto_region 7 with fail
    go_cut [30] (fun v wc => v = .bool tj ∧ Below w3.heap.size w3 wc)
    case first =>
      clear k0 k1 ks0 ks1 kz0 kz1
      refine wp_region_ws w3.heap.size (by kernel_rfl) (by kernel_rfl) ?_
      repeat (go_big_quiet_step (first | (go_at_call 41; exact Calls.in_ws (Nat.le_refl _) (netLink_any _ _ _)) | (go_at_call 40; exact Calls.in_ws (Nat.le_refl _) (hcn _ (Ws.property _)))))
      refine wpQuiet_nil ?_
      rintro _ ⟨u, rfl⟩
      have hu := u.property
      generalize u.val = wu at hu ⊢
      clear u a0
      go_wp2
      go_meet
      case rel => exact ⟨rfl, hu⟩
    case rest =>
      obtain ⟨rfl, hBc⟩ := hcut
      obtain ⟨wo, hwo⟩ : ∃ wo, wo = wc := ⟨_, rfl⟩
      subst hwo
      have hTc := hT3.later hBc
      clear k0 k1 ks0 ks1 kz0 kz1
      clear a0 hcn
      have k0 : wo.cell? ⟨w.heap.size, 0, none⟩ = some (.slice x n c) := (box_cells hTc.hb).1 0
      have k1 : wo.cell? ⟨w.heap.size, 1, none⟩ = some (.slice lx ln lc) := (box_cells hTc.hb).1 1
      have ks0 : wo.cell? ⟨w.heap.size + 1, 0, none⟩ = some (.slice none 0 0) := (box_cells hTc.hs).1 0
      have ks1 : wo.cell? ⟨w.heap.size + 1, 1, none⟩ = some (.slice none 0 0) := (box_cells hTc.hs).1 1
      have kz0 := (box_cells hTc.hs).2 0
      have kz1 := (box_cells hTc.hs).2 1
      cases tj with
      | true =>
        rw [if_pos rfl] at hEE
        have hE2 : Hid (E = 6 ∧ (6 : Int) ≠ 0) := ⟨hEE.out, by decide⟩
        clear hEE
        go_wp2
        refine bodyPost_ret (v := .tuple #[.agg #[.slice none 0 0, .slice none 0 0], .int .i64 6]) (by simp [results, Tryz.results18, go_sem, ks0, ks1]) rfl ?_
        exact NPost.err hE2.out ((hTc.below.setCell (p := ⟨w.heap.size + 1, 0, none⟩) (Nat.le_add_right _ _) _).setCell (p := ⟨w.heap.size + 1, 1, none⟩) (Nat.le_add_right _ _) _)
      | false =>
        rw [if_neg (by decide)] at hEE
        have hfn := freshNet_any x n c vs lx ln lc ls wo (hp.later hTc.below) (by omega) (hl.later hTc.below) (by omega) hfew
        have hEH : Hid (E = if apB (insLk (min a b, max a b) ls) n vs = false then 9 else if ln = 12 then 2 else 0) := hEE.out
        clear hEE
        go_wp2_with fail
        refine hfn.mono ?_
        rintro e w4 ⟨vV, vK, us, rfl, hsv, hOV, hVo, hOK, hb4⟩
        have hT4 := hTc.later hb4
        clear hfn
        obtain ⟨X, C, hvV, hVS4, hXC, hC63, -⟩ := hOV.vs (fun u hu => by
          obtain ⟨i, hi, rfl⟩ := mem_vnAt hu
          exact VpOk.of (hVo i hi))
        obtain ⟨Y, D, hvK, hPS4, hYD, hD63, hY0⟩ := hOK.ps
        subst hvV
        subst hvK
        have hul : Hid (us.length = n) := by show _ = _; rw [← hsv.1]; exact hvl.out
        have hw3s : Hid (w.heap.size + 1 < wo.heap.size) := (Array.getElem?_eq_some_iff.1 hTc.hs).1
        have hll12 : ls.length ≤ 12 := by rw [hll.out]; exact h12
        clear k0 k1 ks0 ks1 kz0 kz1
        go_upto_region 12 with fail
        obtain ⟨w5, hw5⟩ : ∃ w5, w5 = w4.alloc (netB (.slice X us.length C) (.slice Y ls.length D)) := ⟨_, rfl⟩
        rw [← hw5]
        have hb5 : Below w4.heap.size w4 w5 := by rw [hw5]; exact bl1 w4 _
        have hbx5 : w5.heap[w4.heap.size]? = some (netB (.slice X us.length C) (.slice Y ls.length D)) := by rw [hw5]; exact heap_new _ rfl
        clear hw5
        have hT5 := hT4.later hb5
        have hPS5 := hPS4.later hb5
        have hput := fun W (hW : Below w5.heap.size w5 W) bf hby hby2 => putK_any (min a b, max a b) Y ls.length D ls bf 2 W (hPS5.later hW) (by omega) hYD hD63 hY0 hby hby2
        have a1 := Ws.here (show w5.cell? ⟨w4.heap.size, 1, none⟩ = some (.slice Y ls.length D) from (box_cells hbx5).1 1)
        go_cut [9] (fun p wd => p = .pointer (some ⟨w4.heap.size, 0, none⟩) ∧ ∃ w6 X6 C6, Below w5.heap.size w5 w6 ∧ OwnK w6 wo.heap.size (.slice X6 (insLk (min a b, max a b) ls).length C6) (insLk (min a b, max a b) ls) ∧ wd = w6.setCell ⟨w4.heap.size, 1, none⟩ (.slice X6 (insLk (min a b, max a b) ls).length C6))
        case first =>
          have hbd : Below w5.heap.size w5 w5.drew := (Below.refl _ _).drew
          refine wp_region_V (fun w' => ∃ u : Ws w5.heap.size w5, w' = u.val) (fun j => decide (j < 7)) 9 _ (by kernel_rfl) rfl rfl ?_
          refine wpV_takes 5 [0, 1, 2, 3] rfl _ rfl (by kernel_rfl) (fun d _ _ _ _ h => by cases d <;> exact h) ⟨⟨_, hbd⟩, rfl⟩ ?_
          simp only [List.map_cons, List.map_nil, List.getD_cons_zero, List.getD_cons_succ]
          repeat (go_big_quiet_step (fail))
          refine wpQuiet_nil ?_
          clear a1
          refine wpV_two 4 5 _ _ _ _ (by kernel_rfl) (by kernel_rfl) rfl rfl rfl rfl ?_ ?_
          · intro K hK
            simp only [List.getD_cons_zero, List.getD_cons_succ]
            go_wp2_with fail
            refine (netLink_any a b w5.drew).mono ?_
            rintro e wl ⟨rfl, hbl⟩

            have hBl : Below w5.heap.size w5 wl := ⟨hbl.os, hbl.tape, hbl.output, hbl.size, hbl.block⟩
            go_wp2_with fail
            refine wildK_normal (hK.out _ _ ⟨⟨_, hBl⟩, rfl⟩ ?_)
            clear hK K

            refine wpV_one 5 _ _ (by kernel_rfl) (by kernel_rfl) rfl rfl ?_
            intro K hK
            simp only [List.getD_cons_zero, List.getD_cons_succ]
            go_wp2_with fail
            have hBm : Below w5.heap.size w5 (wl.alloc (.cells #[.func (.func 43) #[] #[], .func (.func 44) #[] #[]] 71)) := hBl.trans ((bl1 wl _).mono hBl.size)
            refine wildK_normal (hK.out _ _ ⟨⟨_, hBm⟩, rfl⟩ ?_)
            clear hK K

            refine wpV_one 6 _ _ (by kernel_rfl) (by kernel_rfl) rfl rfl ?_
            intro K hK
            simp only [List.getD_cons_zero, List.getD_cons_succ]
            go_wp2_with fail
            refine (hput (wl.alloc (.cells #[.func (.func 43) #[] #[], .func (.func 44) #[] #[]] 71)) hBm wl.heap.size (by simp) (by simp)).mono ?_
            rintro e w6 ⟨v6, rfl, hb6, i, hi, hlo, hup, hO6⟩
            have hb56 : Below w5.heap.size w5 w6 := hBm.trans (hb6.mono hBm.size)
            have hO6b : OwnK w6 wo.heap.size v6 (ls.take i ++ [(min a b, max a b)] ++ ls.drop i) := hO6.low (by have := hb4.size; have := hb5.size; have := hBm.size; omega)
            rw [← ins_at hi hlo hup] at hO6b
            obtain ⟨X6, C6, hv6, -⟩ := hO6b.mem
            subst hv6
            go_wp2_with fail
            refine wildK_normal (hK.out _ _ ⟨⟨_, hb56⟩, rfl⟩ ?_)
            clear hK K

            have hbx6 := heap_later hb56 hbx5
            have g1 : w6.cell? ⟨w4.heap.size, 1, none⟩ = some (.slice Y ls.length D) := (box_cells hbx6).1 1
            have gz := (box_cells hbx6).2 1
            refine wpV_tail [7, 8] rfl (by kernel_rfl) ?_
            simp only [List.map_cons, List.map_nil, List.getD_cons_zero, List.getD_cons_succ]
            go_wp2_with fail
            go_meet
            case rel => exact ⟨rfl, w6, X6, C6, hb56, hO6b, rfl⟩
          · intro K hK
            simp only [List.getD_cons_zero, List.getD_cons_succ]
            go_wp2_with fail
            have hBl : Below w5.heap.size w5 (w5.alloc (.cells #[.func (.func 43) #[] #[], .func (.func 44) #[] #[]] 71)).drew := (bl1 w5 _).drew
            refine wildK_normal (hK.out _ _ ⟨⟨_, hBl⟩, rfl⟩ ?_)
            clear hK K
            have f0 : ((w5.alloc (.cells #[.func (.func 43) #[] #[], .func (.func 44) #[] #[]] 71)).drew).cell? ⟨w5.heap.size, 0, none⟩ = some (.func (.func 43) #[] #[]) := (box_cells (heap_new (W := w5) (.cells #[.func (.func 43) #[] #[], .func (.func 44) #[] #[]] 71) rfl)).1 0
            have f1 : ((w5.alloc (.cells #[.func (.func 43) #[] #[], .func (.func 44) #[] #[]] 71)).drew).cell? ⟨w5.heap.size, 1, none⟩ = some (.func (.func 44) #[] #[]) := (box_cells (heap_new (W := w5) (.cells #[.func (.func 43) #[] #[], .func (.func 44) #[] #[]] 71) rfl)).1 1

            refine wpV_one 4 _ _ (by kernel_rfl) (by kernel_rfl) rfl rfl ?_
            intro K hK
            simp only [List.getD_cons_zero, List.getD_cons_succ]
            go_wp2_with fail
            refine (netLink_any a b (w5.alloc (.cells #[.func (.func 43) #[] #[], .func (.func 44) #[] #[]] 71)).drew).mono ?_
            rintro e wl ⟨rfl, hbl⟩

            have hBm : Below w5.heap.size w5 wl := hBl.trans (hbl.mono hBl.size)
            have f0' := cell_later hbl f0
            have f1' := cell_later hbl f1
            clear f0 f1
            go_wp2_with fail
            refine wildK_normal (hK.out _ _ ⟨⟨_, hBm⟩, rfl⟩ ?_)
            clear hK K

            refine wpV_one 6 _ _ (by kernel_rfl) (by kernel_rfl) rfl rfl ?_
            intro K hK
            simp only [List.getD_cons_zero, List.getD_cons_succ]
            go_wp2_with fail
            refine (hput wl hBm w5.heap.size f0' f1').mono ?_
            rintro e w6 ⟨v6, rfl, hb6, i, hi, hlo, hup, hO6⟩
            have hb56 : Below w5.heap.size w5 w6 := hBm.trans (hb6.mono hBm.size)
            have hO6b : OwnK w6 wo.heap.size v6 (ls.take i ++ [(min a b, max a b)] ++ ls.drop i) := hO6.low (by have := hb4.size; have := hb5.size; have := hBm.size; omega)
            rw [← ins_at hi hlo hup] at hO6b
            obtain ⟨X6, C6, hv6, -⟩ := hO6b.mem
            subst hv6
            go_wp2_with fail
            refine wildK_normal (hK.out _ _ ⟨⟨_, hb56⟩, rfl⟩ ?_)
            clear hK K

            have hbx6 := heap_later hb56 hbx5
            have g1 : w6.cell? ⟨w4.heap.size, 1, none⟩ = some (.slice Y ls.length D) := (box_cells hbx6).1 1
            have gz := (box_cells hbx6).2 1
            refine wpV_tail [7, 8] rfl (by kernel_rfl) ?_
            simp only [List.map_cons, List.map_nil, List.getD_cons_zero, List.getD_cons_succ]
            go_wp2_with fail
            go_meet
            case rel => exact ⟨rfl, w6, X6, C6, hb56, hO6b, rfl⟩
        case rest =>
          obtain ⟨rfl, w6, X6, C6, hb56, hO6, hwd⟩ := hcut
          clear a1 hput
          have hbx6 := heap_later hb56 hbx5
          have hT6 := hT5.later hb56
          obtain ⟨ms, hms⟩ : ∃ ms, Hid (ms = insLk (min a b, max a b) ls) := ⟨_, rfl⟩
          rw [← hms.out] at hO6 hwd hEH
          have hml : Hid (ms.length = ls.length + 1) := by show _ = _; rw [hms.out]; exact ins_len
          have hbx7 : wc.heap[w4.heap.size]? = some (netB (.slice X us.length C) (.slice X6 ms.length C6)) := by
            rw [hwd]
            simpa using heap_setCell_same w6 w4.heap.size 1 _ _ (.slice X6 ms.length C6) hbx6
          have hne0 : w.heap.size ≠ w4.heap.size := by have := hw3s.out; have := hb4.size; omega
          have hne1 : w.heap.size + 1 ≠ w4.heap.size := by have := hw3s.out; have := hb4.size; omega
          have hT7 : TM w wc x n c lx ln lc := by
            rw [hwd]
            exact ⟨(heap_setCell_other _ _ _ _ hne0).trans hT6.hb, (heap_setCell_other _ _ _ _ hne1).trans hT6.hs, hT6.below.setCell (p := ⟨w4.heap.size, 1, none⟩) (by show w.heap.size ≤ w4.heap.size; have := hw3s.out; have := hb4.size; omega) _⟩
          have hO7 : OwnV wc wo.heap.size (.slice X us.length C) us := by rw [hwd]; exact ((hOV.later hb5).later hb56).putBox hbx6 (by decide)
          have hVo7 : ∀ i, i < us.length → Von wc wo.heap.size (vnAt us i) := fun i hi => by rw [hwd]; exact (((hVo i hi).later hb5).later hb56).putBox hbx6 (by decide) (by decide) (by decide) (by decide)
          have hOK7 : OwnK wc wo.heap.size (.slice X6 ms.length C6) ms := by rw [hwd]; exact hO6.putBox hbx6 (by decide)
          clear hwd hO6 hbx6 hT6 hOV hVo hOK hVS4 hPS4 hPS5 hT5
          obtain ⟨X', C', hv', hVS7, hXC', -, -⟩ := hO7.vs (fun u hu => by
            obtain ⟨i, hi, rfl⟩ := mem_vnAt hu
            exact VpOk.of (hVo7 i hi))
          simp only [Value.slice.injEq] at hv'
          obtain ⟨rfl, -, rfl⟩ := hv'
          obtain ⟨Y', D', hk', hPS7, -⟩ := hOK7.ps
          simp only [Value.slice.injEq] at hk'
          obtain ⟨rfl, -, rfl⟩ := hk'
          have hR : Hid (JoinR vs ls a b us ms) := ⟨hsv, hms.out⟩
          obtain ⟨ta, hta⟩ : ∃ t, apB ms n vs = t := ⟨_, rfl⟩
          have hap := napart_is X us.length C us X6 ms.length C6 ms ta (by rw [hul.out, apB_same hvl.out hsv]; exact hta) wc hVS7 (by rw [hul.out]; omega) hXC' hPS7 (by rw [hml.out]; omega) (fun i hi => by
            have h1 := (hsv.2 i (by rw [hsv.1]; exact hi)).1
            rw [← h1]
            exact (hvf i (by rw [← hul.out]; exact hi)).1) (fun i hi => by
            have h1 := (hsv.2 i (by rw [hsv.1]; exact hi)).2.1
            rw [← h1]
            exact (hvf i (by rw [← hul.out]; exact hi)).2) (fun j hj => by
            have hm : lkAt ms j ∈ insLk (min a b, max a b) ls := by
              rw [← hms.out]
              unfold lkAt
              rw [List.getD_eq_getElem?_getD, List.getElem?_eq_getElem hj]
              exact List.getElem_mem hj
            rw [ids_same hsv]
            show (lkAt ms j).1 ∈ _ ∧ (lkAt ms j).2 ∈ _
            rcases ins_mem.1 hm with h | h
            · rw [h]
              rcases Int.le_total a b with e | e
              · rw [Int.min_eq_left e, Int.max_eq_right e]; exact hma'.out
              · rw [Int.min_eq_right e, Int.max_eq_left e]; exact ⟨hma'.out.2, hma'.out.1⟩
            · exact hlk0.out _ h)
          rw [hta] at hEH
          clear hta hVS7 hPS7
          have g0 : wc.cell? ⟨w4.heap.size, 0, none⟩ = some (.slice X us.length C) := (box_cells hbx7).1 0
          have g1 : wc.cell? ⟨w4.heap.size, 1, none⟩ = some (.slice X6 ms.length C6) := (box_cells hbx7).1 1
          go_wp2_with fail
          refine hap.mono ?_
          rintro e w8 ⟨rfl, hb8⟩
          have hT8 := hT7.later hb8
          have hbx8 := heap_later hb8 hbx7
          have hO8 := hO7.later hb8
          have hVo8 := fun i hi => (hVo7 i hi).later hb8
          have hOK8 := hOK7.later hb8
          clear g0 g1 hap hO7 hVo7 hOK7 hbx7 hT7 hb8
          have g0 : w8.cell? ⟨w4.heap.size, 0, none⟩ = some (.slice X us.length C) := (box_cells hbx8).1 0
          have g1 : w8.cell? ⟨w4.heap.size, 1, none⟩ = some (.slice X6 ms.length C6) := (box_cells hbx8).1 1
          have k0 : w8.cell? ⟨w.heap.size, 0, none⟩ = some (.slice x n c) := (box_cells hT8.hb).1 0
          have k1 : w8.cell? ⟨w.heap.size, 1, none⟩ = some (.slice lx ln lc) := (box_cells hT8.hb).1 1
          have ks0 : w8.cell? ⟨w.heap.size + 1, 0, none⟩ = some (.slice none 0 0) := (box_cells hT8.hs).1 0
          have ks1 : w8.cell? ⟨w.heap.size + 1, 1, none⟩ = some (.slice none 0 0) := (box_cells hT8.hs).1 1
          have kz0 := (box_cells hT8.hs).2 0
          have kz1 := (box_cells hT8.hs).2 1
          cases ta with
          | false =>
            have hE2 : Hid (E = 9 ∧ (9 : Int) ≠ 0) := ⟨hEH.out.trans (if_pos rfl), by decide⟩
            clear hEH
            go_wp2
            refine bodyPost_ret (v := .tuple #[.agg #[.slice none 0 0, .slice none 0 0], .int .i64 9]) (by simp [results, Tryz.results18, go_sem, ks0, ks1]) rfl ?_
            exact NPost.err hE2.out ((hT8.below.setCell (p := ⟨w.heap.size + 1, 0, none⟩) (Nat.le_add_right _ _) _).setCell (p := ⟨w.heap.size + 1, 1, none⟩) (Nat.le_add_right _ _) _)
          | true =>
            have hE2 : Hid (E = if ln = 12 then 2 else 0) := hEH.out.trans (if_neg (by decide))
            clear hEH
            by_cases hl12 : ln = 12
            · have hE3 : Hid (E = 2 ∧ (2 : Int) ≠ 0) := ⟨hE2.out.trans (if_pos hl12), by decide⟩
              have hl12' : ((ln : Int) == 12) = true := by simp; omega
              have hl12'' : (ln : Int) = 12 := by omega
              clear hE2 hl12
              go_wp2
              refine bodyPost_ret (v := .tuple #[.agg #[.slice none 0 0, .slice none 0 0], .int .i64 2]) (by simp [results, Tryz.results18, go_sem, ks0, ks1]) rfl ?_
              exact NPost.err hE3.out ((hT8.below.setCell (p := ⟨w.heap.size + 1, 0, none⟩) (Nat.le_add_right _ _) _).setCell (p := ⟨w.heap.size + 1, 1, none⟩) (Nat.le_add_right _ _) _)
            · have hE3 : Hid (E = 0) := hE2.out.trans (if_neg hl12)
              have hl12' : ((ln : Int) == 12) = false := by simp; omega
              have hl12'' : ¬ (ln : Int) = 12 := by omega
              clear hE2 hl12
              go_wp2
              refine bodyPost_ret (v := .tuple #[.agg #[.slice X us.length C, .slice X6 ms.length C6], .int .i64 0]) (by simp [results, Tryz.results18, go_sem, ks0, ks1]) rfl ?_
              exact NPost.ok hE3.out ((hT8.below.setCell (p := ⟨w.heap.size + 1, 0, none⟩) (Nat.le_add_right _ _) _).setCell (p := ⟨w.heap.size + 1, 1, none⟩) (Nat.le_add_right _ _) _) (us := us) (ms := ms) (NO.of ((hO8.put hw3s.out).put hw3s.out) (by have := hw3s.out; omega) (b2 := wo.heap.size) (fun u hu => by
                obtain ⟨j, hj, rfl⟩ := mem_vnAt hu
                exact ((hVo8 j hj).put hw3s.out).put hw3s.out) (by have := hw3s.out; omega) ((hOK8.put hw3s.out).put hw3s.out) (by have := hw3s.out; omega)) hR.out
  · obtain ⟨t, ht⟩ : ∃ t, chkN n vs ln ls = t := ⟨_, rfl⟩
    have hck := checkN_is x n c vs lx ln lc ls t ht w0 (hp.later hT0.below) hn hnc (hl.later hT0.below) hln
    rw [ht] at hc0 hEE
    have hE1 : Hid (E = t ∧ t ≠ 0) := ⟨by rw [hEE.out, if_neg hc0], hc0⟩
    have hne : (t != 0) = true := by simpa using hc0
    clear hEE ht
    go_wp2_with fail
    refine hck.mono ?_
    rintro e w1 ⟨rfl, hb⟩
    have hT1 := hT0.later hb
    clear k0 k1 ks0 ks1 kz0 kz1
    have k0 : w1.cell? ⟨w.heap.size, 0, none⟩ = some (.slice x n c) := (box_cells hT1.hb).1 0
    have k1 : w1.cell? ⟨w.heap.size, 1, none⟩ = some (.slice lx ln lc) := (box_cells hT1.hb).1 1
    have ks0 : w1.cell? ⟨w.heap.size + 1, 0, none⟩ = some (.slice none 0 0) := (box_cells hT1.hs).1 0
    have ks1 : w1.cell? ⟨w.heap.size + 1, 1, none⟩ = some (.slice none 0 0) := (box_cells hT1.hs).1 1
    have kz0 := (box_cells hT1.hs).2 0
    have kz1 := (box_cells hT1.hs).2 1
    clear hck
    go_wp2
    refine bodyPost_ret (v := .tuple #[.agg #[.slice none 0 0, .slice none 0 0], .int .i64 t]) (by simp [results, Tryz.results18, go_sem, ks0, ks1]) rfl ?_
    exact NPost.err hE1.out ((hT1.below.setCell (p := ⟨w.heap.size + 1, 0, none⟩) (Nat.le_add_right _ _) _).setCell (p := ⟨w.heap.size + 1, 1, none⟩) (Nat.le_add_right _ _) _)
end Go.Proofs.YtlalgkjollgcbaaGreat
/- Grow of package vpc: what comes is of the call's own. -/
namespace Go.Proofs.YtlalgkjollgcbaaGreat
open Go.RowKit Go.Shelf

abbrev vnW (p : Vn) : Value := .agg #[.int .i64 p.id, .slice p.rx p.rn p.rc, .slice p.sx p.sn p.sc]
def GrowPostO (vid : Int) (rn : Nat) (rs : List Rg) (sn : Nat) (ss : List Sb) (r : Rg) (w : World) (e : Ending) (w' : World) : Prop :=
  ∃ V, e = .returned (.tuple #[V, .int .i64 (growE vid rn rs sn ss r)]) ∧ Below w.heap.size w w' ∧ (growE vid rn rs sn ss r ≠ 0 → V = .agg #[.int .i64 0, .slice none 0 0, .slice none 0 0]) ∧
    (growE vid rn rs sn ss r = 0 → ∃ u : Vn, V = vnW u ∧ Von w' w.heap.size u ∧ u.id = vid ∧ PutRg r rs u.rs ∧ sameSs ss u.ss)
theorem GrowPostO.err {vid : Int} {rn : Nat} {rs : List Rg} {sn : Nat} {ss : List Sb} {r : Rg} {E : Int} {w w' : World} (hE : growE vid rn rs sn ss r = E ∧ E ≠ 0) (hb : Below w.heap.size w w') :
    GrowPostO vid rn rs sn ss r w (.returned (.tuple #[.agg #[.int .i64 0, .slice none 0 0, .slice none 0 0], .int .i64 E])) w' :=
  ⟨_, by rw [hE.1], hb, fun _ => rfl, fun h => absurd (hE.1.symm.trans h) hE.2⟩

set_option maxRecDepth 100000 in
set_option maxHeartbeats 3200000 in
theorem vgrowO_any (vid : Int) (rx : Option Addr) (rn rc : Nat) (rs : List Rg) (sx : Option Addr) (sn sc : Nat) (ss : List Sb) (r : Rg) (w : World) (hv : Vp w rx rn rc rs sx sn sc ss) (hrn : rn ≤ 9223372036854775807) (hsn : sn ≤ 9223372036854775807) (hrc : rc ≤ 9223372036854775807) :
    Calls Tryz.prog 29 #[.agg #[.int .i64 vid, .slice rx rn rc, .slice sx sn sc], .agg #[.int .i64 r.a, .int .i64 r.l, .int .i64 r.p]] w (GrowPostO vid rn rs sn ss r w) := by
  have hrl : Hid (rs.length = rn) := hv.ranges.len
  have hsl : Hid (ss.length = sn) := hv.subs.len
  go_enter Tryz.func29, Tryz.ntmps29
  go_upto_region 1 with fail
  obtain ⟨w0, hw0⟩ : ∃ w0, w0 = ((w.alloc (vpB vid (.slice rx rn rc) (.slice sx sn sc))).alloc (.cells #[.int .i64 r.a, .int .i64 r.l, .int .i64 r.p] 29)).alloc (vpB 0 (.slice none 0 0) (.slice none 0 0)) := ⟨_, rfl⟩
  rw [← hw0]
  have hT0 : TG w w0 vid (.slice rx rn rc) (.slice sx sn sc) r := by
    rw [hw0]
    exact ⟨heap_old _ (heap_old _ (heap_new _ rfl)), heap_old _ (heap_new _ (by simp)), heap_new _ (by simp), (bl2 w _ _).alloc (by simp; omega) _⟩
  clear hw0
  have b0 : w0.cell? ⟨w.heap.size, 0, none⟩ = some (.int .i64 vid) := (box_cells hT0.hb).1 0
  have b1 : w0.cell? ⟨w.heap.size, 1, none⟩ = some (.slice rx rn rc) := (box_cells hT0.hb).1 1
  have b2 : w0.cell? ⟨w.heap.size, 2, none⟩ = some (.slice sx sn sc) := (box_cells hT0.hb).1 2
  have p0 : w0.cell? ⟨w.heap.size + 1, 0, none⟩ = some (.int .i64 r.a) := (box_cells hT0.hp).1 0
  have p1 : w0.cell? ⟨w.heap.size + 1, 1, none⟩ = some (.int .i64 r.l) := (box_cells hT0.hp).1 1
  have p2 : w0.cell? ⟨w.heap.size + 1, 2, none⟩ = some (.int .i64 r.p) := (box_cells hT0.hp).1 2
  have s0 : w0.cell? ⟨w.heap.size + 2, 0, none⟩ = some (.int .i64 0) := (box_cells hT0.hs).1 0
  have s1 : w0.cell? ⟨w.heap.size + 2, 1, none⟩ = some (.slice none 0 0) := (box_cells hT0.hs).1 1
  have s2 : w0.cell? ⟨w.heap.size + 2, 2, none⟩ = some (.slice none 0 0) := (box_cells hT0.hs).1 2
  have zs0 : w0.frozen? ⟨w.heap.size + 2, 0, none⟩ = false := (box_cells hT0.hs).2 0
  have zs1 : w0.frozen? ⟨w.heap.size + 2, 1, none⟩ = false := (box_cells hT0.hs).2 1
  have zs2 : w0.frozen? ⟨w.heap.size + 2, 2, none⟩ = false := (box_cells hT0.hs).2 2
  have hck := checkV_any vid rx rn rc rs sx sn sc ss w0 (hv.later hT0.below) hrn hsn hrc
  by_cases hc0 : chkV vid rn rs sn ss = 0
  · rw [hc0] at hck
    obtain ⟨f1, f2, f3, f4⟩ := chkV_few hc0
    have hE1 : Hid (growE vid rn rs sn ss r = if rgB r = false then 1 else if anyAt rn (rmB rs r.a r.l) = true then 6 else if rn = 4 then 2 else 0) := if_neg (c := chkV vid rn rs sn ss ≠ 0) (by simp [hc0])
    clear hc0
    go_wp2_with fail
    refine (hck).mono ?_
    rintro e w1 ⟨rfl, hbw1⟩
    have hT1 := hT0.later hbw1
    clear b0 b1 b2 p0 p1 p2 s0 s1 s2 zs0 zs1 zs2
    have b0 : w1.cell? ⟨w.heap.size, 0, none⟩ = some (.int .i64 vid) := (box_cells hT1.hb).1 0
    have b1 : w1.cell? ⟨w.heap.size, 1, none⟩ = some (.slice rx rn rc) := (box_cells hT1.hb).1 1
    have b2 : w1.cell? ⟨w.heap.size, 2, none⟩ = some (.slice sx sn sc) := (box_cells hT1.hb).1 2
    have p0 : w1.cell? ⟨w.heap.size + 1, 0, none⟩ = some (.int .i64 r.a) := (box_cells hT1.hp).1 0
    have p1 : w1.cell? ⟨w.heap.size + 1, 1, none⟩ = some (.int .i64 r.l) := (box_cells hT1.hp).1 1
    have p2 : w1.cell? ⟨w.heap.size + 1, 2, none⟩ = some (.int .i64 r.p) := (box_cells hT1.hp).1 2
    have s0 : w1.cell? ⟨w.heap.size + 2, 0, none⟩ = some (.int .i64 0) := (box_cells hT1.hs).1 0
    have s1 : w1.cell? ⟨w.heap.size + 2, 1, none⟩ = some (.slice none 0 0) := (box_cells hT1.hs).1 1
    have s2 : w1.cell? ⟨w.heap.size + 2, 2, none⟩ = some (.slice none 0 0) := (box_cells hT1.hs).1 2
    have zs0 : w1.frozen? ⟨w.heap.size + 2, 0, none⟩ = false := (box_cells hT1.hs).2 0
    have zs1 : w1.frozen? ⟨w.heap.size + 2, 1, none⟩ = false := (box_cells hT1.hs).2 1
    have zs2 : w1.frozen? ⟨w.heap.size + 2, 2, none⟩ = false := (box_cells hT1.hs).2 2
    cases hrg : rgB r with
    | false =>
      have hne : growE vid rn rs sn ss r = 1 ∧ (1 : Int) ≠ 0 := ⟨hE1.out.trans (if_pos hrg), by decide⟩
      go_wp2_with fail
      refine (rangeRight_is r false hrg w1).mono ?_
      rintro e w2 ⟨rfl, hbw2⟩
      have hT2 := hT1.later hbw2
      clear b0 b1 b2 p0 p1 p2 s0 s1 s2 zs0 zs1 zs2
      have b0 : w2.cell? ⟨w.heap.size, 0, none⟩ = some (.int .i64 vid) := (box_cells hT2.hb).1 0
      have b1 : w2.cell? ⟨w.heap.size, 1, none⟩ = some (.slice rx rn rc) := (box_cells hT2.hb).1 1
      have b2 : w2.cell? ⟨w.heap.size, 2, none⟩ = some (.slice sx sn sc) := (box_cells hT2.hb).1 2
      have p0 : w2.cell? ⟨w.heap.size + 1, 0, none⟩ = some (.int .i64 r.a) := (box_cells hT2.hp).1 0
      have p1 : w2.cell? ⟨w.heap.size + 1, 1, none⟩ = some (.int .i64 r.l) := (box_cells hT2.hp).1 1
      have p2 : w2.cell? ⟨w.heap.size + 1, 2, none⟩ = some (.int .i64 r.p) := (box_cells hT2.hp).1 2
      have s0 : w2.cell? ⟨w.heap.size + 2, 0, none⟩ = some (.int .i64 0) := (box_cells hT2.hs).1 0
      have s1 : w2.cell? ⟨w.heap.size + 2, 1, none⟩ = some (.slice none 0 0) := (box_cells hT2.hs).1 1
      have s2 : w2.cell? ⟨w.heap.size + 2, 2, none⟩ = some (.slice none 0 0) := (box_cells hT2.hs).1 2
      have zs0 : w2.frozen? ⟨w.heap.size + 2, 0, none⟩ = false := (box_cells hT2.hs).2 0
      have zs1 : w2.frozen? ⟨w.heap.size + 2, 1, none⟩ = false := (box_cells hT2.hs).2 1
      have zs2 : w2.frozen? ⟨w.heap.size + 2, 2, none⟩ = false := (box_cells hT2.hs).2 2
      go_wp2
      refine bodyPost_ret (v := .tuple #[.agg #[.int .i64 0, .slice none 0 0, .slice none 0 0], .int .i64 1]) (by simp [results, Tryz.results29, go_sem, s0, s1, s2]) rfl ?_
      exact GrowPostO.err hne (((hT2.below.setCell (p := ⟨w.heap.size + 2, 0, none⟩) (Nat.le_add_right _ _) _).setCell (p := ⟨w.heap.size + 2, 1, none⟩) (Nat.le_add_right _ _) _).setCell (p := ⟨w.heap.size + 2, 2, none⟩) (Nat.le_add_right _ _) _)
    | true =>
      have hE2 : Hid (growE vid rn rs sn ss r = if anyAt rn (rmB rs r.a r.l) = true then 6 else if rn = 4 then 2 else 0) := hE1.out.trans (if_neg (by simp [hrg]))
      go_wp2_with fail
      refine (rangeRight_is r true hrg w1).mono ?_
      rintro e w2 ⟨rfl, hbw2⟩
      have hT2 := hT1.later hbw2
      clear b0 b1 b2 p0 p1 p2 s0 s1 s2 zs0 zs1 zs2
      have b0 : w2.cell? ⟨w.heap.size, 0, none⟩ = some (.int .i64 vid) := (box_cells hT2.hb).1 0
      have b1 : w2.cell? ⟨w.heap.size, 1, none⟩ = some (.slice rx rn rc) := (box_cells hT2.hb).1 1
      have b2 : w2.cell? ⟨w.heap.size, 2, none⟩ = some (.slice sx sn sc) := (box_cells hT2.hb).1 2
      have p0 : w2.cell? ⟨w.heap.size + 1, 0, none⟩ = some (.int .i64 r.a) := (box_cells hT2.hp).1 0
      have p1 : w2.cell? ⟨w.heap.size + 1, 1, none⟩ = some (.int .i64 r.l) := (box_cells hT2.hp).1 1
      have p2 : w2.cell? ⟨w.heap.size + 1, 2, none⟩ = some (.int .i64 r.p) := (box_cells hT2.hp).1 2
      have s0 : w2.cell? ⟨w.heap.size + 2, 0, none⟩ = some (.int .i64 0) := (box_cells hT2.hs).1 0
      have s1 : w2.cell? ⟨w.heap.size + 2, 1, none⟩ = some (.slice none 0 0) := (box_cells hT2.hs).1 1
      have s2 : w2.cell? ⟨w.heap.size + 2, 2, none⟩ = some (.slice none 0 0) := (box_cells hT2.hs).1 2
      have zs0 : w2.frozen? ⟨w.heap.size + 2, 0, none⟩ = false := (box_cells hT2.hs).2 0
      have zs1 : w2.frozen? ⟨w.heap.size + 2, 1, none⟩ = false := (box_cells hT2.hs).2 1
      have zs2 : w2.frozen? ⟨w.heap.size + 2, 2, none⟩ = false := (box_cells hT2.hs).2 2
      have hmt := meetsRange_any r.a r.l rx rn rc rs w2 (hv.later hT2.below).ranges (by omega)
      cases hany : anyAt rn (rmB rs r.a r.l) with
      | true =>
        rw [hany] at hmt
        have hne : growE vid rn rs sn ss r = 6 ∧ (6 : Int) ≠ 0 := ⟨hE2.out.trans (if_pos hany), by decide⟩
        go_wp2_with fail
        refine (hmt).mono ?_
        rintro e w3 ⟨rfl, hbw3⟩
        have hT3 := hT2.later hbw3
        clear b0 b1 b2 p0 p1 p2 s0 s1 s2 zs0 zs1 zs2
        have b0 : w3.cell? ⟨w.heap.size, 0, none⟩ = some (.int .i64 vid) := (box_cells hT3.hb).1 0
        have b1 : w3.cell? ⟨w.heap.size, 1, none⟩ = some (.slice rx rn rc) := (box_cells hT3.hb).1 1
        have b2 : w3.cell? ⟨w.heap.size, 2, none⟩ = some (.slice sx sn sc) := (box_cells hT3.hb).1 2
        have p0 : w3.cell? ⟨w.heap.size + 1, 0, none⟩ = some (.int .i64 r.a) := (box_cells hT3.hp).1 0
        have p1 : w3.cell? ⟨w.heap.size + 1, 1, none⟩ = some (.int .i64 r.l) := (box_cells hT3.hp).1 1
        have p2 : w3.cell? ⟨w.heap.size + 1, 2, none⟩ = some (.int .i64 r.p) := (box_cells hT3.hp).1 2
        have s0 : w3.cell? ⟨w.heap.size + 2, 0, none⟩ = some (.int .i64 0) := (box_cells hT3.hs).1 0
        have s1 : w3.cell? ⟨w.heap.size + 2, 1, none⟩ = some (.slice none 0 0) := (box_cells hT3.hs).1 1
        have s2 : w3.cell? ⟨w.heap.size + 2, 2, none⟩ = some (.slice none 0 0) := (box_cells hT3.hs).1 2
        have zs0 : w3.frozen? ⟨w.heap.size + 2, 0, none⟩ = false := (box_cells hT3.hs).2 0
        have zs1 : w3.frozen? ⟨w.heap.size + 2, 1, none⟩ = false := (box_cells hT3.hs).2 1
        have zs2 : w3.frozen? ⟨w.heap.size + 2, 2, none⟩ = false := (box_cells hT3.hs).2 2
        go_wp2
        refine bodyPost_ret (v := .tuple #[.agg #[.int .i64 0, .slice none 0 0, .slice none 0 0], .int .i64 6]) (by simp [results, Tryz.results29, go_sem, s0, s1, s2]) rfl ?_
        exact GrowPostO.err hne (((hT3.below.setCell (p := ⟨w.heap.size + 2, 0, none⟩) (Nat.le_add_right _ _) _).setCell (p := ⟨w.heap.size + 2, 1, none⟩) (Nat.le_add_right _ _) _).setCell (p := ⟨w.heap.size + 2, 2, none⟩) (Nat.le_add_right _ _) _)
      | false =>
        rw [hany] at hmt
        have hE3 : Hid (growE vid rn rs sn ss r = if rn = 4 then 2 else 0) := hE2.out.trans (if_neg (by simp [hany]))
        by_cases h4 : rn = 4
        · subst h4
          have hne : growE vid 4 rs sn ss r = 2 ∧ (2 : Int) ≠ 0 := ⟨hE3.out.trans (if_pos rfl), by decide⟩
          go_wp2_with fail
          refine (hmt).mono ?_
          rintro e w3 ⟨rfl, hbw3⟩
          have hT3 := hT2.later hbw3
          clear b0 b1 b2 p0 p1 p2 s0 s1 s2 zs0 zs1 zs2
          have b0 : w3.cell? ⟨w.heap.size, 0, none⟩ = some (.int .i64 vid) := (box_cells hT3.hb).1 0
          have b1 : w3.cell? ⟨w.heap.size, 1, none⟩ = some (.slice rx 4 rc) := (box_cells hT3.hb).1 1
          have b2 : w3.cell? ⟨w.heap.size, 2, none⟩ = some (.slice sx sn sc) := (box_cells hT3.hb).1 2
          have p0 : w3.cell? ⟨w.heap.size + 1, 0, none⟩ = some (.int .i64 r.a) := (box_cells hT3.hp).1 0
          have p1 : w3.cell? ⟨w.heap.size + 1, 1, none⟩ = some (.int .i64 r.l) := (box_cells hT3.hp).1 1
          have p2 : w3.cell? ⟨w.heap.size + 1, 2, none⟩ = some (.int .i64 r.p) := (box_cells hT3.hp).1 2
          have s0 : w3.cell? ⟨w.heap.size + 2, 0, none⟩ = some (.int .i64 0) := (box_cells hT3.hs).1 0
          have s1 : w3.cell? ⟨w.heap.size + 2, 1, none⟩ = some (.slice none 0 0) := (box_cells hT3.hs).1 1
          have s2 : w3.cell? ⟨w.heap.size + 2, 2, none⟩ = some (.slice none 0 0) := (box_cells hT3.hs).1 2
          have zs0 : w3.frozen? ⟨w.heap.size + 2, 0, none⟩ = false := (box_cells hT3.hs).2 0
          have zs1 : w3.frozen? ⟨w.heap.size + 2, 1, none⟩ = false := (box_cells hT3.hs).2 1
          have zs2 : w3.frozen? ⟨w.heap.size + 2, 2, none⟩ = false := (box_cells hT3.hs).2 2
          go_wp2
          refine bodyPost_ret (v := .tuple #[.agg #[.int .i64 0, .slice none 0 0, .slice none 0 0], .int .i64 2]) (by simp [results, Tryz.results29, go_sem, s0, s1, s2]) rfl ?_
          exact GrowPostO.err hne (((hT3.below.setCell (p := ⟨w.heap.size + 2, 0, none⟩) (Nat.le_add_right _ _) _).setCell (p := ⟨w.heap.size + 2, 1, none⟩) (Nat.le_add_right _ _) _).setCell (p := ⟨w.heap.size + 2, 2, none⟩) (Nat.le_add_right _ _) _)
        · have hE0 : Hid (growE vid rn rs sn ss r = 0) := hE3.out.trans (if_neg h4)
          have hv3 := fun W (hW : Below w.heap.size w W) => freshVpc_any vid rx rn rc rs sx sn sc ss W (hv.later hW) (by omega) (by omega) (fun i hi => by have := f3 i hi; omega) (fun i hi j hj => by have := f4 i hi j hj; omega)
          go_wp2_with fail
          refine (hmt).mono ?_
          rintro e w3 ⟨rfl, hbw3⟩
          have hT3 := hT2.later hbw3
          clear b0 b1 b2 p0 p1 p2 s0 s1 s2 zs0 zs1 zs2
          have b0 : w3.cell? ⟨w.heap.size, 0, none⟩ = some (.int .i64 vid) := (box_cells hT3.hb).1 0
          have b1 : w3.cell? ⟨w.heap.size, 1, none⟩ = some (.slice rx rn rc) := (box_cells hT3.hb).1 1
          have b2 : w3.cell? ⟨w.heap.size, 2, none⟩ = some (.slice sx sn sc) := (box_cells hT3.hb).1 2
          have p0 : w3.cell? ⟨w.heap.size + 1, 0, none⟩ = some (.int .i64 r.a) := (box_cells hT3.hp).1 0
          have p1 : w3.cell? ⟨w.heap.size + 1, 1, none⟩ = some (.int .i64 r.l) := (box_cells hT3.hp).1 1
          have p2 : w3.cell? ⟨w.heap.size + 1, 2, none⟩ = some (.int .i64 r.p) := (box_cells hT3.hp).1 2
          have s0 : w3.cell? ⟨w.heap.size + 2, 0, none⟩ = some (.int .i64 0) := (box_cells hT3.hs).1 0
          have s1 : w3.cell? ⟨w.heap.size + 2, 1, none⟩ = some (.slice none 0 0) := (box_cells hT3.hs).1 1
          have s2 : w3.cell? ⟨w.heap.size + 2, 2, none⟩ = some (.slice none 0 0) := (box_cells hT3.hs).1 2
          have zs0 : w3.frozen? ⟨w.heap.size + 2, 0, none⟩ = false := (box_cells hT3.hs).2 0
          have zs1 : w3.frozen? ⟨w.heap.size + 2, 1, none⟩ = false := (box_cells hT3.hs).2 1
          have zs2 : w3.frozen? ⟨w.heap.size + 2, 2, none⟩ = false := (box_cells hT3.hs).2 2
          go_wp2_with fail
          refine (hv3 _ hT3.below).mono ?_
          rintro e w4 ⟨vR, vS, ts, rfl, hOR, hss, hOS, hb4⟩
          have hT4 := hT3.later hb4
          obtain ⟨xr, cr, rfl, hr1, hr2, hr3⟩ := hOR.rs
          obtain ⟨xt, ct, rfl, -⟩ := hOS.subs
          have hxr : (xr = none ∧ cr = 0) ∨ ∃ b o, xr = some ⟨b, o, none⟩ := by
            rcases hOR.2 with ⟨hv', -⟩ | ⟨g2, cap2, cur2, hv', -⟩
            · simp only [Value.slice.injEq] at hv'; exact .inl ⟨hv'.1, hv'.2.2⟩
            · simp only [Value.slice.injEq] at hv'; exact .inr ⟨_, _, hv'.1⟩
          clear b0 b1 b2 p0 p1 p2 s0 s1 s2 zs0 zs1 zs2
          go_upto_region 12 with fail
          obtain ⟨w5, hw5⟩ : ∃ w5, w5 = w4.alloc (vpB vid (.slice xr rs.length cr) (.slice xt ts.length ct)) := ⟨_, rfl⟩
          rw [← hw5]
          have hb45 : Below w4.heap.size w4 w5 := by rw [hw5]; exact bl1 _ _
          have hn5 : w5.heap[w4.heap.size]? = some (vpB vid (.slice xr rs.length cr) (.slice xt ts.length ct)) := by rw [hw5]; exact heap_new _ rfl
          clear hw5
          have hT5 := hT4.later hb45
          have n1 : w5.cell? ⟨w4.heap.size, 1, none⟩ = some (.slice xr rs.length cr) := (box_cells hn5).1 1
          have n1' : ∀ o, (w5.alloc o).cell? ⟨w4.heap.size, 1, none⟩ = some (.slice xr rs.length cr) := fun o => cell_later_add (bl1 w5 o) n1
          have p0 : w5.cell? ⟨w.heap.size + 1, 0, none⟩ = some (.int .i64 r.a) := (box_cells hT5.hp).1 0
          have p1 : w5.cell? ⟨w.heap.size + 1, 1, none⟩ = some (.int .i64 r.l) := (box_cells hT5.hp).1 1
          have p2 : w5.cell? ⟨w.heap.size + 1, 2, none⟩ = some (.int .i64 r.p) := (box_cells hT5.hp).1 2
          have p0' : ∀ o, (w5.alloc o).cell? ⟨w.heap.size + 1, 0, none⟩ = some (.int .i64 r.a) := fun o => cell_later_add (bl1 w5 o) p0
          have p1' : ∀ o, (w5.alloc o).cell? ⟨w.heap.size + 1, 1, none⟩ = some (.int .i64 r.l) := fun o => cell_later_add (bl1 w5 o) p1
          have p2' : ∀ o, (w5.alloc o).cell? ⟨w.heap.size + 1, 2, none⟩ = some (.int .i64 r.p) := fun o => cell_later_add (bl1 w5 o) p2
          have hput := fun W (hW : Below w5.heap.size w5 W) hby => putR_any r xr rs.length cr rs w5.heap.size 1 W ((hr1.later hb45).later hW) (by rw [hrl.out]; omega) hr2 hr3 hxr hby
          go_wp2_with fail
          refine (hput _ (bl1 w5 _) (by simp)).mono ?_
          rintro e w6 ⟨v6, rfl, hb6, i, hi, hlow, hup, hO6⟩
          obtain ⟨qs, hqs⟩ : ∃ qs, Hid (qs = rs.take i ++ [r] ++ rs.drop i) := ⟨_, rfl⟩
          rw [← hqs.out] at hO6
          obtain ⟨x6, c6, rfl, -⟩ := hO6.mem
          have hb56 : Below w5.heap.size w5 w6 := (bl1 w5 _).trans (hb6.mono (by simp))
          have hT6 := hT5.later hb56
          have hn6 := heap_later hb56 hn5
          have hOS6 := OSs.later (OSs.later hOS hb45) hb56
          clear n1 n1' p0 p1 p2 p0' p1' p2'
          have hsz3 : w.heap.size + 2 < w3.heap.size := (Array.getElem?_eq_some_iff.1 hT3.hs).1
          have hz4 : w.heap.size + 2 < w4.heap.size := Nat.lt_of_lt_of_le hsz3 hb4.size
          have hz5 : w.heap.size + 2 < w5.heap.size := Nat.lt_of_lt_of_le hz4 hb45.size
          have m0 : w6.cell? ⟨w4.heap.size, 0, none⟩ = some (.int .i64 vid) := (box_cells hn6).1 0
          have m1 : w6.cell? ⟨w4.heap.size, 1, none⟩ = some (.slice xr rs.length cr) := (box_cells hn6).1 1
          have m2 : w6.cell? ⟨w4.heap.size, 2, none⟩ = some (.slice xt ts.length ct) := (box_cells hn6).1 2
          have zm : w6.frozen? ⟨w4.heap.size, 1, none⟩ = false := (box_cells hn6).2 1
          have s0 : w6.cell? ⟨w.heap.size + 2, 0, none⟩ = some (.int .i64 0) := (box_cells hT6.hs).1 0
          have s1 : w6.cell? ⟨w.heap.size + 2, 1, none⟩ = some (.slice none 0 0) := (box_cells hT6.hs).1 1
          have s2 : w6.cell? ⟨w.heap.size + 2, 2, none⟩ = some (.slice none 0 0) := (box_cells hT6.hs).1 2
          have zs0 : w6.frozen? ⟨w.heap.size + 2, 0, none⟩ = false := (box_cells hT6.hs).2 0
          have zs1 : w6.frozen? ⟨w.heap.size + 2, 1, none⟩ = false := (box_cells hT6.hs).2 1
          have zs2 : w6.frozen? ⟨w.heap.size + 2, 2, none⟩ = false := (box_cells hT6.hs).2 2
          have ne1 : ¬ w4.heap.size = w.heap.size + 2 := by omega
          have ne2 : ¬ w.heap.size + 2 = w4.heap.size := by omega
          go_wp2
          refine bodyPost_ret (v := .tuple #[.agg #[.int .i64 vid, .slice x6 qs.length c6, .slice xt ts.length ct], .int .i64 0]) (by simp [results, Tryz.results29, go_sem, s0, s1, s2]) rfl ?_
          have hfin := (((hT6.below.setCell (p := ⟨w4.heap.size, 1, none⟩) (by show w.heap.size ≤ w4.heap.size; omega) (.slice x6 qs.length c6)).setCell (p := ⟨w.heap.size + 2, 0, none⟩) (Nat.le_add_right _ _) (.int .i64 vid)).setCell (p := ⟨w.heap.size + 2, 1, none⟩) (Nat.le_add_right _ _) (.slice x6 qs.length c6)).setCell (p := ⟨w.heap.size + 2, 2, none⟩) (Nat.le_add_right _ _) (.slice xt ts.length ct)
          have hos := (((hOS6.putBox (o := 1) (u := .slice x6 qs.length c6) hn6 (by decide) (by decide) (by decide)).put (o := 0) (u := .int .i64 vid) hsz3).put (o := 1) (u := .slice x6 qs.length c6) hsz3).put (o := 2) (u := .slice xt ts.length ct) hsz3
          have hor := ((((hO6.low (base' := w5.heap.size) (by simp)).putBox (o := 1) (u := .slice x6 qs.length c6) hn6 (by decide)).put (o := 0) (u := .int .i64 vid) hz5).put (o := 1) (u := .slice x6 qs.length c6) hz5).put (o := 2) (u := .slice xt ts.length ct) hz5
          exact ⟨_, by rw [hE0.out], hfin, fun h => absurd hE0.out h, fun _ => ⟨⟨vid, x6, qs.length, c6, qs, xt, ts.length, ct, ts⟩, rfl, ⟨hor.low (by omega), hos.low (by omega)⟩, rfl, ⟨i, hi, fun j hj => by have := hlow j hj; omega, hup, hqs.out⟩, hss⟩⟩
  · have hne : growE vid rn rs sn ss r = chkV vid rn rs sn ss ∧ chkV vid rn rs sn ss ≠ 0 := ⟨if_pos hc0, hc0⟩
    go_wp2_with fail
    refine (hck).mono ?_
    rintro e w1 ⟨rfl, hbw1⟩
    have hT1 := hT0.later hbw1
    clear b0 b1 b2 p0 p1 p2 s0 s1 s2 zs0 zs1 zs2
    have b0 : w1.cell? ⟨w.heap.size, 0, none⟩ = some (.int .i64 vid) := (box_cells hT1.hb).1 0
    have b1 : w1.cell? ⟨w.heap.size, 1, none⟩ = some (.slice rx rn rc) := (box_cells hT1.hb).1 1
    have b2 : w1.cell? ⟨w.heap.size, 2, none⟩ = some (.slice sx sn sc) := (box_cells hT1.hb).1 2
    have p0 : w1.cell? ⟨w.heap.size + 1, 0, none⟩ = some (.int .i64 r.a) := (box_cells hT1.hp).1 0
    have p1 : w1.cell? ⟨w.heap.size + 1, 1, none⟩ = some (.int .i64 r.l) := (box_cells hT1.hp).1 1
    have p2 : w1.cell? ⟨w.heap.size + 1, 2, none⟩ = some (.int .i64 r.p) := (box_cells hT1.hp).1 2
    have s0 : w1.cell? ⟨w.heap.size + 2, 0, none⟩ = some (.int .i64 0) := (box_cells hT1.hs).1 0
    have s1 : w1.cell? ⟨w.heap.size + 2, 1, none⟩ = some (.slice none 0 0) := (box_cells hT1.hs).1 1
    have s2 : w1.cell? ⟨w.heap.size + 2, 2, none⟩ = some (.slice none 0 0) := (box_cells hT1.hs).1 2
    have zs0 : w1.frozen? ⟨w.heap.size + 2, 0, none⟩ = false := (box_cells hT1.hs).2 0
    have zs1 : w1.frozen? ⟨w.heap.size + 2, 1, none⟩ = false := (box_cells hT1.hs).2 1
    have zs2 : w1.frozen? ⟨w.heap.size + 2, 2, none⟩ = false := (box_cells hT1.hs).2 2
    go_wp2
    refine bodyPost_ret (v := .tuple #[.agg #[.int .i64 0, .slice none 0 0, .slice none 0 0], .int .i64 (chkV vid rn rs sn ss)]) (by simp [results, Tryz.results29, go_sem, s0, s1, s2]) rfl ?_
    exact GrowPostO.err hne (((hT1.below.setCell (p := ⟨w.heap.size + 2, 0, none⟩) (Nat.le_add_right _ _) _).setCell (p := ⟨w.heap.size + 2, 1, none⟩) (Nat.le_add_right _ _) _).setCell (p := ⟨w.heap.size + 2, 2, none⟩) (Nat.le_add_right _ _) _)
end Go.Proofs.YtlalgkjollgcbaaGreat
/- A law of my own: a region that draws its order, walked by hand: plain operations are taken first, the others in all orders, a tail that waits for all in its one order. -/
namespace Go.Proofs.YtlalgkjollgcbaaGreat.X
open Go.RowKit

/-- An operation that is no call, and changes nothing. -/
def plV (o : Oper) : Bool := match o.op with
  | .move _ | .assign _ => true
  | .load _ _ => true
  | .fieldAddr _ _ _ => true
  | .indexAddr _ _ _ => true
  | .build _ _ => true
  | .binOp _ _ _ _ _ => true
  | .slice _ _ _ _ _ => true
  | .unOp _ _ _ => true
  | .extract _ _ => true
  | _ => false
theorem plV_andThen {s : Result Value} {n : Next} {w' : World} (h : (s.andThen fun x w => Result.ok (Next.value x) w) = .ok n w') : ∃ u, n = .value u := by
  cases s with
  | ok x w => simp only [Result.andThen, Result.ok.injEq] at h; exact ⟨x, h.1.symm⟩
  | halt x w => simp [Result.andThen] at h
theorem plV_run {P : Program} {o : Oper} {a : Act} {w w' : World} {n : Next} (h : plV o = true) (hr : (execOp a.eval o).run P w = .ok n w') : ∃ u, n = .value u := by
  unfold plV at h
  unfold execOp at hr
  split at h
  · rename_i x hop; rw [hop] at hr; simp only [Sem.run_pure, Result.ok.injEq] at hr; exact ⟨_, hr.1.symm⟩
  · rename_i x hop; rw [hop] at hr; simp only [Sem.run_pure, Result.ok.injEq] at hr; exact ⟨_, hr.1.symm⟩
  · rename_i x y hop; rw [hop] at hr; simp only [Sem.run_bind, Sem.run_pure] at hr; exact plV_andThen hr
  · rename_i x y z hop; rw [hop] at hr; simp only [Sem.run_bind, Sem.run_pure] at hr; exact plV_andThen hr
  · rename_i x y z hop; rw [hop] at hr; simp only [Sem.run_bind, Sem.run_pure] at hr; exact plV_andThen hr
  · rename_i x y hop; rw [hop] at hr; simp only [Sem.run_bind, Sem.run_pure] at hr; exact plV_andThen hr
  · rename_i hop; rw [hop] at hr; rw [Sem.run_bind] at hr; simp only [Sem.run_pure] at hr; exact plV_andThen hr
  · rename_i hop; rw [hop] at hr; simp only [Sem.run_bind, Sem.run_pure] at hr; exact plV_andThen hr
  · rename_i hop; rw [hop] at hr; simp only [Sem.run_bind, Sem.run_pure] at hr; exact plV_andThen hr
  · rename_i hop; rw [hop] at hr; simp only [Sem.run_bind, Sem.run_pure] at hr; exact plV_andThen hr
  · cases h
theorem plV_yields {P : Program} {ops : Array Oper} {C : World → Prop} {o : Oper} {v : Value} {a : Act} (hp : plV o = true) (h : YieldsIn P ops C o v a) : YieldsIf P ops C o v a := by
  rcases h with ⟨h1, h2⟩ | h
  · refine .inl ⟨h1, fun w hw => ?_⟩
    have h3 := h2 w hw
    unfold Oper.quietAt at h3
    cases hr : (execOp a.eval o).run P w with
    | ok n w' =>
      rw [hr] at h3
      obtain ⟨u, rfl⟩ := plV_run hp hr
      simp only [Oper.quietUpon] at h3
      rw [h3.1, h3.2]
    | halt x w' => rw [hr] at h3; simp [Oper.quietUpon] at h3
  · exact .inr h
/-- What has come up, has what it waits for ahead of it. -/
def ShutV (ops : Array Oper) (listed : Array Bool) : Prop := ∀ j oj, ops[j]? = some oj → listed.getD j false = true → ∀ e ∈ oj.after, Region.binds .any e = true → listed.getD e.on false = true
def shutV (ops : Array Oper) (listed : Array Bool) : Bool := (List.range ops.size).all fun j => !(listed.getD j false) || match ops[j]? with | some oj => oj.after.all fun e => !(Region.binds .any e) || listed.getD e.on false | none => true
theorem shutV_spec {ops : Array Oper} {listed : Array Bool} (h : shutV ops listed = true) : ShutV ops listed := fun j oj hj hl e he hb => by
  have h1 := List.all_eq_true.1 h j (List.mem_range.2 (Array.getElem?_eq_some_iff.1 hj).1)
  rw [hl, hj] at h1
  simp only [Bool.not_true, Bool.false_or] at h1
  obtain ⟨i, hi, rfl⟩ := Array.mem_iff_getElem.1 he
  have h2 := Array.all_eq_true.1 h1 i hi
  rw [hb] at h2
  simpa using h2
theorem ShutV.set {ops : Array Oper} {listed : Array Bool} {i : Nat} (h : ShutV ops listed) (hi : i ∈ Region.ready .any ops listed) : ShutV ops (listed.setIfInBounds i true) := fun j oj hj hl e he hb => by
  obtain ⟨_, oi, hoi, hall⟩ := mem_ready.1 hi
  by_cases hij : i = j
  · subst hij
    have : oj = oi := Option.some.inj (hj.symm.trans hoi)
    subst this
    exact getD_set_true (hall e he hb)
  · rw [getD_set_ne false hij] at hl
    exact getD_set_true (h j oj hj hl e he hb)
/-- Does j wait for i, at once or by others? -/
def reachV (ops : Array Oper) : Nat → Nat → Nat → Bool
  | 0, j, i => Region.waitsFor .any ops j i
  | f + 1, j, i => Region.waitsFor .any ops j i || (List.range ops.size).any fun k => Region.waitsFor .any ops j k && reachV ops f k i
theorem reachV_spec {ops : Array Oper} {listed : Array Bool} (h : ShutV ops listed) : ∀ (f j i : Nat), reachV ops f j i = true → (∀ oj, ops[j]? = some oj → ∀ e ∈ oj.after, Region.binds .any e = true → listed.getD e.on false = true) → listed.getD i false = true
  | 0, j, i, hr, hj => by
    obtain ⟨oj, hoj, e, he, hb, hon⟩ := Region.waitsFor_spec hr
    rw [← hon]
    exact hj oj hoj e he hb
  | f + 1, j, i, hr, hj => by
    unfold reachV at hr
    rw [Bool.or_eq_true] at hr
    rcases hr with hr | hr
    · obtain ⟨oj, hoj, e, he, hb, hon⟩ := Region.waitsFor_spec hr
      rw [← hon]
      exact hj oj hoj e he hb
    · obtain ⟨k, -, hk⟩ := List.any_eq_true.1 hr
      rw [Bool.and_eq_true] at hk
      obtain ⟨oj, hoj, e, he, hb, hon⟩ := Region.waitsFor_spec hk.1
      have hkl : listed.getD k false = true := by rw [← hon]; exact hj oj hoj e he hb
      exact reachV_spec h f k i hk.2 (fun ok hok => h k ok hok hkl)
/-- Whatever order is picked: behind each operation of T, S holds. -/
def wpV (P : Program) (ops : Array Oper) (Q : Exit → Act → World → Prop) (S : World → Prop) (T : Nat → Bool) : Nat → Array Bool → Act → World → Prop
  | 0, listed, a, w => Region.ready .any ops listed = [] ∧ Q .normal a w
  | f + 1, listed, a, w => (Region.ready .any ops listed = [] → Q .normal a w) ∧ ∀ i ∈ Region.ready .any ops listed, wpOp P ops Q i (fun a' w' => (T i = true → S w') ∧ wpV P ops Q S T f (listed.setIfInBounds i true) a' w') a w
theorem wpV_sound {P : Program} {ops : Array Oper} {Q : Exit → Act → World → Prop} {S : World → Prop} {T : Nat → Bool} : ∀ (f : Nat) (listed : Array Bool) (a : Act) (w : World), wpV P ops Q S T f listed a w → wpAny P .any ops Q f listed a w
  | 0, _, _, _, h => h
  | f + 1, _, _, _, h => ⟨h.1, fun i hi => wpOp_mono (fun a' w' h' => wpV_sound f _ a' w' h'.2) (h.2 i hi)⟩
theorem wpV_first {P : Program} {ops : Array Oper} {Q : Exit → Act → World → Prop} {S : World → Prop} {T : Nat → Bool} {i : Nat} {oi : Oper} {v : Value} (hi : ops[i]? = some oi) (hsel : ∀ (j : Nat) (o : Oper) cs b, ops[j]? = some o → o.op ≠ .select cs b)
    (hQ : ∀ d v c a w, Q (.panic c) (Act.put a d v) w → Q (.panic c) a w) (hw : ∀ j, T j = false → j < ops.size → reachV ops ops.size j i = true) :
    ∀ (f : Nat) (listed : Array Bool) (a : Act) (w : World), ShutV ops listed →
      (∀ j oj, ops[j]? = some oj → j ≠ i → listed.getD j true = false → (∀ e ∈ oj.after, Region.binds .any e = true → e.on ≠ i) → oi.apart ops oj = true) →
      i ∈ Region.ready .any ops listed → YieldsIf P ops S oi v a → S w →
      wpV P ops Q S T f (listed.setIfInBounds i true) (a.put oi.dst v) w → wpV P ops Q S T (f + 1) listed a w := by
  intro f
  induction f with
  | zero =>
    intro listed a w _ _ hr hy hS H
    refine ⟨fun h => (by rw [h] at hr; cases hr), fun j hj => ?_⟩
    by_cases hji : j = i
    · subst hji; exact hy.wpOp hi hS ⟨fun _ => hS, H⟩
    · have := ready_mono hj hji
      rw [H.1] at this
      cases this
  | succ f ih =>
    intro listed a w hsh hfree hr hy hS H
    refine ⟨fun h => (by rw [h] at hr; cases hr), fun j hj => ?_⟩
    by_cases hji : j = i
    · subst hji; exact hy.wpOp hi hS ⟨fun _ => hS, H⟩
    · have h1 := H.2 j (ready_mono hj hji)
      obtain ⟨hjun, oj, hoj, hall⟩ := mem_ready.1 hj
      have h0 := (mem_ready.1 hr).1
      have hnot : ∀ e ∈ oj.after, Region.binds .any e = true → e.on ≠ i := fun e he hb heq => by
        have h1 := hall e he hb
        rw [heq, getD_both h0] at h1
        cases h1
      have hjT : T j = true := by
        cases hT : T j with
        | true => rfl
        | false =>
          have h2 := reachV_spec hsh ops.size j i (hw j hT (Array.getElem?_eq_some_iff.1 hoj).1) (fun ok hok e he hb => by
            have : ok = oj := Option.some.inj (hok.symm.trans hoj)
            subst this
            exact hall e he hb)
          rw [getD_both h0] at h2
          cases h2
      have h2 := wpOp_putIf hoj (hfree j oj hoj hji hjun hnot) (fun cs b => hsel i oi cs b hi) (fun cs b => hsel j oj cs b hoj) (fun c a w => hQ _ _ c a w) hy h1
      have hfree' : ∀ k ok, ops[k]? = some ok → k ≠ i → (listed.setIfInBounds j true).getD k true = false →
          (∀ e ∈ ok.after, Region.binds .any e = true → e.on ≠ i) → oi.apart ops ok = true := fun k ok hk hki hun hno => by
        refine hfree k ok hk hki ?_ hno
        by_cases hjk : j = k
        · subst hjk; exact hjun
        · rw [getD_set_ne true hjk] at hun; exact hun
      refine wpOp_mono (fun a' w' h3 => ⟨fun _ => h3.2.1 hjT, ih (listed.setIfInBounds j true) a' w' (hsh.set hj) hfree' (ready_mono hr (Ne.symm hji)) h3.1 (h3.2.1 hjT) ?_⟩) h2
      rw [Array.setIfInBounds_comm _ _ hji]
      exact h3.2.2
def zOp : Oper := { dst := none, op := .move (.const (.bool false)), type := 0, pos := "", after := #[], guard := none }
def setV (is : List Nat) (listed : Array Bool) : Array Bool := is.foldl (fun l i => l.setIfInBounds i true) listed
def lexV (ops : Array Oper) : List Nat → Array Bool → Bool
  | [], _ => true
  | i :: is, listed => (Region.ready .any ops listed).contains i && Region.free .any ops listed i && lexV ops is (listed.setIfInBounds i true)
def seqV (ops : Array Oper) : List Nat → Array Bool → Bool
  | [], listed => (Region.ready .any ops listed).isEmpty
  | i :: is, listed => decide (Region.ready .any ops listed = [i]) && seqV ops is (listed.setIfInBounds i true)
theorem getD_opV {l : List Oper} {i : Nat} (h : i < l.length) : l.toArray[i]? = some (l.getD i zOp) := by
  simp [h]
theorem wpV_lex {P : Program} {l : List Oper} {Q : Exit → Act → World → Prop} {C : World → Prop} {T : Nat → Bool} {g : Nat} {w : World} (hsel : Region.noSelect l.toArray = true)
    (hQ : ∀ d v c a w, Q (.panic c) (Act.put a d v) w → Q (.panic c) a w) (D : Array Bool) (hC : C w) :
    ∀ (hs : List Nat) (listed : Array Bool) (a : Act), (∀ i ∈ hs, i < l.length ∧ plV (l.getD i zOp) = true ∧ ∀ j, T j = false → j < l.toArray.size → reachV l.toArray l.toArray.size j i = true) → ShutV l.toArray listed → lexV l.toArray hs listed = true → setV hs listed = D →
      wpQuiet P l.toArray C (fun a' => wpV P l.toArray Q C T g D a' w) (hs.map fun i => l.getD i zOp) a → wpV P l.toArray Q C T (hs.length + g) listed a w
  | [], listed, a, _, hsh, _, hd, h => by
    rw [List.length_nil, Nat.zero_add]
    subst hd
    exact h
  | i :: is, listed, a, hh, hsh, hB, hd, h => by
    obtain ⟨hil, hpl, hwt⟩ := hh i (by simp)
    have h0 := getD_opV hil
    simp only [lexV, Bool.and_eq_true] at hB
    have hr : i ∈ Region.ready .any l.toArray listed := by simpa using hB.1.1
    have hq : qOp P l.toArray C i (wpQuiet P l.toArray C (fun a' => wpV P l.toArray Q C T g D a' w) (is.map fun i => l.getD i zOp)) a := by unfold qOp; simp only [h0]; exact h
    obtain ⟨v, hy, hKK⟩ := yieldsIn_of_qOp h0 hq
    rw [List.length_cons, show is.length + 1 + g = (is.length + g) + 1 by omega]
    refine wpV_first h0 (Region.noSelect_spec hsel) hQ hwt (is.length + g) listed a w hsh (Region.free_spec h0 hB.1.2) hr (plV_yields hpl hy) hC ?_
    exact wpV_lex hsel hQ D hC is _ _ (fun k hk => hh k (by simp [hk])) (hsh.set hr) hB.2 hd hKK
def takesB (l : List Oper) (T : Nat → Bool) (hs : List Nat) (listed : Array Bool) : Bool :=
  Region.noSelect l.toArray && (hs.all fun i => decide (i < l.length) && plV (l.getD i zOp) && (List.range l.toArray.size).all fun j => T j || reachV l.toArray l.toArray.size j i) && shutV l.toArray listed && lexV l.toArray hs listed
/-- Plain operations, taken first. -/
theorem wpV_takes {P : Program} {l : List Oper} {Q : Exit → Act → World → Prop} {C : World → Prop} {T : Nat → Bool} (g : Nat) {f : Nat} {w : World} {listed : Array Bool} {a : Act} (hs : List Nat) (hf : hs.length + g = f) (D : Array Bool) (hD : setV hs listed = D) (hB : takesB l T hs listed = true)
    (hQ : ∀ d v c a w, Q (.panic c) (Act.put a d v) w → Q (.panic c) a w) (hC : C w) (h : wpQuiet P l.toArray C (fun a' => wpV P l.toArray Q C T g D a' w) (hs.map fun i => l.getD i zOp) a) : wpV P l.toArray Q C T f listed a w := by
  subst hf
  simp only [takesB, Bool.and_eq_true] at hB
  obtain ⟨⟨⟨hsel, hhs⟩, hsh⟩, hlex⟩ := hB
  refine wpV_lex hsel hQ D hC hs listed a (fun i hi => ?_) (shutV_spec hsh) hlex hD h
  have h1 := List.all_eq_true.1 hhs i hi
  simp only [Bool.and_eq_true, decide_eq_true_eq] at h1
  refine ⟨h1.1.1, h1.1.2, fun j hj hjs => ?_⟩
  have h2 := List.all_eq_true.1 h1.2 j (List.mem_range.2 hjs)
  rw [hj, Bool.false_or] at h2
  exact h2
/-- Behind one operation. -/
def wildK (K : Act → World → Prop) (Q : Exit → Act → World → Prop) : Exit → Act → World → Prop
  | .normal, a, w => K a w
  | .exit i, a, w => Q (.exit i) a w
  | .goto i, a, w => Q (.goto i) a w
  | .ret, a, w => Q .ret a w
  | .panic c, a, w => Q (.panic c) a w
  | .outgrown, a, w => Q .outgrown a w
theorem wildK_normal {K : Act → World → Prop} {Q : Exit → Act → World → Prop} {a : Act} {w : World} (h : K a w) : wildK K Q .normal a w := h
theorem upon_wildK {P : Program} {K' : Act → World → Prop} {Q : Exit → Act → World → Prop} {o : Oper} {a : Act} {w : World} {K : Act → World → Prop} (h : o.wp P a w K (wildK K' Q)) : o.wp P a w K Q := by
  unfold Oper.wp at *
  generalize (execOp a.eval o).run P w = r at *
  cases r with
  | ok n w' =>
    cases n <;> simp only [Oper.upon] at h ⊢ <;>
      first
        | exact h
        | exact Calls.mono h (fun e w'' he => by cases e <;> exact he)
  | halt x w' => cases x <;> simp only [Oper.upon] at h ⊢ <;> exact h
theorem wpOp_wildK {P : Program} {l : List Oper} {Q : Exit → Act → World → Prop} {i : Nat} {K : Act → World → Prop} {a : Act} {w : World} (hi : i < l.length) (h : wpList P l.toArray (wildK K Q) [l.getD i zOp] a w) : wpOp P l.toArray Q i K a w := by
  have hop := getD_opV hi
  unfold wpOp
  simp only [hop]
  unfold wpList at h
  by_cases hg : Region.wanted (l.getD i zOp) (yielded l.toArray a.tmps) = true
  · rw [if_pos hg] at h ⊢
    exact h.imp (fun h2 => Oper.wp_mono (fun a'' w'' h3 => h3) (upon_wildK h2)) (fun h => h)
  · rw [if_neg hg] at h ⊢
    exact h
/-- What follows an operation, kept apart. -/
structure After (P : Program) (l : List Oper) (Q : Exit → Act → World → Prop) (S : World → Prop) (T : Nat → Bool) (f i : Nat) (D : Array Bool) (K : Act → World → Prop) : Prop where
  out : ∀ a' w', S w' → wpV P l.toArray Q S T f D a' w' → K a' w'
/-- One operation may come up. -/
theorem wpV_one {P : Program} {l : List Oper} {Q : Exit → Act → World → Prop} {S : World → Prop} {T : Nat → Bool} {f : Nat} {listed : Array Bool} {a : Act} {w : World} (i : Nat) (o : Oper) (D : Array Bool) (hr : Region.ready .any l.toArray listed = [i]) (hi : decide (i < l.length) = true) (ho : l.getD i zOp = o) (hD : listed.setIfInBounds i true = D)
    (h : ∀ K, After P l Q S T f i D K → wpList P l.toArray (wildK K Q) [o] a w) : wpV P l.toArray Q S T (f + 1) listed a w := by
  subst ho
  subst hD
  refine ⟨fun h1 => (by rw [hr] at h1; cases h1), fun j hj => ?_⟩
  rw [hr] at hj
  obtain rfl : j = i := by simpa using hj
  exact wpOp_wildK (of_decide_eq_true hi) (h _ ⟨fun _ _ h1 h2 => ⟨fun _ => h1, h2⟩⟩)
/-- Two operations may come up. -/
theorem wpV_two {P : Program} {l : List Oper} {Q : Exit → Act → World → Prop} {S : World → Prop} {T : Nat → Bool} {f : Nat} {listed : Array Bool} {a : Act} {w : World} (i k : Nat) (o ok : Oper) (D Dk : Array Bool) (hr : Region.ready .any l.toArray listed = [i, k]) (hi : decide (i < l.length ∧ k < l.length) = true) (ho : l.getD i zOp = o) (hok : l.getD k zOp = ok)
    (hD : listed.setIfInBounds i true = D) (hDk : listed.setIfInBounds k true = Dk)
    (h1 : ∀ K, After P l Q S T f i D K → wpList P l.toArray (wildK K Q) [o] a w) (h2 : ∀ K, After P l Q S T f k Dk K → wpList P l.toArray (wildK K Q) [ok] a w) : wpV P l.toArray Q S T (f + 1) listed a w := by
  subst ho
  subst hok
  subst hD
  subst hDk
  refine ⟨fun h1 => (by rw [hr] at h1; cases h1), fun j hj => ?_⟩
  rw [hr] at hj
  have hj' : j = i ∨ j = k := by simpa using hj
  rcases hj' with rfl | rfl
  · exact wpOp_wildK (of_decide_eq_true hi).1 (h1 _ ⟨fun _ _ h1 h2 => ⟨fun _ => h1, h2⟩⟩)
  · exact wpOp_wildK (of_decide_eq_true hi).2 (h2 _ ⟨fun _ _ h1 h2 => ⟨fun _ => h1, h2⟩⟩)
theorem wpV_tail' {P : Program} {l : List Oper} {Q : Exit → Act → World → Prop} {S : World → Prop} {T : Nat → Bool} : ∀ (ts : List Nat) (listed : Array Bool) (a : Act) (w : World), (∀ i ∈ ts, i < l.length ∧ T i = false) →
    seqV l.toArray ts listed = true → wpList P l.toArray Q (ts.map fun i => l.getD i zOp) a w → wpV P l.toArray Q S T ts.length listed a w
  | [], _, _, _, _, hB, h => ⟨by simpa [seqV] using hB, h⟩
  | i :: ts, listed, a, w, hh, hB, h => by
    obtain ⟨hil, hT⟩ := hh i (by simp)
    have h0 := getD_opV hil
    simp only [seqV, Bool.and_eq_true, decide_eq_true_eq] at hB
    refine ⟨fun h1 => (by rw [hB.1] at h1; cases h1), fun k hk => ?_⟩
    rw [hB.1] at hk
    have hik : k = i := by simpa using hk
    subst hik
    have hw : wpOp P l.toArray Q k (wpList P l.toArray Q (ts.map fun i => l.getD i zOp)) a w := by unfold wpOp; simp only [h0]; exact h
    exact wpOp_mono (fun a' w' h' => ⟨fun h => absurd h (by rw [hT]; decide), wpV_tail' ts _ a' w' (fun i hi => hh i (by simp [hi])) hB.2 h'⟩) hw
/-- A tail in its one order. -/
theorem wpV_tail {P : Program} {l : List Oper} {Q : Exit → Act → World → Prop} {S : World → Prop} {T : Nat → Bool} {f : Nat} {listed : Array Bool} {a : Act} {w : World} (ts : List Nat) (hf : ts.length = f) (hB : (seqV l.toArray ts listed && ts.all fun i => decide (i < l.length) && !(T i)) = true) (h : wpList P l.toArray Q (ts.map fun i => l.getD i zOp) a w) : wpV P l.toArray Q S T f listed a w := by
  subst hf
  rw [Bool.and_eq_true] at hB
  refine wpV_tail' ts listed a w (fun i hi => ?_) hB.1 h
  have h1 := List.all_eq_true.1 hB.2 i hi
  simpa using h1
/-- The whole region. -/
theorem wp_region_V {P : Program} {id : Nat} {Q : Exit → Act → World → Prop} {a : Act} {w : World} {l : List Oper} (C : World → Prop) (T : Nat → Bool) (n : Nat) (D : Array Bool) (hm : P.follows .mixedOrders = true) (hn : l.toArray.size = n) (hD : Array.replicate n false = D)
    (h : wpV P l.toArray Q C T n D a w.drew) : (Code.region id l.toArray true).wp P Q a w := by
  subst hn
  subst hD
  exact wp_region_any hm (wpV_sound _ _ _ _ h)
end Go.Proofs.YtlalgkjollgcbaaGreat.X
