/- What slices.Grow of a nil slice and slices.Concat come to at prefixes. -/
import Derived.Test.YtbnkgecblaffeaaG
import Derived.Lib.AppendZerosOnto
import Derived.Lib.AppendZeros
import Derived.Lib.Walk
import Derived.Laws.AppendOwnNone
import Derived.OwnWalk
namespace Go.Proofs.Ytbnkgecblaffeaa
open Go.RowKit Go.Shelf

theorem under_int : Try.prog.underlying 3 = some (.int .i64) := by kernel_rfl

set_option maxRecDepth 20000 in
set_option maxHeartbeats 800000 in
theorem grow_nil (n : Nat) (w : World) (h0 : 0 < n) (hn : n ≤ 1000) :
    Calls Try.prog 58 #[.slice none 0 0, .int .i64 n] w fun e w' => ∃ v, e = .returned v ∧ Below w.heap.size w w' ∧ w'.ownsRow w.heap.size 23 2 v 0 [] := by
  obtain ⟨i0, hi, hz0, hz1, hz2⟩ := info_prefix'
  have hold : (Builtin.firstCells i0.size 0 (.slice none 0 0)).run Try.prog w.drew = .ok ([] : List Value).toArray w.drew := run_firstCells_none w.drew i0.size 0 0 0
  have hrz : ∀ ty, (Builtin.append_ #[24, 3] ty #[.slice none 0 0, .int .i64 (n : Int)]).run Try.prog w = _ := fun ty =>
    Lib.run_append_grow_zeros w 24 3 ty 23 i0 (.agg #[.int .i64 0, .int .i64 0]) .i64 .i64 under_prefixes under_int hi hz0 none 0 0 [] hold n (by omega) (by omega) (by omega) (by omega) (by rw [hz2]; omega) (by rw [hz2]; exact growslice_fits (by omega) (by omega))
  have hG := grownCap_le_maxLen w (0 + n) 0 23 (by unfold maxLen; omega)
  have hGn := grownCap_ge w (0 + n) 0 23
  generalize grownCap w (0 + n) 0 23 = G at hrz hG hGn
  have h1 : ¬ ((n : Int) < 0) := by omega
  have h4 : (n : Int) > 0 := by omega
  have hG63 : G ≤ 9223372036854775807 := by unfold maxLen at hG; omega
  go_enter Try.func58, Try.ntmps58
  go_wp2_with (at_builtin; refine Lib.wpList_append_run _ rfl _ _ _ _ rfl _ _ rfl rfl _ _ (hrz _) ?_)
  go_ret
  refine ⟨_, rfl, (bl1 w _).drew, (World.ownsRow_made w _ G (Nat.le_refl _) hG ?_).drew⟩
  simp only [Array.size_append, size_zeroCells, List.size_toArray, List.length_cons, List.length_nil]
  omega
theorem grow_zero (w : World) :
    Calls Try.prog 58 #[.slice none 0 0, .int .i64 0] w fun e w' => e = .returned (.slice none 0 0) ∧ w' = w := by
  go_enter Try.func58, Try.ntmps58
  go_wp2
  go_ret
  exact ⟨rfl, rfl⟩
theorem grow_any (n : Nat) (w : World) (hn : n ≤ 1000) :
    Calls Try.prog 58 #[.slice none 0 0, .int .i64 n] w fun e w' => ∃ v, e = .returned v ∧ Below w.heap.size w w' ∧ w'.ownsRow w.heap.size 23 2 v 0 [] := by
  by_cases h : n = 0
  · subst h
    exact (grow_zero w).mono fun _ _ ⟨he, hw⟩ => ⟨_, he, by rw [hw]; exact Below.refl _ _, World.ownsRow_nil _ _ _ _⟩
  · exact grow_nil n w (by omega) hn

/-- The lists, one behind the other. -/
def catTo (ql : Nat → List (Int × Int)) : Nat → List (Int × Int)
  | 0 => []
  | j + 1 => catTo ql j ++ ql j

theorem addr_add (b o j : Nat) : (⟨b, o, none⟩ : Addr).add j = ⟨b, o + j, none⟩ := by
  unfold Addr.add
  split
  · simp_all
  · rfl
theorem PS.flat_cells {w : World} {ad : Addr} {n : Nat} {ps : List (Int × Int)} (h : PS w (some ad) n ps) : ∀ j u, (flat ps)[j]? = some u → w.cell? (ad.add j) = some u := by
  intro j u hj
  have hlt : j < ps.length * 2 := by have := (List.getElem?_eq_some_iff.1 hj).1; rwa [flat_len] at this
  have hi : j / 2 < ps.length := by omega
  obtain ⟨b, o, hb, c0, c1⟩ := h.cells (j / 2) (by rw [← h.len]; exact hi)
  cases hb
  have hg := flat_get ps (j / 2) hi
  rcases Nat.mod_two_eq_zero_or_one j with hm | hm
  · have e : j / 2 * 2 = j := by omega
    rw [e] at hg c0
    rw [hg.1] at hj
    cases hj
    rw [addr_add]; exact c0
  · have e : j / 2 * 2 + 1 = j := by omega
    rw [e] at hg
    rw [hg.2] at hj
    cases hj
    have e2 : o + j / 2 * 2 + 1 = o + j := by omega
    rw [e2] at c1
    rw [addr_add]; exact c1

set_option maxRecDepth 20000 in
set_option maxHeartbeats 1600000 in
theorem concat_any (B k k' : Nat) (xl : Nat → Option Addr) (nl cl : Nat → Nat) (ql : Nat → List (Int × Int)) (w : World) (hk : k ≤ 3)
    (hc : ∀ j, j < k → w.cell? ⟨B, j, none⟩ = some (.slice (xl j) (nl j) (cl j))) (hp : ∀ j, j < k → PS w (xl j) (nl j) (ql j)) (hn : ∀ j, j < k → nl j ≤ 64) (h0 : ∀ j, j < k → xl j = none → nl j = 0 ∧ cl j = 0) :
    Calls Try.prog 42 #[.slice (some ⟨B, 0, none⟩) k k'] w fun e w' => ∃ v, e = .returned v ∧ Below w.heap.size w w' ∧ w'.ownsRow w.heap.size 23 2 v (catTo ql k).length (flat (catTo ql k)) := by
  obtain ⟨i0, hi, hz0, hz1, hz2⟩ := info_prefix'
  have hlen : ∀ j, j ≤ k → (catTo ql j).length ≤ 64 * j := by
    intro j
    induction j with
    | zero => intro _; simp [catTo]
    | succ j ih =>
      intro hj
      have h1 := ih (by omega)
      have h2 := (hp j (by omega)).len
      have h3 := hn j (by omega)
      simp only [catTo, List.length_append]
      omega
  go_enter Try.func42, Try.ntmps42
  go_wp2
  go_loopw [11, 3] (fun i t wr => ∃ j : Nat, j ≤ k ∧ i = .int .i64 j ∧ t = .int .i64 ((catTo ql j).length : Nat) ∧ wr = w) (fun i _ _ => k - (intOf i).toNat)
  case atStart => exact ⟨0, by omega, rfl, rfl, rfl⟩
  case round =>
    obtain ⟨j, hj, rfl, rfl, hw⟩ := hrel
    have hw' := hw.symm
    subst hw'
    clear hw
    have hl := hlen j hj
    by_cases hlt : j < k
    · have hcj := hc j hlt
      have hl2 := hlen (j + 1) hlt
      have hpl := (hp j hlt).len
      have hnj := hn j hlt
      have hlt' := hlt
      have hcat : (catTo ql (j + 1)).length = (catTo ql j).length + nl j := by simp only [catTo, List.length_append, hpl]
      have hneg : ¬ (((catTo ql j).length : Int) + (nl j : Int) < 0) := by omega
      go_wp2
      go_roundw
      case rel => exact ⟨j + 1, hlt', by go_num, by rw [hcat]; go_num, trivial⟩
      case measure => simp [intOf]; omega
    · obtain rfl : j = k := by omega
      go_wp2_with fail
      refine (grow_any _ w (by omega)).mono ?_
      rintro e w1 ⟨v0, rfl, hb1, hown1⟩
      go_wp2
      go_loopw [27, 6] (fun i v wq => ∃ q : Nat, q ≤ j ∧ i = .int .i64 q ∧ Below w.heap.size w wq ∧ wq.ownsRow w.heap.size 23 2 v (catTo ql q).length (flat (catTo ql q))) (fun i _ _ => j - (intOf i).toNat)
      case atStart => exact ⟨0, by omega, rfl, hb1, hown1⟩
      case round =>
        obtain ⟨q, hq, rfl, hB, hown⟩ := hrel
        by_cases hlt2 : q < j
        · have hcq := cell_later hB (hc q hlt2)
          have hpq := (hp q hlt2).later hB
          have hlq := hlen q hq
          have hnq := hn q hlt2
          have hlt3 := hlt2
          have hsz := hB.size
          cases hxq : xl q with
          | none =>
            obtain ⟨hn0, hc0⟩ := h0 q hlt2 hxq
            rw [hxq, hn0, hc0] at hcq
            have hq0 : ql q = [] := List.eq_nil_of_length_eq_zero (by rw [hpq.len]; exact hn0)
            go_wp2_with (at_builtin; refine wpList_append_own_none rfl _ _ 24 rfl w.heap.size 23 i0 2 under_prefixes hi _ _ _ rfl hown rfl ?_)
            go_roundw
            case rel => exact ⟨q + 1, hlt3, by go_num, hB, by simp only [catTo, hq0, List.append_nil]; exact hown⟩
            case measure => simp [intOf]; omega
          | some ad =>
            rw [hxq] at hcq hpq
            go_wp2_with (at_builtin; refine Hid.out ?_)
            unfold Hid
            refine wpList_append_own _ rfl _ _ 24 rfl w.heap.size 23 i0 (.agg #[.int .i64 0, .int .i64 0]) 2 16 under_prefixes hi hz0 hz1 hz2 rfl (by decide) _ _ _ rfl hown ad (nl q) (cl q) (flat (ql q)) rfl (by rw [flat_len, hpq.len]) hpq.flat_cells (flat_one _) (by unfold maxLen; omega) (by omega) (by omega) ?_
            intro v' w2 hown2 hgrow' _
            have hgrow : wr.grownBy w2 u6.ownBlock := hgrow'
            clear hgrow'
            have hB2 : Below w.heap.size w w2 := ⟨hgrow.os.trans hB.os, hgrow.tape.trans hB.tape, hgrow.output.trans hB.output, Nat.le_trans hsz hgrow.size, fun k hk => (hgrow.block k (by omega) (fun e => by have := (hown.lt _ e.symm).1; omega)).trans (hB.block k hk)⟩
            have hown3 : w2.ownsRow w.heap.size 23 2 v' (catTo ql (q + 1)).length (flat (catTo ql (q + 1))) := by
              simp only [catTo, List.length_append, hpq.len, flat_append]
              exact hown2
            clear hown2
            go_wp2
            go_roundw
            case rel => exact ⟨q + 1, hlt3, by go_num, hB2, hown3⟩
            case measure => simp [intOf]; omega
        · obtain rfl : q = j := by omega
          go_wp2
          go_ret
          exact ⟨_, rfl, hB, hown⟩
end Go.Proofs.Ytbnkgecblaffeaa
