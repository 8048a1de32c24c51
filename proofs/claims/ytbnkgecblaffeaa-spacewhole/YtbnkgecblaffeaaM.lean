/- What order.Put and slices.Index come to at prefixes. -/
import Derived.Test.YtbnkgecblaffeaaJ
import Derived.Test.YtbnkgecblaffeaaW
import Derived.Test.YtbnkgecblaffeaaX
import Derived.Deep.RegionHeld3
namespace Go.Proofs.Ytbnkgecblaffeaa
open Go.RowKit Go.Shelf

set_option maxRecDepth 20000 in
set_option maxHeartbeats 800000 in
theorem put1_any (a l c m : Int) (bp bb bf k : Nat) (w : World) (h0 : w.cell? ⟨bp, 0, none⟩ = some (.int .i64 a)) (h1 : w.cell? ⟨bp, 1, none⟩ = some (.int .i64 l))
    (h2 : w.cell? ⟨bb, 0, none⟩ = some (.slice (some ⟨bf, 0, none⟩) 1 k)) (h3 : w.cell? ⟨bf, 0, none⟩ = some (.func (.func 40) #[] #[])) :
    Calls Try.prog 56 #[.agg #[.int .i64 c, .int .i64 m], .pointer (some ⟨bp, 0, none⟩), .pointer (some ⟨bb, 0, none⟩)] w fun e w' => e = .returned (.bool (decide (a < c))) ∧ Below w.heap.size w w' := by
  have k0 : ∀ q, (w.alloc q).cell? ⟨bp, 0, none⟩ = some (.int .i64 a) := fun q => cell_later (bl1 w q) h0
  have k1 : ∀ q, (w.alloc q).cell? ⟨bp, 1, none⟩ = some (.int .i64 l) := fun q => cell_later (bl1 w q) h1
  have k2 : ∀ q, (w.alloc q).cell? ⟨bb, 0, none⟩ = some (.slice (some ⟨bf, 0, none⟩) 1 k) := fun q => cell_later (bl1 w q) h2
  have hv : ∃ v, Cmp a c v ∧ (decide (a < c) = decide (v < 0)) := by
    rcases Int.lt_trichotomy a c with h | h | h
    · exact ⟨-1, .inl ⟨h, rfl⟩, by simp [h]⟩
    · exact ⟨0, .inr (.inl ⟨h, rfl⟩), by simp [h]⟩
    · exact ⟨1, .inr (.inr ⟨h, rfl⟩), by simp; omega⟩
  obtain ⟨v, hv, hd⟩ := hv
  rw [hd]
  go_enter Try.func56, Try.ntmps56
  go_wp2_with (go_at_call 57; refine (compare_is a l c m v hv bf k _ (cell_later (bl1 w _) h3)).mono ?_; rintro e w1 ⟨rfl, hb1⟩)
  go_ret
  exact ⟨rfl, (bl1 w _).trans (hb1.mono (by simp))⟩
theorem call_put1 (args : Array Value) (W : World) : (callFunc 56 args).run Try.prog W = .ok (.enter 56 args) W := by simp [go_sem]

theorem at_take {ps : List (Int × Int)} {i j : Nat} (h : j < i) : at0 (ps.take i) j = at0 ps j ∧ at1 (ps.take i) j = at1 ps j := by
  simp [at0, at1, List.getD_eq_getElem?_getD, List.getElem?_take_of_lt h]
theorem at_drop {ps : List (Int × Int)} {i j : Nat} : at0 (ps.drop i) j = at0 ps (i + j) ∧ at1 (ps.drop i) j = at1 ps (i + j) := by
  simp [at0, at1, List.getD_eq_getElem?_getD]
theorem PS.take {w : World} {x : Option Addr} {n i : Nat} {ps : List (Int × Int)} (h : PS w x n ps) (hi : i ≤ n) : PS w x i (ps.take i) where
  len := by rw [List.length_take, h.len]; omega
  cells := fun j hj => by
    obtain ⟨b, o, hx, c0, c1⟩ := h.cells j (by omega)
    exact ⟨b, o, hx, by rw [(at_take hj).1]; exact c0, by rw [(at_take hj).2]; exact c1⟩
theorem PS.drop {w : World} {b o n i c : Nat} {ps : List (Int × Int)} (h : PS w (some ⟨b, o, none⟩) n ps) (hi : i ≤ n) (hnc : n ≤ c) : PS w (if c = i then some ⟨b, o, none⟩ else some ⟨b, o + i * 2, none⟩) (n - i) (ps.drop i) where
  len := by rw [List.length_drop, h.len]
  cells := fun j hj => by
    have hne : c ≠ i := by omega
    obtain ⟨b', o', hx, c0, c1⟩ := h.cells (i + j) (by omega)
    cases hx
    refine ⟨b, o + i * 2, by rw [if_neg hne], ?_, ?_⟩
    · rw [at_drop.1, show o + i * 2 + j * 2 = o + (i + j) * 2 by omega]; exact c0
    · rw [at_drop.2, show o + i * 2 + j * 2 + 1 = o + (i + j) * 2 + 1 by omega]; exact c1

set_option maxHeartbeats 800000 in
theorem concat3 (x1 x3 : Option Addr) (n1 c1 n3 c3 : Nat) (q1 q3 : List (Int × Int)) (a l : Int) (w : World) (h1 : PS w x1 n1 q1) (h3 : PS w x3 n3 q3) (b1 : n1 ≤ 64) (b3 : n3 ≤ 64) (z1 : x1 = none → n1 = 0 ∧ c1 = 0) (z3 : x3 = none → n3 = 0 ∧ c3 = 0) :
    Calls Try.prog 42 #[.slice (some ⟨w.heap.size + 1, 0, none⟩) 3 3] ((w.alloc (.cells #[.int .i64 a, .int .i64 l] 23)).alloc (.cells #[.slice x1 n1 c1, .slice (some ⟨w.heap.size, 0, none⟩) 1 1, .slice x3 n3 c3] 24)).drew fun e w' =>
      ∃ x' c', e = .returned (.slice x' (n1 + 1 + n3) c') ∧ Below w.heap.size w w' ∧ PS w' x' (n1 + 1 + n3) (q1 ++ [(a, l)] ++ q3) ∧ (∀ q, x' = some q → w.heap.size ≤ q.block) ∧ n1 + 1 + n3 ≤ c' ∧ c' ≤ 9223372036854775807 := by
  have hB : Below w.heap.size w ((w.alloc (.cells #[.int .i64 a, .int .i64 l] 23)).alloc (.cells #[.slice x1 n1 c1, .slice (some ⟨w.heap.size, 0, none⟩) 1 1, .slice x3 n3 c3] 24)).drew := (bl2 w _ _).drew
  have g0 : ((w.alloc (.cells #[.int .i64 a, .int .i64 l] 23)).alloc (.cells #[.slice x1 n1 c1, .slice (some ⟨w.heap.size, 0, none⟩) 1 1, .slice x3 n3 c3] 24)).drew.heap[w.heap.size]? = some (.cells #[.int .i64 a, .int .i64 l] 23) := heap_old _ (heap_new _ rfl)
  have g1 : ((w.alloc (.cells #[.int .i64 a, .int .i64 l] 23)).alloc (.cells #[.slice x1 n1 c1, .slice (some ⟨w.heap.size, 0, none⟩) 1 1, .slice x3 n3 c3] 24)).drew.heap[w.heap.size + 1]? = some (.cells #[.slice x1 n1 c1, .slice (some ⟨w.heap.size, 0, none⟩) 1 1, .slice x3 n3 c3] 24) := heap_new _ (by simp)
  have hs : ((w.alloc (.cells #[.int .i64 a, .int .i64 l] 23)).alloc (.cells #[.slice x1 n1 c1, .slice (some ⟨w.heap.size, 0, none⟩) 1 1, .slice x3 n3 c3] 24)).drew.heap.size = w.heap.size + 2 := by simp
  generalize ((w.alloc (.cells #[.int .i64 a, .int .i64 l] 23)).alloc (.cells #[.slice x1 n1 c1, .slice (some ⟨w.heap.size, 0, none⟩) 1 1, .slice x3 n3 c3] 24)).drew = W at hB g0 g1 hs ⊢
  have hp2 : PS W (some ⟨w.heap.size, 0, none⟩) 1 [(a, l)] := ⟨rfl, fun i hi => by
    obtain rfl : i = 0 := by omega
    exact ⟨w.heap.size, 0, rfl, by simp [World.cell?, g0, at0], by simp [World.cell?, g0, at1]⟩⟩
  have hcat : catTo (fun j => if j = 0 then q1 else if j = 1 then [(a, l)] else q3) 3 = q1 ++ [(a, l)] ++ q3 := by simp [catTo]
  refine (concat_any (w.heap.size + 1) 3 3 (fun j => if j = 0 then x1 else if j = 1 then some ⟨w.heap.size, 0, none⟩ else x3) (fun j => if j = 0 then n1 else if j = 1 then 1 else n3) (fun j => if j = 0 then c1 else if j = 1 then 1 else c3) (fun j => if j = 0 then q1 else if j = 1 then [(a, l)] else q3) W (by omega) ?_ ?_ ?_ ?_).mono ?_
  · intro j hj
    rcases j with _ | _ | _ | j
    · simp [World.cell?, g1]
    · simp [World.cell?, g1]
    · simp [World.cell?, g1]
    · omega
  · intro j hj
    rcases j with _ | _ | _ | j
    · simpa using h1.later hB
    · simpa using hp2
    · simpa using h3.later hB
    · omega
  · intro j hj
    rcases j with _ | _ | _ | j
    · simpa using b1
    · simp
    · simpa using b3
    · omega
  · intro j hj
    rcases j with _ | _ | _ | j
    · simpa using z1
    · simp
    · simpa using z3
    · omega
  · rintro e w' ⟨v, rfl, hb, hown⟩
    rw [hcat] at hown
    obtain ⟨x', c', rfl, hps, hfr, hlc, hcm⟩ := PS.of_own hown
    have hl : (q1 ++ [(a, l)] ++ q3).length = n1 + 1 + n3 := by simp [h1.len, h3.len]; omega
    rw [hl] at hps hlc ⊢
    exact ⟨x', c', rfl, hB.trans (hb.mono (by omega)), hps, (fun q hq => by have := (hfr q hq).1; omega), hlc, hcm⟩

set_option maxHeartbeats 800000 in
theorem concat2 (x1 x3 : Option Addr) (n1 c1 n3 c3 : Nat) (q1 q3 : List (Int × Int)) (w : World) (h1 : PS w x1 n1 q1) (h3 : PS w x3 n3 q3) (b1 : n1 ≤ 64) (b3 : n3 ≤ 64) (z1 : x1 = none → n1 = 0 ∧ c1 = 0) (z3 : x3 = none → n3 = 0 ∧ c3 = 0) :
    Calls Try.prog 42 #[.slice (some ⟨w.heap.size, 0, none⟩) 2 2] (w.alloc (.cells #[.slice x1 n1 c1, .slice x3 n3 c3] 24)).drew fun e w' =>
      ∃ x' c', e = .returned (.slice x' (n1 + n3) c') ∧ Below w.heap.size w w' ∧ PS w' x' (n1 + n3) (q1 ++ q3) ∧ (∀ q, x' = some q → w.heap.size ≤ q.block) ∧ n1 + n3 ≤ c' ∧ c' ≤ 9223372036854775807 := by
  have hB : Below w.heap.size w (w.alloc (.cells #[.slice x1 n1 c1, .slice x3 n3 c3] 24)).drew := (bl1 w _).drew
  have g1 : (w.alloc (.cells #[.slice x1 n1 c1, .slice x3 n3 c3] 24)).drew.heap[w.heap.size]? = some (.cells #[.slice x1 n1 c1, .slice x3 n3 c3] 24) := heap_new _ rfl
  have hs : (w.alloc (.cells #[.slice x1 n1 c1, .slice x3 n3 c3] 24)).drew.heap.size = w.heap.size + 1 := by simp
  generalize (w.alloc (.cells #[.slice x1 n1 c1, .slice x3 n3 c3] 24)).drew = W at hB g1 hs ⊢
  have hcat : catTo (fun j => if j = 0 then q1 else q3) 2 = q1 ++ q3 := by simp [catTo]
  refine (concat_any w.heap.size 2 2 (fun j => if j = 0 then x1 else x3) (fun j => if j = 0 then n1 else n3) (fun j => if j = 0 then c1 else c3) (fun j => if j = 0 then q1 else q3) W (by omega) ?_ ?_ ?_ ?_).mono ?_
  · intro j hj
    rcases j with _ | _ | j
    · simp [World.cell?, g1]
    · simp [World.cell?, g1]
    · omega
  · intro j hj
    rcases j with _ | _ | j
    · simpa using h1.later hB
    · simpa using h3.later hB
    · omega
  · intro j hj
    rcases j with _ | _ | j
    · simpa using b1
    · simpa using b3
    · omega
  · intro j hj
    rcases j with _ | _ | j
    · simpa using z1
    · simpa using z3
    · omega
  · rintro e w' ⟨v, rfl, hb, hown⟩
    rw [hcat] at hown
    obtain ⟨x', c', rfl, hps, hfr, hlc, hcm⟩ := PS.of_own hown
    have hl : (q1 ++ q3).length = n1 + n3 := by simp [h1.len, h3.len]
    rw [hl] at hps hlc ⊢
    exact ⟨x', c', rfl, hB.trans (hb.mono (by omega)), hps, (fun q hq => by have := (hfr q hq).1; omega), hlc, hcm⟩

/-- What Put answers: the prefix stands ahead of the first one that begins behind it. -/
def PutPost (a l : Int) (n : Nat) (ps : List (Int × Int)) (w : World) (e : Ending) (w' : World) : Prop :=
  ∃ x' c', e = .returned (.slice x' (n + 1) c') ∧ Below w.heap.size w w' ∧ ∃ i, i ≤ n ∧ (∀ j, j < i → ¬ a < at0 ps j) ∧ (i < n → a < at0 ps i) ∧ PS w' x' (n + 1) (ps.take i ++ [(a, l)] ++ ps.drop i) ∧ (∀ q, x' = some q → w.heap.size ≤ q.block) ∧ n + 1 ≤ c' ∧ c' ≤ 9223372036854775807

set_option maxRecDepth 20000 in
set_option maxHeartbeats 1600000 in
theorem put_any (a l : Int) (x : Option Addr) (n c : Nat) (ps : List (Int × Int)) (bf k : Nat) (w : World) (hp : PS w x n ps) (hn : n ≤ 32) (hnc : n ≤ c) (hc63 : c ≤ 9223372036854775807) (hx : (x = none ∧ c = 0) ∨ (∃ q, x = some q ∧ c = 0) ∨ ∃ b o, x = some ⟨b, o, none⟩)
    (hby : w.cell? ⟨bf, 0, none⟩ = some (.func (.func 40) #[] #[])) :
    Calls Try.prog 39 #[.slice x n c, .agg #[.int .i64 a, .int .i64 l], .slice (some ⟨bf, 0, none⟩) 1 k] w (PutPost a l n ps w) := by
  have hB2 := bl2 w (.cells #[.int .i64 a, .int .i64 l] 23) (.cells #[.slice (some ⟨bf, 0, none⟩) 1 k] 70)
  go_enter Try.func39, Try.ntmps39
  go_wp2_with fail
  have hF : FnAt 56 #[.pointer (some ⟨w.heap.size, 0, none⟩), .pointer (some ⟨w.heap.size + 1, 0, none⟩)] n ps (fun i => decide (a < at0 ps i)) ((w.alloc (.cells #[.int .i64 a, .int .i64 l] 23)).alloc (.cells #[.slice (some ⟨bf, 0, none⟩) 1 k] 70)) := fun i hi W hW =>
    put1_any a l _ _ w.heap.size (w.heap.size + 1) bf k W (cell_later hW (by simp)) (cell_later hW (by simp)) (cell_later hW (by simp)) (cell_later hW (cell_later hB2 hby))
  refine (indexFunc_any _ _ x n c ps _ _ (hp.later hB2) (by omega) hF call_put1).mono ?_
  rintro e w1 ⟨⟨r, rfl, hr⟩, hb1⟩
  have hB := hB2.trans (hb1.mono (by simp; omega))
  have e0 : w1.cell? ⟨w.heap.size, 0, none⟩ = some (.int .i64 a) := (hb1.cell (p := ⟨w.heap.size, 0, none⟩) (by show w.heap.size < _; simp; omega)).trans (by simp)
  have e1 : w1.cell? ⟨w.heap.size, 1, none⟩ = some (.int .i64 l) := (hb1.cell (p := ⟨w.heap.size, 1, none⟩) (by show w.heap.size < _; simp; omega)).trans (by simp)
  have hi : ∃ i : Nat, i ≤ n ∧ (∀ j, j < i → ¬ a < at0 ps j) ∧ (i < n → a < at0 ps i) ∧ ((r = i ∧ ¬ r < 0) ∨ (r = -1 ∧ i = n)) := by
    rcases hr with ⟨i, hi, hf, hno, rfl⟩ | ⟨hno, rfl⟩
    · exact ⟨i, by omega, fun j hj => by have := hno j hj; simpa using this, fun _ => by simpa using hf, .inl ⟨rfl, by omega⟩⟩
    · exact ⟨n, by omega, fun j hj => by have := hno j hj; simpa using this, fun h => by omega, .inr ⟨rfl, rfl⟩⟩
  obtain ⟨i, hin, hlow, hup, hri⟩ := hi
  rcases hx with ⟨rfl, rfl⟩ | ⟨q0, rfl, rfl⟩ | ⟨b, o, rfl⟩
  · obtain rfl : n = 0 := by omega
    obtain rfl : i = 0 := by omega
    rcases hri with ⟨rfl, hneg⟩ | ⟨rfl, hi2⟩
    · go_wp2_with fail
      have hpw := hp.later hB
      go_region_held3 (fun w' => w'.cell? ⟨w.heap.size, 0, none⟩ = some (.int .i64 a) ∧ w'.cell? ⟨w.heap.size, 1, none⟩ = some (.int .i64 l)) (first | (go_keep; done) | (exact ⟨cell_later (bl1 _ _) (by assumption), cell_later (bl1 _ _) (by assumption)⟩) | (exact ⟨cell_later hb2 e0, cell_later hb2 e1⟩)) (first | (go_at_call 42; refine (concat3 none none 0 0 0 0 [] [] a l w1 ⟨rfl, fun i hi => by cases hi⟩ ⟨rfl, fun i hi => by cases hi⟩ (by omega) (by omega) (fun _ => ⟨rfl, rfl⟩) (fun _ => ⟨rfl, rfl⟩)).mono ?_; rintro e w2 ⟨x', c', rfl, hb2, hps, hfr, hlc, hcm⟩) | fail)
      all_goals go_wp2
      all_goals go_ret
      all_goals unfold PutPost
      all_goals exact ⟨x', c', rfl, hB.trans (hb2.mono hB.size), 0, by omega, fun j hj => by omega, fun h => by omega, by rw [List.eq_nil_of_length_eq_zero hp.len]; exact hps, (fun q hq => by have := hfr q hq; have := hB.size; omega), by omega, hcm⟩
    · go_wp2_with fail
      have hpw := hp.later hB
      go_region_held3 (fun w' => w'.cell? ⟨w.heap.size, 0, none⟩ = some (.int .i64 a) ∧ w'.cell? ⟨w.heap.size, 1, none⟩ = some (.int .i64 l)) (first | (go_keep; done) | (exact ⟨cell_later (bl1 _ _) (by assumption), cell_later (bl1 _ _) (by assumption)⟩) | (exact ⟨cell_later hb2 e0, cell_later hb2 e1⟩)) (first | (go_at_call 42; refine (concat3 none none 0 0 0 0 [] [] a l w1 ⟨rfl, fun i hi => by cases hi⟩ ⟨rfl, fun i hi => by cases hi⟩ (by omega) (by omega) (fun _ => ⟨rfl, rfl⟩) (fun _ => ⟨rfl, rfl⟩)).mono ?_; rintro e w2 ⟨x', c', rfl, hb2, hps, hfr, hlc, hcm⟩) | fail)
      all_goals go_wp2
      all_goals go_ret
      all_goals unfold PutPost
      all_goals exact ⟨x', c', rfl, hB.trans (hb2.mono hB.size), 0, by omega, fun j hj => by omega, fun h => by omega, by rw [List.eq_nil_of_length_eq_zero hp.len]; exact hps, (fun q hq => by have := hfr q hq; have := hB.size; omega), by omega, hcm⟩
  · obtain rfl : n = 0 := by omega
    obtain rfl : i = 0 := by omega
    rcases hri with ⟨rfl, hneg⟩ | ⟨rfl, hi2⟩
    · go_wp2_with fail
      have hpw := hp.later hB
      go_region_held3 (fun w' => w'.cell? ⟨w.heap.size, 0, none⟩ = some (.int .i64 a) ∧ w'.cell? ⟨w.heap.size, 1, none⟩ = some (.int .i64 l)) (first | (go_keep; done) | (exact ⟨cell_later (bl1 _ _) (by assumption), cell_later (bl1 _ _) (by assumption)⟩) | (exact ⟨cell_later hb2 e0, cell_later hb2 e1⟩)) (first | (go_at_call 42; refine (concat3 (some q0) (some q0) 0 0 0 0 [] [] a l w1 ⟨rfl, fun i hi => by cases hi⟩ ⟨rfl, fun i hi => by cases hi⟩ (by omega) (by omega) (fun _ => ⟨rfl, rfl⟩) (fun _ => ⟨rfl, rfl⟩)).mono ?_; rintro e w2 ⟨x', c', rfl, hb2, hps, hfr, hlc, hcm⟩) | fail)
      all_goals go_wp2
      all_goals go_ret
      all_goals unfold PutPost
      all_goals exact ⟨x', c', rfl, hB.trans (hb2.mono hB.size), 0, by omega, fun j hj => by omega, fun h => by omega, by rw [List.eq_nil_of_length_eq_zero hp.len]; exact hps, (fun q hq => by have := hfr q hq; have := hB.size; omega), by omega, hcm⟩
    · go_wp2_with fail
      have hpw := hp.later hB
      go_region_held3 (fun w' => w'.cell? ⟨w.heap.size, 0, none⟩ = some (.int .i64 a) ∧ w'.cell? ⟨w.heap.size, 1, none⟩ = some (.int .i64 l)) (first | (go_keep; done) | (exact ⟨cell_later (bl1 _ _) (by assumption), cell_later (bl1 _ _) (by assumption)⟩) | (exact ⟨cell_later hb2 e0, cell_later hb2 e1⟩)) (first | (go_at_call 42; refine (concat3 (some q0) (some q0) 0 0 0 0 [] [] a l w1 ⟨rfl, fun i hi => by cases hi⟩ ⟨rfl, fun i hi => by cases hi⟩ (by omega) (by omega) (fun _ => ⟨rfl, rfl⟩) (fun _ => ⟨rfl, rfl⟩)).mono ?_; rintro e w2 ⟨x', c', rfl, hb2, hps, hfr, hlc, hcm⟩) | fail)
      all_goals go_wp2
      all_goals go_ret
      all_goals unfold PutPost
      all_goals exact ⟨x', c', rfl, hB.trans (hb2.mono hB.size), 0, by omega, fun j hj => by omega, fun h => by omega, by rw [List.eq_nil_of_length_eq_zero hp.len]; exact hps, (fun q hq => by have := hfr q hq; have := hB.size; omega), by omega, hcm⟩
  · rcases hri with ⟨rfl, hneg⟩ | ⟨rfl, hi2⟩
    · go_wp2_with fail
      have hic : i ≤ c := by omega
      have hpw := hp.later hB
      go_region_held3 (fun w' => w'.cell? ⟨w.heap.size, 0, none⟩ = some (.int .i64 a) ∧ w'.cell? ⟨w.heap.size, 1, none⟩ = some (.int .i64 l)) (first | (go_keep; done) | (exact ⟨cell_later (bl1 _ _) (by assumption), cell_later (bl1 _ _) (by assumption)⟩) | (exact ⟨cell_later hb2 e0, cell_later hb2 e1⟩)) (first | (go_at_call 42; refine (concat3 (some ⟨b, o, none⟩) (if c = i then some ⟨b, o, none⟩ else some ⟨b, o + i * 2, none⟩) i c (n - i) (c - i) (ps.take i) (ps.drop i) a l w1 (hpw.take (by omega)) (hpw.drop (by omega) hnc) (by omega) (by omega) (fun h => by cases h) (fun h => by split at h <;> cases h)).mono ?_; rintro e w2 ⟨x', c', rfl, hb2, hps, hfr, hlc, hcm⟩) | fail)
      all_goals go_wp2
      all_goals go_ret
      all_goals unfold PutPost
      all_goals have hl : i + 1 + (n - i) = n + 1 := by omega
      all_goals rw [hl] at hps ⊢
      all_goals exact ⟨x', c', rfl, hB.trans (hb2.mono hB.size), i, by omega, fun j hj => by have := hlow j hj; omega, hup, hps, (fun q hq => by have := hfr q hq; have := hB.size; omega), by omega, hcm⟩
    · have hi3 := hi2.symm
      subst hi3
      clear hi2
      by_cases hcn : n = c
      · subst hcn
        go_wp2_with fail
        have hpw := hp.later hB
        go_region_held3 (fun w' => w'.cell? ⟨w.heap.size, 0, none⟩ = some (.int .i64 a) ∧ w'.cell? ⟨w.heap.size, 1, none⟩ = some (.int .i64 l)) (first | (go_keep; done) | (exact ⟨cell_later (bl1 _ _) (by assumption), cell_later (bl1 _ _) (by assumption)⟩) | (exact ⟨cell_later hb2 e0, cell_later hb2 e1⟩)) (first | (go_at_call 42; refine (concat3 (some ⟨b, o, none⟩) (some ⟨b, o, none⟩) n n 0 0 ps [] a l w1 hpw ⟨rfl, fun i hi => by cases hi⟩ (by omega) (by omega) (fun h => by cases h) (fun h => by cases h)).mono ?_; rintro e w2 ⟨x', c', rfl, hb2, hps, hfr, hlc, hcm⟩) | fail)
        all_goals go_wp2
        all_goals go_ret
        all_goals unfold PutPost
        all_goals exact ⟨x', c', rfl, hB.trans (hb2.mono hB.size), n, by omega, fun j hj => by have := hlow j hj; omega, fun h => by omega, by rw [List.take_of_length_le (by rw [hp.len]; omega), List.drop_eq_nil_of_le (by rw [hp.len]; omega)]; exact hps, (fun q hq => by have := hfr q hq; have := hB.size; omega), by omega, hcm⟩
      · have hcn' : ¬ c = n := fun h => hcn h.symm
        go_wp2_with fail
        have hpw := hp.later hB
        go_region_held3 (fun w' => w'.cell? ⟨w.heap.size, 0, none⟩ = some (.int .i64 a) ∧ w'.cell? ⟨w.heap.size, 1, none⟩ = some (.int .i64 l)) (first | (go_keep; done) | (exact ⟨cell_later (bl1 _ _) (by assumption), cell_later (bl1 _ _) (by assumption)⟩) | (exact ⟨cell_later hb2 e0, cell_later hb2 e1⟩)) (first | (go_at_call 42; refine (concat3 (some ⟨b, o, none⟩) (some ⟨b, o + n * 2, none⟩) n c 0 (c - n) ps [] a l w1 hpw ⟨rfl, fun i hi => by cases hi⟩ (by omega) (by omega) (fun h => by cases h) (fun h => by cases h)).mono ?_; rintro e w2 ⟨x', c', rfl, hb2, hps, hfr, hlc, hcm⟩) | fail)
        all_goals go_wp2
        all_goals go_ret
        all_goals unfold PutPost
        all_goals exact ⟨x', c', rfl, hB.trans (hb2.mono hB.size), n, by omega, fun j hj => by have := hlow j hj; omega, fun h => by omega, by rw [List.take_of_length_le (by rw [hp.len]; omega), List.drop_eq_nil_of_le (by rw [hp.len]; omega)]; exact hps, (fun q hq => by have := hfr q hq; have := hB.size; omega), by omega, hcm⟩
end Go.Proofs.Ytbnkgecblaffeaa
