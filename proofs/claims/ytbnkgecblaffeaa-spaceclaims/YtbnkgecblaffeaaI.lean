/- What Holes and Fit of package space come to. -/
import Derived.Test.YtbnkgecblaffeaaG
namespace Go.Proofs.Ytbnkgecblaffeaa
open Go.RowKit Go.Shelf

theorem chkS_ok {a l : Int} {n : Nat} {ps : List (Int × Int)} (h : chkS a l n ps = 0) : n ≤ 32 ∧ rt a l = true ∧ apartB a l ps = true := by
  unfold chkS at h
  by_cases h1 : 32 < n
  · rw [if_pos h1] at h; cases h
  · rw [if_neg h1] at h
    cases h2 : rt a l <;> cases h3 : apartB a l ps <;> simp [h2, h3] at h
    exact ⟨by omega, rfl, rfl⟩

/-- The holes of a right space; none of another one. -/
def holS (a l : Int) (n : Nat) (ps : List (Int × Int)) : List (Int × Int) := if chkS a l n ps = 0 then hol ps (16 - l).toNat a l else []

theorem two_boxes (w : World) (a l : Int) (x : Option Addr) (n c : Nat) : ∃ V, V = (w.alloc (.cells #[.int .i64 a, .int .i64 l] 23)).alloc (.cells #[.slice x n c] 24) ∧ Below w.heap.size w V ∧
    V.cell? ⟨w.heap.size, 0, none⟩ = some (.int .i64 a) ∧ V.cell? ⟨w.heap.size, 1, none⟩ = some (.int .i64 l) ∧ V.heap[w.heap.size + 1]? = some (.cells #[.slice x n c] 24) := by
  refine ⟨_, rfl, bl2 w _ _, ?_, ?_, heap_new _ (by simp)⟩
  · exact cell_later (bl1 _ _) (by simp)
  · exact cell_later (bl1 _ _) (by simp)

set_option maxRecDepth 20000 in
set_option maxHeartbeats 800000 in
theorem holes_any (a l : Int) (x : Option Addr) (n c : Nat) (ps : List (Int × Int)) (w : World) (hp : n ≤ 32 → PS w x n ps) :
    Calls Try.prog 8 #[.agg #[.int .i64 a, .int .i64 l, .slice x n c]] w fun e w' =>
      ∃ x' c', e = .returned (.tuple #[.slice x' (holS a l n ps).length c', .int .i64 (chkS a l n ps)]) ∧ Below w.heap.size w w' ∧ PS w' x' (holS a l n ps).length (holS a l n ps) := by
  have hck := checkS_any a l x n c ps
  by_cases hv : chkS a l n ps = 0
  · obtain ⟨hn, hr, -⟩ := chkS_ok hv
    have hp' := hp hn
    unfold holS
    rw [if_pos hv]
    rw [hv] at hck ⊢
    go_enter Try.func8, Try.ntmps8
    go_wp2_with fail
    refine (hck _ (fun _ => hp'.later (bl1 w _))).mono ?_
    rintro e w1 ⟨rfl, hb1⟩
    have hB := (bl1 w _).trans (hb1.mono (by simp))
    have e0 : w1.cell? ⟨w.heap.size, 0, none⟩ = some (.int .i64 a) := (hb1.cell (p := ⟨w.heap.size, 0, none⟩) (by simp)).trans (by simp)
    have e1 : w1.cell? ⟨w.heap.size, 1, none⟩ = some (.int .i64 l) := (hb1.cell (p := ⟨w.heap.size, 1, none⟩) (by simp)).trans (by simp)
    have e2 : w1.cell? ⟨w.heap.size, 2, none⟩ = some (.slice x n c) := (hb1.cell (p := ⟨w.heap.size, 2, none⟩) (by simp)).trans (by simp)
    clear hb1
    go_wp2_with fail
    refine (callsIn_wide.1 (holes_is a l x n c 0 _)).mono ?_
    rintro e w2 ⟨rfl, hw2⟩
    obtain ⟨V, hV, hb2, c0, c1, u1⟩ := two_boxes w1 a l x n c
    rw [← hV] at hw2
    subst hw2
    clear hV
    go_wp2_with fail
    refine (collect_any a l x n c ps hr (by omega) w1.heap.size (w1.heap.size + 1) w2 c0 c1 u1 ((hp'.later hB).later hb2)).mono ?_
    rintro e w3 ⟨x', c', rfl, hb3, hps⟩
    go_wp2
    refine bodyPost_ret (v := .tuple #[.slice x' (hol ps (16 - l).toNat a l).length c', .int .i64 0]) (by simp [results, Try.results8, go_sem]) rfl ?_
    exact ⟨x', c', rfl, (hB.trans (hb2.mono hB.size)).trans (hb3.mono (Nat.le_trans hB.size hb2.size)), hps⟩
  · unfold holS
    rw [if_neg hv]
    have hb : (chkS a l n ps != 0) = true := by simpa using hv
    generalize chkS a l n ps = v at hck hb hv ⊢
    go_enter Try.func8, Try.ntmps8
    go_wp2_with (go_at_call 13; refine (hck _ (fun h => (hp h).later (bl1 w _))).mono ?_; rintro e w1 ⟨rfl, hb1⟩)
    refine bodyPost_ret (v := .tuple #[.slice none 0 0, .int .i64 v]) (by simp [results, Try.results8, go_sem]) rfl ?_
    exact ⟨none, 0, rfl, (bl1 w _).trans (hb1.mono (by simp)), ⟨rfl, fun i hi => by cases hi⟩⟩

theorem below_set2 {w V : World} (h : Below w.heap.size w V) {b : Nat} (hb : w.heap.size ≤ b) (p q : Value) : Below w.heap.size w ((V.setCell ⟨b, 0, none⟩ p).setCell ⟨b, 1, none⟩ q) :=
  (h.setCell (p := ⟨b, 0, none⟩) hb p).setCell (p := ⟨b, 1, none⟩) hb q
theorem fit_boxes {w w1 : World} {a l z : Int} {x : Option Addr} {n c : Nat}
    (hb1 : Below (((w.alloc (.cells #[.int .i64 a, .int .i64 l, .slice x n c] 26)).alloc (.cells #[.int .i64 z] 3)).alloc (.cells #[.int .i64 0, .int .i64 0] 23)).heap.size (((w.alloc (.cells #[.int .i64 a, .int .i64 l, .slice x n c] 26)).alloc (.cells #[.int .i64 z] 3)).alloc (.cells #[.int .i64 0, .int .i64 0] 23)) w1) :
    w1.cell? ⟨w.heap.size, 0, none⟩ = some (.int .i64 a) ∧ w1.cell? ⟨w.heap.size, 1, none⟩ = some (.int .i64 l) ∧ w1.cell? ⟨w.heap.size, 2, none⟩ = some (.slice x n c) ∧ w1.cell? ⟨w.heap.size + 1, 0, none⟩ = some (.int .i64 z) ∧ w1.heap[w.heap.size + 1 + 1]? = some (.cells #[.int .i64 0, .int .i64 0] 23) ∧ w.heap.size + 3 ≤ w1.heap.size := by
  have h0 : (((w.alloc (.cells #[.int .i64 a, .int .i64 l, .slice x n c] 26)).alloc (.cells #[.int .i64 z] 3)).alloc (.cells #[.int .i64 0, .int .i64 0] 23)).heap[w.heap.size]? = some (.cells #[.int .i64 a, .int .i64 l, .slice x n c] 26) := heap_old _ (heap_old _ (heap_new _ rfl))
  have h1 : (((w.alloc (.cells #[.int .i64 a, .int .i64 l, .slice x n c] 26)).alloc (.cells #[.int .i64 z] 3)).alloc (.cells #[.int .i64 0, .int .i64 0] 23)).heap[w.heap.size + 1]? = some (.cells #[.int .i64 z] 3) := heap_old _ (heap_new _ (by simp))
  have h2 : (((w.alloc (.cells #[.int .i64 a, .int .i64 l, .slice x n c] 26)).alloc (.cells #[.int .i64 z] 3)).alloc (.cells #[.int .i64 0, .int .i64 0] 23)).heap[w.heap.size + 1 + 1]? = some (.cells #[.int .i64 0, .int .i64 0] 23) := heap_new _ (by simp)
  have g0 := (hb1.block _ (Array.getElem?_eq_some_iff.1 h0).1).trans h0
  have g1 := (hb1.block _ (Array.getElem?_eq_some_iff.1 h1).1).trans h1
  have g2 := (hb1.block _ (Array.getElem?_eq_some_iff.1 h2).1).trans h2
  have hs := hb1.size
  simp only [World.size_alloc] at hs
  refine ⟨by simp [World.cell?, g0], by simp [World.cell?, g0], by simp [World.cell?, g0], by simp [World.cell?, g1], g2, by omega⟩

def fitE (a l : Int) (n : Nat) (ps : List (Int × Int)) (z : Int) : Int := if chkS a l n ps = 0 then (if z < l ∨ 16 < z then 3 else 0) else chkS a l n ps
def fitV (z : Int) : Option Int → Int → Value
  | some x, _ => .tuple #[.agg #[.int .i64 x, .int .i64 z], .bool true, .int .i64 0]
  | none, e => .tuple #[.agg #[.int .i64 0, .int .i64 0], .bool false, .int .i64 e]
/-- What fits in a right space: where the first hole begins that is great enough. -/
def fitS (a l : Int) (n : Nat) (ps : List (Int × Int)) (z : Int) : Option Int := if fitE a l n ps z = 0 then ((hol ps (16 - l).toNat a l).find? fun h => decide (h.2 ≤ z)).map (·.1) else none

set_option maxRecDepth 20000 in
set_option maxHeartbeats 800000 in
theorem fit_any (a l : Int) (x : Option Addr) (n c : Nat) (ps : List (Int × Int)) (z : Int) (w : World) (hp : n ≤ 32 → PS w x n ps) :
    Calls Try.prog 7 #[.agg #[.int .i64 a, .int .i64 l, .slice x n c], .int .i64 z] w fun e w' =>
      e = .returned (fitV z (fitS a l n ps z) (fitE a l n ps z)) ∧ Below w.heap.size w w' := by
  have hck := checkS_any a l x n c ps
  have hb3 : ∀ (w : World) (o p q : Obj), Below w.heap.size w (((w.alloc o).alloc p).alloc q) := fun w o p q => (bl2 w o p).alloc (by simp; omega) q
  by_cases hv : chkS a l n ps = 0
  · obtain ⟨hn, hr, -⟩ := chkS_ok hv
    have hp' := hp hn
    rw [hv] at hck
    by_cases hz1 : z < l
    · have hE : fitE a l n ps z = 3 := by unfold fitE; rw [if_pos hv, if_pos (.inl hz1)]
      have hS : fitS a l n ps z = none := by unfold fitS; rw [hE]; rfl
      rw [hE, hS]
      go_enter Try.func7, Try.ntmps7
      go_wp2_with fail
      refine (hck _ (fun h => (hp h).later (hb3 w _ _ _))).mono ?_
      rintro e w1 ⟨rfl, hb1⟩
      have hB := (hb3 w (.cells #[.int .i64 a, .int .i64 l, .slice x n c] 26) (.cells #[.int .i64 z] 3) (.cells #[.int .i64 0, .int .i64 0] 23)).trans (hb1.mono (by simp; omega))
      obtain ⟨e0, e1, e2, ez, er, hsz⟩ := fit_boxes hb1
      obtain ⟨f0, f1, z0, z1⟩ := box2 er
      go_wp2
      refine bodyPost_ret (v := .tuple #[.agg #[.int .i64 0, .int .i64 0], .bool false, .int .i64 3]) (by simp [results, Try.results7, go_sem, f0, f1]) rfl ⟨rfl, ?_⟩
      exact below_set2 hB (by omega) _ _
    · by_cases hz2 : 16 < z
      · have hE : fitE a l n ps z = 3 := by unfold fitE; rw [if_pos hv, if_pos (.inr hz2)]
        have hS : fitS a l n ps z = none := by unfold fitS; rw [hE]; rfl
        rw [hE, hS]
        go_enter Try.func7, Try.ntmps7
        go_wp2_with fail
        refine (hck _ (fun h => (hp h).later (hb3 w _ _ _))).mono ?_
        rintro e w1 ⟨rfl, hb1⟩
        have hB := (hb3 w (.cells #[.int .i64 a, .int .i64 l, .slice x n c] 26) (.cells #[.int .i64 z] 3) (.cells #[.int .i64 0, .int .i64 0] 23)).trans (hb1.mono (by simp; omega))
        obtain ⟨e0, e1, e2, ez, er, hsz⟩ := fit_boxes hb1
        obtain ⟨f0, f1, z0, z1⟩ := box2 er
        go_wp2
        refine bodyPost_ret (v := .tuple #[.agg #[.int .i64 0, .int .i64 0], .bool false, .int .i64 3]) (by simp [results, Try.results7, go_sem, f0, f1]) rfl ⟨rfl, ?_⟩
        exact below_set2 hB (by omega) _ _
      · have hE : fitE a l n ps z = 0 := by unfold fitE; rw [if_pos hv, if_neg (by omega)]
        have hS : fitS a l n ps z = ((hol ps (16 - l).toNat a l).find? fun h => decide (h.2 ≤ z)).map (·.1) := by unfold fitS; rw [hE]; rfl
        rw [hE, hS]
        go_enter Try.func7, Try.ntmps7
        go_wp2_with fail
        refine (hck _ (fun h => (hp h).later (hb3 w _ _ _))).mono ?_
        rintro e w1 ⟨rfl, hb1⟩
        have hB := (hb3 w (.cells #[.int .i64 a, .int .i64 l, .slice x n c] 26) (.cells #[.int .i64 z] 3) (.cells #[.int .i64 0, .int .i64 0] 23)).trans (hb1.mono (by simp; omega))
        obtain ⟨e0, e1, e2, ez, er, hsz⟩ := fit_boxes hb1
        obtain ⟨f0, f1, z0, z1⟩ := box2 er
        go_wp2_with fail
        have hfi := callsIn_wide.1 (first_any a l z x n c ps hr (by omega) (w.heap.size + 1) 0 w1 (hp'.later hB) ez)
        unfold wantF at hfi
        refine hfi.mono ?_
        rintro e w2 ⟨rfl, hb2⟩
        have hC := hB.trans (hb2.mono hB.size)
        have er2 := (hb2.block _ (Array.getElem?_eq_some_iff.1 er).1).trans er
        have ez2 := cell_later hb2 ez
        have hsz2 := hb2.size
        clear e0 e1 e2 ez f0 f1 z0 z1 hb1
        cases hfind : (hol ps (16 - l).toNat a l).find? fun h => decide (h.2 ≤ z)
        · simp only [firstV]
          have er3 : ∀ o, (w2.alloc o).heap[w.heap.size + 1 + 1]? = some (.cells #[.int .i64 0, .int .i64 0] 23) := fun o => heap_old o er2
          have f0 : ∀ o, (w2.alloc o).cell? ⟨w.heap.size + 1 + 1, 0, none⟩ = some (.int .i64 0) := fun o => (box2 (er3 o)).1
          have f1 : ∀ o, (w2.alloc o).cell? ⟨w.heap.size + 1 + 1, 1, none⟩ = some (.int .i64 0) := fun o => (box2 (er3 o)).2.1
          have z0 : ∀ o, (w2.alloc o).frozen? ⟨w.heap.size + 1 + 1, 0, none⟩ = false := fun o => (box2 (er3 o)).2.2.1
          have z1 : ∀ o, (w2.alloc o).frozen? ⟨w.heap.size + 1 + 1, 1, none⟩ = false := fun o => (box2 (er3 o)).2.2.2
          go_wp2
          refine bodyPost_ret (v := .tuple #[.agg #[.int .i64 0, .int .i64 0], .bool false, .int .i64 0]) (by simp [results, Try.results7, go_sem, f0, f1]) rfl ⟨by rw [hfind]; rfl, ?_⟩
          exact below_set2 (hC.trans ((bl1 w2 _).mono hC.size)) (by omega) _ _
        · rename_i h
          simp only [firstV]
          have er3 : ∀ o, (w2.alloc o).heap[w.heap.size + 1 + 1]? = some (.cells #[.int .i64 0, .int .i64 0] 23) := fun o => heap_old o er2
          have f0 : ∀ o, (w2.alloc o).cell? ⟨w.heap.size + 1 + 1, 0, none⟩ = some (.int .i64 0) := fun o => (box2 (er3 o)).1
          have f1 : ∀ o, (w2.alloc o).cell? ⟨w.heap.size + 1 + 1, 1, none⟩ = some (.int .i64 0) := fun o => (box2 (er3 o)).2.1
          have z0 : ∀ o, (w2.alloc o).frozen? ⟨w.heap.size + 1 + 1, 0, none⟩ = false := fun o => (box2 (er3 o)).2.2.1
          have z1 : ∀ o, (w2.alloc o).frozen? ⟨w.heap.size + 1 + 1, 1, none⟩ = false := fun o => (box2 (er3 o)).2.2.2
          have ez3 : ∀ o, (w2.alloc o).cell? ⟨w.heap.size + 1, 0, none⟩ = some (.int .i64 z) := fun o => cell_later (bl1 w2 o) ez2
          go_wp2
          refine bodyPost_ret (v := .tuple #[.agg #[.int .i64 h.1, .int .i64 z], .bool true, .int .i64 0]) (by simp [results, Try.results7, go_sem, f0, f1]) rfl ⟨by rw [hfind]; rfl, ?_⟩
          exact below_set2 (hC.trans ((bl1 w2 _).mono hC.size)) (by omega) _ _
  · have hE : fitE a l n ps z = chkS a l n ps := by unfold fitE; rw [if_neg hv]
    have hS : fitS a l n ps z = none := by unfold fitS; rw [hE, if_neg hv]
    rw [hE, hS]
    have hb : (chkS a l n ps != 0) = true := by simpa using hv
    have hb' : (chkS a l n ps == 0) = false := by simpa using hv
    clear hE hS
    generalize chkS a l n ps = v at hck hb hb' hv ⊢
    go_enter Try.func7, Try.ntmps7
    go_wp2_with fail
    refine (hck _ (fun h => (hp h).later (hb3 w _ _ _))).mono ?_
    rintro e w1 ⟨rfl, hb1⟩
    have hB := (hb3 w (.cells #[.int .i64 a, .int .i64 l, .slice x n c] 26) (.cells #[.int .i64 z] 3) (.cells #[.int .i64 0, .int .i64 0] 23)).trans (hb1.mono (by simp; omega))
    obtain ⟨e0, e1, e2, ez, er, hsz⟩ := fit_boxes hb1
    obtain ⟨f0, f1, z0, z1⟩ := box2 er
    go_wp2
    refine bodyPost_ret (v := .tuple #[.agg #[.int .i64 0, .int .i64 0], .bool false, .int .i64 v]) (by simp [results, Try.results7, go_sem, f0, f1]) rfl ⟨rfl, ?_⟩
    exact below_set2 hB (by omega) _ _
end Go.Proofs.Ytbnkgecblaffeaa
