/- A part of the proof. -/
import Derived.Test.YtndpilfpejfloaaGreatMS01
set_option maxRecDepth 100000
set_option maxHeartbeats 3200000
namespace Go.Proofs.YtndpilfpejfloaaGreat
variable {w V w1 V' w' : World} {base n c b p k i rn rc sn sc g f ty st y j : Nat} {v z v' : Value} {H qs o : List (Int × Int)} {a : Act} {l : List Oper} {x rx sx : Option Addr} {t : TypeId} {r : Option Nat} {m mn mx us co : Int} {ns : List Int} {P : Program} {ops : Array Oper} {C S : World → Prop} {listed : Array Bool} {Q : Exit → Act → World → Prop} {T : Nat → Bool} {oi : Oper} {ca : Array Value} {fr : Nat × Nat}
open Go.RowKit
theorem apart_is (a l : Int) (x : Option Addr) (n c : Nat) (ps : List (Int × Int)) (t : Bool) (h : eN a l ps = t) (w : World) (hp : PS w x n ps) (hn : n ≤ 32) :
  Calls Tryz.prog 122 #[.agg #[.int .i64 a, .int .i64 l, .slice x n c]] w fun e w' => e = .returned (.bool t) ∧ Below w.heap.size w w' := by
 subst h
 exact JN a l x n c ps w hp hn
theorem DG (a l : Int) (x : Option Addr) (n c : Nat) (w : World) (hn : 32 < n) :
  Calls Tryz.prog 72 #[.agg #[.int .i64 a, .int .i64 l, .slice x n c]] w fun e w' => e = .returned (.int .i64 2) ∧ Below w.heap.size w w' := by
 have hi : (32 : Int) < (n : Int) := by omega
 go_enter Tryz.func72, Tryz.ntmps72
 go_wp2
 go_ret
 exact ⟨rfl, bl1 _ _⟩
theorem F8 (a l : Int) (x : Option Addr) (n c : Nat) (ps : List (Int × Int)) (w : World) (hp : PS w x n ps) (hn : n ≤ 32) :
  Calls Tryz.prog 72 #[.agg #[.int .i64 a, .int .i64 l, .slice x n c]] w fun e w' => e = .returned (.int .i64 (if rt a l && eN a l ps then 0 else 1)) ∧ Below w.heap.size w w' := by
 have hi : ¬ (32 : Int) < (n : Int) := by omega
 cases hr : rt a l
 ·have hne : (chk a l != 0) = true := lJ hr
  go_enter Tryz.func72, Tryz.ntmps72
  go_wp2_with (go_at_call 35; refine (check_any a l _).mono ?_; rintro e w1 ⟨rfl, hb1⟩)
  go_ret
  exact ⟨rfl, (bl1 w _).trans (hb1.mono (by simp))⟩
 ·have hne : (chk a l != 0) = false := lJ hr
  cases hA : eN a l ps
  all_goals go_enter Tryz.func72, Tryz.ntmps72
  all_goals go_wp2_with fail
  all_goals refine (check_any a l _).mono ?_
  all_goals rintro e w1 ⟨rfl, hb1⟩
  all_goals have hB := (bl1 w _).trans (hb1.mono (by simp))
  all_goals have e0 : w1.cell? ⟨w.heap.size, 0, none⟩ = some (.int .i64 a) := (hb1.cell (p := ⟨w.heap.size, 0, none⟩) (by simp)).trans (by simp)
  all_goals have e1 : w1.cell? ⟨w.heap.size, 1, none⟩ = some (.int .i64 l) := (hb1.cell (p := ⟨w.heap.size, 1, none⟩) (by simp)).trans (by simp)
  all_goals have e2 : w1.cell? ⟨w.heap.size, 2, none⟩ = some (.slice x n c) := (hb1.cell (p := ⟨w.heap.size, 2, none⟩) (by simp)).trans (by simp)
  all_goals go_wp2_with (go_at_call 122; refine (apart_is a l x n c ps _ hA _ (hp.later hB) hn).mono ?_; rintro e w2 ⟨rfl, hb2⟩)
  all_goals go_ret
  all_goals exact ⟨rfl, hB.trans (hb2.mono hB.size)⟩
theorem xD (a l : Int) (x : Option Addr) (n c : Nat) (ps : List (Int × Int)) (w : World) (hp : n ≤ 32 → PS w x n ps) :
  Calls Tryz.prog 72 #[.agg #[.int .i64 a, .int .i64 l, .slice x n c]] w fun e w' => e = .returned (.int .i64 (kN a l n ps)) ∧ Below w.heap.size w w' := by
 unfold kN
 by_cases h : 32 < n
 ·rw [if_pos h]
  exact DG a l x n c w h
 ·rw [if_neg h]
  exact F8 a l x n c ps w (hp (by omega)) (by omega)
open Go.RowKit Go.Shelf
attribute [local go_sem] Oper.semAt_some
def vW (H : List (Int × Int)) : List Value := H.flatMap fun h => [.int .i64 h.1, .int .i64 h.2]
theorem DH (H G : List (Int × Int)) : vW (H ++ G) = vW H ++ vW G := by simp [vW]
theorem DI (H : List (Int × Int)) (i : Nat) (hi : i < H.length) : (vW H)[i * 2]? = some (.int .i64 (dA H i)) ∧ (vW H)[i * 2 + 1]? = some (.int .i64 (eA H i)) := by
 induction H generalizing i with
 | nil => cases hi
 | cons h t ih =>
  have e : vW (h :: t) = .int .i64 h.1 :: .int .i64 h.2 :: vW t := by simp [vW]
  rw [e]
  cases i with
  | zero => exact ⟨rfl, rfl⟩
  | succ i =>
   have := ih i (by simpa using hi)
   have e1 : (i + 1) * 2 = i * 2 + 1 + 1 := by omega
   rw [e1]
   simpa [dA, eA] using this
theorem P9 {β : Type} {B base : Nat} {e : TypeId} {size : Nat} {v : Value} {n : Nat} {xs : List Value} : OwnFrom B (fun (_ : β) W => W.ownsRow base e size v n xs) :=
 fun _ X Y row hs hg hr => ⟨hs.1, hs.2.imp id (fun ⟨g, cap, cur, h1, h2, h3, h4⟩ => ⟨g, cap, cur, h1, h2, (hg.block g (Array.getElem?_eq_some_iff.1 h3).1 (fun e => by
  obtain ⟨o, ho, hc⟩ := (hr g e.symm).2
  rw [h3] at ho
  cases ho
  cases hc)).trans h3, h4⟩)⟩
theorem PS.of_own (h : w.ownsRow base 49 2 v H.length (vW H)) : ∃ x c, v = .slice x H.length c ∧ PS w x H.length H ∧ (∀ q, x = some q → base ≤ q.block ∧ q.block < w.heap.size) ∧ H.length ≤ c ∧ c ≤ 9223372036854775807 := by
 rcases h.2 with ⟨rfl, h0⟩ | ⟨g, cap, cur, rfl, hb, hg, hn, hc, hs, ht⟩
 ·refine ⟨none, 0, by rw [h0], ⟨rfl, fun i hi => ?_⟩, (fun q hq => by cases hq), by omega, by omega⟩
  omega
 ·refine ⟨some ⟨g, 0, none⟩, cap, rfl, ⟨rfl, fun i hi => ⟨g, 0, rfl, ?_, ?_⟩⟩, fun q hq => by cases hq; exact ⟨hb, (Array.getElem?_eq_some_iff.1 hg).1⟩, hn, by unfold maxLen at hc; omega⟩
  ·have h1 := (DI H i hi).1
   rw [← ht, List.getElem?_take_of_lt (by omega)] at h1
   simp only [World.cell?, hg, Nat.zero_add]
   rw [← h1]
   simp
  ·have h1 := (DI H i hi).2
   rw [← ht, List.getElem?_take_of_lt (by omega)] at h1
   simp only [World.cell?, hg, Nat.zero_add]
   rw [← h1]
   simp
theorem DJ : (Tryz.prog.info? 49).map (fun i => (i.zero, i.size, i.bytes)) = some (some (.agg #[.int .i64 0, .int .i64 0]), 2, 16) := by kernel_rfl
theorem BT : ∃ i, Tryz.prog.info? 49 = some i ∧ i.zero = some (.agg #[.int .i64 0, .int .i64 0]) ∧ i.size = 2 ∧ i.bytes = 16 := by
 obtain ⟨i, hi, h⟩ := Option.map_eq_some_iff.1 DJ
 simp only [Prod.mk.injEq] at h
 exact ⟨i, hi, h.1, h.2.1, h.2.2⟩
theorem xE : Tryz.prog.underlying 94 = some (.slice 49) := by kernel_rfl
theorem iC {a l : Int} {ps : List (Int × Int)} (h : kN a l n ps = 0) : n ≤ 32 ∧ rt a l = true ∧ eN a l ps = true := by
 unfold kN at h
 by_cases h1 : 32 < n
 ·rw [if_pos h1] at h; cases h
 ·rw [if_neg h1] at h
  cases h2 : rt a l <;> cases h3 : eN a l ps <;> simp [h2, h3] at h
  exact ⟨by omega, rfl, rfl⟩
theorem jT (h : Below w.heap.size w V) {b : Nat} (hb : w.heap.size ≤ b) (p q : Value) : Below w.heap.size w ((V.setCell ⟨b, 0, none⟩ p).setCell ⟨b, 1, none⟩ q) :=
 (h.setCell (p := ⟨b, 0, none⟩) hb p).setCell (p := ⟨b, 1, none⟩) hb q
theorem oX {a l z : Int}
  (hb1 : Below (((w.alloc (.cells #[.int .i64 a, .int .i64 l, .slice x n c] 134)).alloc (.cells #[.int .i64 z] 3)).alloc (.cells #[.int .i64 0, .int .i64 0] 49)).heap.size (((w.alloc (.cells #[.int .i64 a, .int .i64 l, .slice x n c] 134)).alloc (.cells #[.int .i64 z] 3)).alloc (.cells #[.int .i64 0, .int .i64 0] 49)) w1) :
  w1.cell? ⟨w.heap.size, 0, none⟩ = some (.int .i64 a) ∧ w1.cell? ⟨w.heap.size, 1, none⟩ = some (.int .i64 l) ∧ w1.cell? ⟨w.heap.size, 2, none⟩ = some (.slice x n c) ∧ w1.cell? ⟨w.heap.size + 1, 0, none⟩ = some (.int .i64 z) ∧ w1.heap[w.heap.size + 1 + 1]? = some (.cells #[.int .i64 0, .int .i64 0] 49) ∧ w.heap.size + 3 ≤ w1.heap.size := by
 have h0 : (((w.alloc (.cells #[.int .i64 a, .int .i64 l, .slice x n c] 134)).alloc (.cells #[.int .i64 z] 3)).alloc (.cells #[.int .i64 0, .int .i64 0] 49)).heap[w.heap.size]? = some (.cells #[.int .i64 a, .int .i64 l, .slice x n c] 134) := aF _ (aF _ (aC _ rfl))
 have h1 : (((w.alloc (.cells #[.int .i64 a, .int .i64 l, .slice x n c] 134)).alloc (.cells #[.int .i64 z] 3)).alloc (.cells #[.int .i64 0, .int .i64 0] 49)).heap[w.heap.size + 1]? = some (.cells #[.int .i64 z] 3) := aF _ (aC _ (by simp))
 have h2 : (((w.alloc (.cells #[.int .i64 a, .int .i64 l, .slice x n c] 134)).alloc (.cells #[.int .i64 z] 3)).alloc (.cells #[.int .i64 0, .int .i64 0] 49)).heap[w.heap.size + 1 + 1]? = some (.cells #[.int .i64 0, .int .i64 0] 49) := aC _ (by simp)
 have g0 := (hb1.block _ (Array.getElem?_eq_some_iff.1 h0).1).trans h0
 have g1 := (hb1.block _ (Array.getElem?_eq_some_iff.1 h1).1).trans h1
 have g2 := (hb1.block _ (Array.getElem?_eq_some_iff.1 h2).1).trans h2
 have hs := hb1.size
 simp only [World.size_alloc] at hs
 refine ⟨by simp [World.cell?, g0], by simp [World.cell?, g0], by simp [World.cell?, g0], by simp [World.cell?, g1], g2, by omega⟩
def tN (a l : Int) (n : Nat) (ps : List (Int × Int)) (z : Int) : Int := if kN a l n ps = 0 then (if z < l ∨ 16 < z then 3 else 0) else kN a l n ps
def SF (z : Int) : Option Int → Int → Value
 | some x, _ => .tuple #[.agg #[.int .i64 x, .int .i64 z], .bool true, .int .i64 0]
 | none, e => .tuple #[.agg #[.int .i64 0, .int .i64 0], .bool false, .int .i64 e]
def tO (a l : Int) (n : Nat) (ps : List (Int × Int)) (z : Int) : Option Int := if tN a l n ps z = 0 then ((hol ps (16 - l).toNat a l).find? fun h => decide (h.2 ≤ z)).map (·.1) else none
theorem QA (a l : Int) (x : Option Addr) (n c : Nat) (ps : List (Int × Int)) (z : Int) (w : World) (hp : n ≤ 32 → PS w x n ps) :
  Calls Tryz.prog 173 #[.agg #[.int .i64 a, .int .i64 l, .slice x n c], .int .i64 z] w fun e w' =>
   e = .returned (SF z (tO a l n ps z) (tN a l n ps z)) ∧ Below w.heap.size w w' := by
 have hck := xD a l x n c ps
 have hb3 : ∀ (w : World) (o p q : Obj), Below w.heap.size w (((w.alloc o).alloc p).alloc q) := fun w o p q => (cB w o p).alloc (by simp; omega) q
 by_cases hv : kN a l n ps = 0
 ·obtain ⟨hn, hr, -⟩ := iC hv
  have hp' := hp hn
  rw [hv] at hck
  by_cases hz1 : z < l
  ·have hE : tN a l n ps z = 3 := by unfold tN; rw [if_pos hv, if_pos (.inl hz1)]
   have hS : tO a l n ps z = none := by unfold tO; rw [hE]; rfl
   rw [hE, hS]
   go_enter Tryz.func173, Tryz.ntmps173
   go_wp2_with fail
   refine (hck _ (fun h => (hp h).later (hb3 w _ _ _))).mono ?_
   rintro e w1 ⟨rfl, hb1⟩
   have hB := (hb3 w (.cells #[.int .i64 a, .int .i64 l, .slice x n c] 134) (.cells #[.int .i64 z] 3) (.cells #[.int .i64 0, .int .i64 0] 49)).trans (hb1.mono (by simp; omega))
   obtain ⟨e0, e1, e2, ez, er, hsz⟩ := oX hb1
   obtain ⟨f0, f1, z0, z1⟩ := nO er
   go_wp2
   refine bodyPost_ret (v := .tuple #[.agg #[.int .i64 0, .int .i64 0], .bool false, .int .i64 3]) (by simp [results, Tryz.results173, go_sem, f0, f1]) rfl ⟨rfl, ?_⟩
   exact jT hB (by omega) _ _
  ·by_cases hz2 : 16 < z
   ·have hE : tN a l n ps z = 3 := by unfold tN; rw [if_pos hv, if_pos (.inr hz2)]
    have hS : tO a l n ps z = none := by unfold tO; rw [hE]; rfl
    rw [hE, hS]
    go_enter Tryz.func173, Tryz.ntmps173
    go_wp2_with fail
    refine (hck _ (fun h => (hp h).later (hb3 w _ _ _))).mono ?_
    rintro e w1 ⟨rfl, hb1⟩
    have hB := (hb3 w (.cells #[.int .i64 a, .int .i64 l, .slice x n c] 134) (.cells #[.int .i64 z] 3) (.cells #[.int .i64 0, .int .i64 0] 49)).trans (hb1.mono (by simp; omega))
    obtain ⟨e0, e1, e2, ez, er, hsz⟩ := oX hb1
    obtain ⟨f0, f1, z0, z1⟩ := nO er
    go_wp2
    refine bodyPost_ret (v := .tuple #[.agg #[.int .i64 0, .int .i64 0], .bool false, .int .i64 3]) (by simp [results, Tryz.results173, go_sem, f0, f1]) rfl ⟨rfl, ?_⟩
    exact jT hB (by omega) _ _
   ·have hE : tN a l n ps z = 0 := by unfold tN; rw [if_pos hv, if_neg (by omega)]
    have hS : tO a l n ps z = ((hol ps (16 - l).toNat a l).find? fun h => decide (h.2 ≤ z)).map (·.1) := by unfold tO; rw [hE]; rfl
    rw [hE, hS]
    go_enter Tryz.func173, Tryz.ntmps173
    go_wp2_with fail
    refine (hck _ (fun h => (hp h).later (hb3 w _ _ _))).mono ?_
    rintro e w1 ⟨rfl, hb1⟩
    have hB := (hb3 w (.cells #[.int .i64 a, .int .i64 l, .slice x n c] 134) (.cells #[.int .i64 z] 3) (.cells #[.int .i64 0, .int .i64 0] 49)).trans (hb1.mono (by simp; omega))
    obtain ⟨e0, e1, e2, ez, er, hsz⟩ := oX hb1
    obtain ⟨f0, f1, z0, z1⟩ := nO er
    go_wp2_with fail
    have hfi := callsIn_wide.1 (JL a l z x n c ps hr (by omega) (w.heap.size + 1) 0 w1 (hp'.later hB) ez)
    unfold AM at hfi
    refine hfi.mono ?_
    rintro e w2 ⟨rfl, hb2⟩
    have hC := hB.trans (hb2.mono hB.size)
    have er2 := (hb2.block _ (Array.getElem?_eq_some_iff.1 er).1).trans er
    have ez2 := cell_later hb2 ez
    have hsz2 := hb2.size
    clear e0 e1 e2 ez f0 f1 z0 z1 hb1
    cases hfind : (hol ps (16 - l).toNat a l).find? fun h => decide (h.2 ≤ z)
    ·simp only [qS]
     have er3 : ∀ o, (w2.alloc o).heap[w.heap.size + 1 + 1]? = some (.cells #[.int .i64 0, .int .i64 0] 49) := fun o => aF o er2
     have f0 : ∀ o, (w2.alloc o).cell? ⟨w.heap.size + 1 + 1, 0, none⟩ = some (.int .i64 0) := fun o => (nO (er3 o)).1
     have f1 : ∀ o, (w2.alloc o).cell? ⟨w.heap.size + 1 + 1, 1, none⟩ = some (.int .i64 0) := fun o => (nO (er3 o)).2.1
     have z0 : ∀ o, (w2.alloc o).frozen? ⟨w.heap.size + 1 + 1, 0, none⟩ = false := fun o => (nO (er3 o)).2.2.1
     have z1 : ∀ o, (w2.alloc o).frozen? ⟨w.heap.size + 1 + 1, 1, none⟩ = false := fun o => (nO (er3 o)).2.2.2
     go_wp2
     refine bodyPost_ret (v := .tuple #[.agg #[.int .i64 0, .int .i64 0], .bool false, .int .i64 0]) (by simp [results, Tryz.results173, go_sem, f0, f1]) rfl ⟨by rw [hfind]; rfl, ?_⟩
     exact jT (hC.trans ((bl1 w2 _).mono hC.size)) (by omega) _ _
    ·rename_i h
     simp only [qS]
     have er3 : ∀ o, (w2.alloc o).heap[w.heap.size + 1 + 1]? = some (.cells #[.int .i64 0, .int .i64 0] 49) := fun o => aF o er2
     have f0 : ∀ o, (w2.alloc o).cell? ⟨w.heap.size + 1 + 1, 0, none⟩ = some (.int .i64 0) := fun o => (nO (er3 o)).1
     have f1 : ∀ o, (w2.alloc o).cell? ⟨w.heap.size + 1 + 1, 1, none⟩ = some (.int .i64 0) := fun o => (nO (er3 o)).2.1
     have z0 : ∀ o, (w2.alloc o).frozen? ⟨w.heap.size + 1 + 1, 0, none⟩ = false := fun o => (nO (er3 o)).2.2.1
     have z1 : ∀ o, (w2.alloc o).frozen? ⟨w.heap.size + 1 + 1, 1, none⟩ = false := fun o => (nO (er3 o)).2.2.2
     have ez3 : ∀ o, (w2.alloc o).cell? ⟨w.heap.size + 1, 0, none⟩ = some (.int .i64 z) := fun o => cell_later (bl1 w2 o) ez2
     go_wp2
     refine bodyPost_ret (v := .tuple #[.agg #[.int .i64 h.1, .int .i64 z], .bool true, .int .i64 0]) (by simp [results, Tryz.results173, go_sem, f0, f1]) rfl ⟨by rw [hfind]; rfl, ?_⟩
     exact jT (hC.trans ((bl1 w2 _).mono hC.size)) (by omega) _ _
 ·have hE : tN a l n ps z = kN a l n ps := by unfold tN; rw [if_neg hv]
  have hS : tO a l n ps z = none := by unfold tO; rw [hE, if_neg hv]
  rw [hE, hS]
  have hb : (kN a l n ps != 0) = true := by simpa using hv
  have hb' : (kN a l n ps == 0) = false := by simpa using hv
  clear hE hS
  generalize kN a l n ps = v at hck hb hb' hv ⊢
  go_enter Tryz.func173, Tryz.ntmps173
  go_wp2_with fail
  refine (hck _ (fun h => (hp h).later (hb3 w _ _ _))).mono ?_
  rintro e w1 ⟨rfl, hb1⟩
  have hB := (hb3 w (.cells #[.int .i64 a, .int .i64 l, .slice x n c] 134) (.cells #[.int .i64 z] 3) (.cells #[.int .i64 0, .int .i64 0] 49)).trans (hb1.mono (by simp; omega))
  obtain ⟨e0, e1, e2, ez, er, hsz⟩ := oX hb1
  obtain ⟨f0, f1, z0, z1⟩ := nO er
  go_wp2
  refine bodyPost_ret (v := .tuple #[.agg #[.int .i64 0, .int .i64 0], .bool false, .int .i64 v]) (by simp [results, Tryz.results173, go_sem, f0, f1]) rfl ⟨rfl, ?_⟩
  exact jT hB (by omega) _ _
theorem under_int : Tryz.prog.underlying 3 = some (.int .i64) := by kernel_rfl
theorem lM (b o j : Nat) : (⟨b, o, none⟩ : Addr).add j = ⟨b, o + j, none⟩ := by
 unfold Addr.add
 split
 ·simp_all
 ·rfl
theorem zP : Tryz.prog.underlying 49 = some (.struct (Tryz.prog.fieldsOf 49)) := by kernel_rfl
theorem DK : Tryz.prog.stoodInHeld 49 = false := by kernel_rfl
theorem AN (a l c m : Int) (w : World) : (binOp .eql 49 (.agg #[.int .i64 a, .int .i64 l]) (.agg #[.int .i64 c, .int .i64 m])).run Tryz.prog w = .ok (.bool (decide (a = c) && decide (l = m))) w := by
 rw [run_eql_struct, show (10000 : Nat) = 9999 + 1 from rfl, run_equalIn_agg w 9999 _ _ _ zP DK]
 simp only [Program.fieldsOf, Tryz.underlying49]
 go_simp
 by_cases h1 : a = c <;> by_cases h2 : l = m <;> simp [h1, h2]
theorem BU : Tryz.prog.eqGuardType Tryz.prog.depth 49 = false := by kernel_rfl
theorem rR (op : BinOp) (x y : Operand) (p q : Array Value) (w : World) : (eqGuard op 49 x y (.agg p) (.agg q)).run Tryz.prog w = .ok () w := by
 have h := BU
 unfold eqGuard
 cases op <;> simp [go_sem, h]
theorem ML {p q r : Value} (h : V.heap[b]? = some (.cells #[p, q, r] t)) : V.cell? ⟨b, 0, none⟩ = some p ∧ V.cell? ⟨b, 1, none⟩ = some q ∧ V.cell? ⟨b, 2, none⟩ = some r ∧ V.frozen? ⟨b, 0, none⟩ = false ∧ V.frozen? ⟨b, 1, none⟩ = false ∧ V.frozen? ⟨b, 2, none⟩ = false := by
 simp [World.cell?, World.frozen?, h]
theorem F9 (h : Below w.heap.size w V) {b : Nat} (hb : w.heap.size ≤ b) (p q r : Value) : Below w.heap.size w (((V.setCell ⟨b, 0, none⟩ p).setCell ⟨b, 1, none⟩ q).setCell ⟨b, 2, none⟩ r) :=
 ((h.setCell (p := ⟨b, 0, none⟩) hb p).setCell (p := ⟨b, 1, none⟩) hb q).setCell (p := ⟨b, 2, none⟩) hb r
theorem PS.set3 {ps : List (Int × Int)} (h : PS V x n ps) (hb : ∀ q, x = some q → q.block ≠ b) (p q r : Value) : PS (((V.setCell ⟨b, 0, none⟩ p).setCell ⟨b, 1, none⟩ q).setCell ⟨b, 2, none⟩ r) x n ps where
 len := h.len
 cells := fun i hi => by
  obtain ⟨b', o, hx, c0, c1⟩ := h.cells i hi
  have hne : b' ≠ b := hb _ hx
  exact ⟨b', o, hx, by rw [aX hne, aX hne, aX hne]; exact c0, by rw [aX hne, aX hne, aX hne]; exact c1⟩
structure RX (ps : List (Int × Int)) (c m : Int) (qs : List (Int × Int)) : Prop where
 ex : ∃ i, i ≤ ps.length ∧ (∀ j, j < i → ¬ c < dA ps j) ∧ (i < ps.length → c < dA ps i) ∧ qs = ps.take i ++ [(c, m)] ++ ps.drop i
open Go.ChangeShapes Go.WideShapes Go.ChangeAt Go.RowKit Go.Joins
theorem own : ownKnob Tryz.prog.godebug = none := by kernel_rfl
theorem QB : laidOutB Tryz.prog = true := by kernel_rfl
theorem SG : Tryz.prog.cellsOf 49 = 2 := by kernel_rfl
theorem MM : Tryz.prog.cellsOf 3 = 1 := by kernel_rfl
theorem MN {n : Int} (h : (Lit.int .i64 n).wf = true) : -9223372036854775808 ≤ n ∧ n ≤ 9223372036854775807 := by
 have h1 : IntKind.i64.min = -9223372036854775808 := by rfl
 have h2 : IntKind.i64.max = 9223372036854775807 := by rfl
 simp [Lit.wf] at h
 omega
theorem DL {ps : List (Int × Int)} {a l : Int} (h : nE ps a l) : eN a l ps = true := by
 refine JF fun j hj => ?_
 have h1 := h.inn ps[j] (List.getElem_mem hj)
 unfold JE
 rw [jG hj, mE hj, h1, Bool.true_and]
 cases j with
 | zero => rfl
 | succ j =>
  have hr := List.pairwise_iff_getElem.1 h.rise j (j + 1) (by omega) hj (by omega)
  have hp := cG ps[j].2
  rw [Nat.add_sub_cancel, jG (by omega), mE (by omega)]
  simp only [Bool.or_eq_true, Bool.and_eq_true, decide_eq_true_eq, Bool.not_eq_true']
  right
  refine ⟨by omega, xB fun hm => ?_⟩
  have := xA hm
  omega
theorem DM {ps : List (Int × Int)} {a l c : Int} (h : nE ps a l) (hi : iZ c m a l = true) (hf : mtsAny c m ps = false) (hp : RX ps c m qs) : nE qs a l := by
 obtain ⟨i, hin, hlow, hup, rfl⟩ := hp.ex
 have rc := (bB hi).1
 have pm := cG m
 have hno : ∀ u ∈ ps, gF c m u.1 u.2 = false := fun u hu => xB fun h1 => by
  have := jS.2 ⟨u, hu, h1⟩
  rw [this] at hf; cases hf
 have hA : ∀ u ∈ ps.take i, u.1 + sp u.2 ≤ c := fun u hu => by
  obtain ⟨j, hj, rfl⟩ := List.getElem_of_mem hu
  rw [List.length_take] at hj
  have hj' : j < ps.length := by omega
  rw [List.getElem_take]
  have h1 := hlow j (by omega)
  rw [jG hj'] at h1
  have h2 := hno ps[j] (List.getElem_mem hj')
  have ru := (bB (h.inn ps[j] (List.getElem_mem hj'))).1
  by_cases h3 : ps[j].1 + sp ps[j].2 ≤ c
  ·exact h3
  ·have := qQ rc ru (by omega) (by omega)
   rw [this] at h2; cases h2
 have hB : ∀ u ∈ ps.drop i, c + sp m ≤ u.1 := fun u hu => by
  obtain ⟨j, hj, rfl⟩ := List.getElem_of_mem hu
  rw [List.length_drop] at hj
  have hj' : i + j < ps.length := by omega
  have hi' : i < ps.length := by omega
  rw [List.getElem_drop]
  have h1 := hup hi'
  rw [jG hi'] at h1
  have h4 : ps[i].1 ≤ ps[i + j].1 := by
   rcases Nat.eq_zero_or_pos j with h0 | h0
   ·subst h0; exact Int.le_refl _
   ·have := List.pairwise_iff_getElem.1 h.rise i (i + j) hi' hj' (by omega)
    have := cG ps[i].2
    omega
  have h2 := hno ps[i + j] (List.getElem_mem hj')
  have ru := (bB (h.inn ps[i + j] (List.getElem_mem hj'))).1
  by_cases h3 : c + sp m ≤ ps[i + j].1
  ·exact h3
  ·have := qQ rc ru (by have := cG ps[i + j].2; omega) (by omega)
   rw [this] at h2; cases h2
 refine ⟨fun u hu => ?_, ?_⟩
 ·simp only [List.mem_append, List.mem_singleton] at hu
  rcases hu with (hu | rfl) | hu
  ·exact h.inn u (List.mem_of_mem_take hu)
  ·exact hi
  ·exact h.inn u (List.mem_of_mem_drop hu)
 ·rw [List.append_assoc, List.pairwise_append]
  refine ⟨h.rise.sublist (List.take_sublist i ps), ?_, fun u hu v hv => ?_⟩
  ·rw [List.singleton_append, List.pairwise_cons]
   exact ⟨fun v hv => hB v hv, h.rise.sublist (List.drop_sublist i ps)⟩
  ·simp only [List.singleton_append, List.mem_cons] at hv
   rcases hv with rfl | hv
   ·exact hA u hu
   ·have := hA u hu
    have := hB v hv
    omega
theorem JO {ps : List (Int × Int)} (hk : k < ps.length) : ps.take (k + 1) = ps.take k ++ [(dA ps k, eA ps k)] := by
 rw [List.take_add_one, List.getElem?_eq_getElem hk, jG hk, mE hk]
 rfl
def gG (w V : World) (a l : Int) (o : List (Int × Int)) (x : Option Addr) (c : Nat) : Prop :=
 V.heap[w.heap.size]? = some (.cells #[.int .i64 a, .int .i64 l, .slice x o.length c] 134) ∧ V.ownsRow (w.heap.size + 1) 49 2 (.slice x o.length c) o.length (vW o) ∧ Below w.heap.size w V
theorem gG.start (w : World) (a l : Int) : gG w (w.alloc (.cells #[.int .i64 a, .int .i64 l, .slice none 0 0] 134)) a l [] none 0 :=
 ⟨aC _ rfl, World.ownsRow_nil _ _ _ _, bl1 w _⟩
theorem gG.later {a l : Int} (h : gG w V a l o x c) (hb : Below V.heap.size V V') : gG w V' a l o x c :=
 ⟨(hb.block _ (Array.getElem?_eq_some_iff.1 h.1).1).trans h.1, P9 (B := 0) () V V' none h.2.1 (jR hb) (fun r e => by cases e), h.2.2.trans (hb.mono h.2.2.size)⟩
theorem gG.append {w5 : World} {a l c : Int} (h : gG w V a l o x k)
  (hown : w5.ownsRow (w.heap.size + 1) 49 2 v' (o.length + 1) (vW o ++ [.int .i64 c, .int .i64 m])) (hg : (V.alloc (.cells #[.int .i64 c, .int .i64 m] 49)).grownBy w5 (Value.slice x o.length k).ownBlock) :
  ∃ x' k', v' = .slice x' (o.length + 1) k' ∧ w5.cell? ⟨w.heap.size, 2, none⟩ = some (.slice x o.length k) ∧ w5.frozen? ⟨w.heap.size, 2, none⟩ = false ∧ Below w.heap.size w w5 ∧
   gG w (w5.setCell ⟨w.heap.size, 2, none⟩ (.slice x' (o.length + 1) k')) a l (o ++ [(c, m)]) x' k' := by
 have hne : (Value.slice x o.length k).ownBlock ≠ some w.heap.size := fun e => by have := (h.2.1.lt _ e).1; omega
 have hlt : w.heap.size < V.heap.size := (Array.getElem?_eq_some_iff.1 h.1).1
 have e5 : w5.heap[w.heap.size]? = some (.cells #[.int .i64 a, .int .i64 l, .slice x o.length k] 134) := (hg.block _ (by simp; omega) (fun e => hne e.symm)).trans (aF _ h.1)
 have hgs := hg.size
 rw [World.size_alloc] at hgs
 have hb5 : Below w.heap.size w w5 := ⟨hg.os.trans h.2.2.os, hg.tape.trans h.2.2.tape, hg.output.trans h.2.2.output, by omega, fun j hj =>
  ((hg.block j (by simp; omega) (fun e => by have := (h.2.1.lt _ e.symm).1; omega)).trans (Below.heap_alloc _ _ _ (by omega))).trans (h.2.2.block j hj)⟩
 have hv : v'.ownBlock ≠ some w.heap.size := fun e => by have := (hown.lt _ e).1; omega
 obtain ⟨x', k', rfl⟩ : ∃ x' k', v' = .slice x' (o.length + 1) k' := by
  rcases hown.2 with ⟨_, h0⟩ | ⟨g, cap, cur, rfl, _⟩
  ·omega
  ·exact ⟨_, _, rfl⟩
 refine ⟨x', k', rfl, (ML e5).2.2.1, (ML e5).2.2.2.2.2, hb5, ?_, ?_, hb5.setCell (p := ⟨w.heap.size, 2, none⟩) (Nat.le_refl _) _⟩
 ·have := heap_setCell_same w5 w.heap.size 2 _ _ (.slice x' (o.length + 1) k') e5
  rw [List.length_append, List.length_singleton]
  simpa using this
 ·rw [List.length_append, List.length_singleton, DH]
  exact ownsRow_setCell_other hown hv _
theorem gG.ps {a l : Int} (h : gG w V a l o x c) : PS V x o.length o ∧ (∀ q, x = some q → w.heap.size + 1 ≤ q.block) := by
 obtain ⟨x', c', e, hps, hfr, _⟩ := PS.of_own h.2.1
 cases e
 exact ⟨hps, fun q hq => (hfr q hq).1⟩
structure Le where
 a : Int
 l : Int
 kd : Int
 ow : Int
 un : Int
def VM : Le := ⟨0, 0, 0, 0, 0⟩
structure Po where
 id : Int
 up : Int
 a : Int
 l : Int
 mn : Int
 mx : Int
 us : Int
 co : Int
 x : Option Addr
 n : Nat
 c : Nat
 ls : List Le
def VN : Po := ⟨0, 0, 0, 0, 0, 0, 0, 0, none, 0, 0, []⟩
def aM (ls : List Le) (i : Nat) : Le := ls.getD i VM
def poAt (ps : List Po) (i : Nat) : Po := ps.getD i VN
structure LS (w : World) (x : Option Addr) (n : Nat) (ls : List Le) : Prop where
 len : ls.length = n
 cells : ∀ i, i < n → ∃ b o, x = some ⟨b, o, none⟩ ∧ w.cell? ⟨b, o + i * 5, none⟩ = some (.int .i64 (aM ls i).a) ∧ w.cell? ⟨b, o + i * 5 + 1, none⟩ = some (.int .i64 (aM ls i).l) ∧
  w.cell? ⟨b, o + i * 5 + 2, none⟩ = some (.int .i64 (aM ls i).kd) ∧ w.cell? ⟨b, o + i * 5 + 3, none⟩ = some (.int .i64 (aM ls i).ow) ∧ w.cell? ⟨b, o + i * 5 + 4, none⟩ = some (.int .i64 (aM ls i).un)
theorem LS.later {ls : List Le} (h : LS w x n ls) (hb : Below w.heap.size w w') : LS w' x n ls where
 len := h.len
 cells := fun i hi => by
  obtain ⟨b, o, hx, c0, c1, c2, c3, c4⟩ := h.cells i hi
  exact ⟨b, o, hx, cell_later hb c0, cell_later hb c1, cell_later hb c2, cell_later hb c3, cell_later hb c4⟩
structure qA (w : World) (x : Option Addr) (n : Nat) (ps : List Po) : Prop where
 len : ps.length = n
 cells : ∀ i, i < n → ∃ b o, x = some ⟨b, o, none⟩ ∧ w.cell? ⟨b, o + i * 9, none⟩ = some (.int .i64 (poAt ps i).id) ∧ w.cell? ⟨b, o + i * 9 + 1, none⟩ = some (.int .i64 (poAt ps i).up) ∧
  w.cell? ⟨b, o + i * 9 + 2, none⟩ = some (.int .i64 (poAt ps i).a) ∧ w.cell? ⟨b, o + i * 9 + 3, none⟩ = some (.int .i64 (poAt ps i).l) ∧ w.cell? ⟨b, o + i * 9 + 4, none⟩ = some (.int .i64 (poAt ps i).mn) ∧
  w.cell? ⟨b, o + i * 9 + 5, none⟩ = some (.int .i64 (poAt ps i).mx) ∧ w.cell? ⟨b, o + i * 9 + 6, none⟩ = some (.int .i64 (poAt ps i).us) ∧ w.cell? ⟨b, o + i * 9 + 7, none⟩ = some (.int .i64 (poAt ps i).co) ∧
  w.cell? ⟨b, o + i * 9 + 8, none⟩ = some (.slice (poAt ps i).x (poAt ps i).n (poAt ps i).c)
 leases : ∀ i, i < n → (poAt ps i).n ≤ (poAt ps i).c ∧ (poAt ps i).n ≤ 1048576 ∧ LS w (poAt ps i).x (poAt ps i).n (poAt ps i).ls
theorem qA.later {ps : List Po} (h : qA w x n ps) (hb : Below w.heap.size w w') : qA w' x n ps where
 len := h.len
 cells := fun i hi => by
  obtain ⟨b, o, hx, c0, c1, c2, c3, c4, c5, c6, c7, c8⟩ := h.cells i hi
  exact ⟨b, o, hx, cell_later hb c0, cell_later hb c1, cell_later hb c2, cell_later hb c3, cell_later hb c4, cell_later hb c5, cell_later hb c6, cell_later hb c7, cell_later hb c8⟩
 leases := fun i hi => ⟨(h.leases i hi).1, (h.leases i hi).2.1, (h.leases i hi).2.2.later hb⟩
def aN (ps : List Po) (id : Int) : Int := match ps.findIdx? (fun p => p.id == id) with | some i => i | none => -1
theorem nQ {ps : List Po} {id : Int} (hi : i < ps.length) (h : (poAt ps i).id = id) (hno : ∀ j, j < i → (poAt ps j).id ≠ id) : aN ps id = i := by
 unfold aN
 have hf : ps.findIdx? (fun p => p.id == id) = some i := by
  rw [List.findIdx?_eq_some_iff_getElem]
  refine ⟨hi, ?_, fun j hj => ?_⟩
  ·have : poAt ps i = ps[i] := by unfold poAt; simp [List.getD, hi]
   rw [← this]; simpa using h
  ·have : poAt ps j = ps[j] := by unfold poAt; simp [List.getD, Nat.lt_trans hj hi]
   rw [← this]; simpa using hno j hj
 rw [hf]
theorem rS {ps : List Po} {id : Int} (hno : ∀ j, j < ps.length → (poAt ps j).id ≠ id) : aN ps id = -1 := by
 unfold aN
 have hf : ps.findIdx? (fun p => p.id == id) = none := by
  rw [List.findIdx?_eq_none_iff]
  intro p hp
  obtain ⟨j, hj, rfl⟩ := List.getElem_of_mem hp
  have : poAt ps j = ps[j] := by unfold poAt; simp [List.getD, hj]
  rw [← this]; simpa using hno j hj
 rw [hf]
theorem isId_any (v : Int) (w : World) : Calls Tryz.prog 70 #[.int .i64 v] w fun e w' => e = .returned (.bool (dH v 1 65536)) ∧ w' = w := by
 unfold dH
 by_cases h : 1 ≤ v
 ·have hd : decide (1 ≤ v) = true := by simpa using h
  go_enter Tryz.func70, Tryz.ntmps70
  go_wp2
  go_ret
  exact ⟨by first | rfl | (rw [hd]; rfl), rfl⟩
 ·have hd : decide (1 ≤ v) = false := by simpa using h
  go_enter Tryz.func70, Tryz.ntmps70
  go_wp2
  go_ret
  exact ⟨by first | rfl | (rw [hd]; rfl), rfl⟩
def dJ (mn mx us co l : Int) : Bool := decide (l ≤ mn) && decide (mn ≤ us) && decide (us ≤ mx) && decide (mx ≤ 16) && dH co 0 1024
theorem MO {l : Int} (h : ¬ l ≤ mn) : dJ mn mx us co l = false := by unfold dJ; simp [h]
theorem MP {l : Int} (h : ¬ mn ≤ us) : dJ mn mx us co l = false := by unfold dJ; simp [h]
theorem MQ {l : Int} (h : ¬ us ≤ mx) : dJ mn mx us co l = false := by unfold dJ; simp [h]
theorem MR {l : Int} (h : ¬ mx ≤ 16) : dJ mn mx us co l = false := by unfold dJ; simp [h]
theorem MS {l : Int} (h : ¬ 0 ≤ co) : dJ mn mx us co l = false := by unfold dJ dH; simp [h]
theorem MT {l : Int} (h1 : l ≤ mn) (h2 : mn ≤ us) (h3 : us ≤ mx) (h4 : mx ≤ 16) : dJ mn mx us co l = dH co 0 1024 := by unfold dJ; simp [h1, h2, h3, h4]
theorem qB (mn mx us co a l : Int) (w : World) :
  Calls Tryz.prog 74 #[.agg #[.int .i64 mn, .int .i64 mx, .int .i64 us, .int .i64 co], .agg #[.int .i64 a, .int .i64 l]] w fun e w' => e = .returned (.bool (dJ mn mx us co l)) ∧ Below w.heap.size w w' := by
 by_cases h1 : l ≤ mn
 ·by_cases h2 : mn ≤ us
  ·by_cases h3 : us ≤ mx
   ·by_cases h4 : mx ≤ 16
    ·by_cases h5 : 0 ≤ co
     ·have hy : dJ mn mx us co l = decide (co ≤ 1024) := by rw [MT h1 h2 h3 h4]; unfold dH; simp [h5]
      rw [hy]
      go_enter Tryz.func74, Tryz.ntmps74
      go_wp2
      go_ret
      exact ⟨rfl, cB w _ _⟩
     ·rw [MS h5]
      go_enter Tryz.func74, Tryz.ntmps74
      go_wp2
      go_ret
      exact ⟨rfl, cB w _ _⟩
    ·rw [MR h4]
     go_enter Tryz.func74, Tryz.ntmps74
     go_wp2
     go_ret
     exact ⟨rfl, cB w _ _⟩
   ·rw [MQ h3]
    go_enter Tryz.func74, Tryz.ntmps74
    go_wp2
    go_ret
    exact ⟨rfl, cB w _ _⟩
  ·rw [MP h2]
   go_enter Tryz.func74, Tryz.ntmps74
   go_wp2
   go_ret
   exact ⟨rfl, cB w _ _⟩
 ·rw [MO h1]
  go_enter Tryz.func74, Tryz.ntmps74
  go_wp2
  go_ret
  exact ⟨rfl, cB w _ _⟩
structure Fc where
 id : Int
 x : Option Addr
 n : Nat
 c : Nat
 ns : List Int
structure Sb where
 id : Int
 a : Int
 l : Int
 x : Option Addr
 n : Nat
 c : Nat
 fs : List Fc
structure Rg where
 a : Int
 l : Int
 p : Int
def VO : Fc := ⟨0, none, 0, 0, []⟩
def VP : Sb := ⟨0, 0, 0, none, 0, 0, []⟩
def VQ : Rg := ⟨0, 0, 0⟩
def bA (ns : List Int) (i : Nat) : Int := ns.getD i 0
def fcAt (fs : List Fc) (i : Nat) : Fc := fs.getD i VO
def sbAt (ss : List Sb) (i : Nat) : Sb := ss.getD i VP
def aL (rs : List Rg) (i : Nat) : Rg := rs.getD i VQ
structure IS (w : World) (x : Option Addr) (n : Nat) (ns : List Int) : Prop where
 len : ns.length = n
 cells : ∀ i, i < n → ∃ b o, x = some ⟨b, o, none⟩ ∧ w.cell? ⟨b, o + i, none⟩ = some (.int .i64 (bA ns i))
theorem IS.later (h : IS w x n ns) (hb : Below w.heap.size w w') : IS w' x n ns where
 len := h.len
 cells := fun i hi => by
  obtain ⟨b, o, hx, h0⟩ := h.cells i hi
  exact ⟨b, o, hx, cell_later hb h0⟩
structure RS (w : World) (x : Option Addr) (n : Nat) (rs : List Rg) : Prop where
 len : rs.length = n
 cells : ∀ i, i < n → ∃ b o, x = some ⟨b, o, none⟩ ∧ w.cell? ⟨b, o + i * 3, none⟩ = some (.int .i64 (aL rs i).a) ∧ w.cell? ⟨b, o + i * 3 + 1, none⟩ = some (.int .i64 (aL rs i).l) ∧ w.cell? ⟨b, o + i * 3 + 2, none⟩ = some (.int .i64 (aL rs i).p)
theorem RS.later {rs : List Rg} (h : RS w x n rs) (hb : Below w.heap.size w w') : RS w' x n rs where
 len := h.len
 cells := fun i hi => by
  obtain ⟨b, o, hx, h0, h1, h2⟩ := h.cells i hi
  exact ⟨b, o, hx, cell_later hb h0, cell_later hb h1, cell_later hb h2⟩
structure uX (w : World) (x : Option Addr) (n : Nat) (fs : List Fc) : Prop where
 len : fs.length = n
 cells : ∀ i, i < n → ∃ b o, x = some ⟨b, o, none⟩ ∧ w.cell? ⟨b, o + i * 2, none⟩ = some (.int .i64 (fcAt fs i).id) ∧ w.cell? ⟨b, o + i * 2 + 1, none⟩ = some (.slice (fcAt fs i).x (fcAt fs i).n (fcAt fs i).c)
 addrs : ∀ i, i < n → (fcAt fs i).n ≤ (fcAt fs i).c ∧ (fcAt fs i).n ≤ 9223372036854775807 ∧ IS w (fcAt fs i).x (fcAt fs i).n (fcAt fs i).ns
theorem uX.later {fs : List Fc} (h : uX w x n fs) (hb : Below w.heap.size w w') : uX w' x n fs where
 len := h.len
 cells := fun i hi => by
  obtain ⟨b, o, hx, h0, h1⟩ := h.cells i hi
  exact ⟨b, o, hx, cell_later hb h0, cell_later hb h1⟩
 addrs := fun i hi => by
  obtain ⟨h1, h2, h3⟩ := h.addrs i hi
  exact ⟨h1, h2, h3.later hb⟩
structure SS (w : World) (x : Option Addr) (n : Nat) (ss : List Sb) : Prop where
 len : ss.length = n
 cells : ∀ i, i < n → ∃ b o, x = some ⟨b, o, none⟩ ∧ w.cell? ⟨b, o + i * 4, none⟩ = some (.int .i64 (sbAt ss i).id) ∧ w.cell? ⟨b, o + i * 4 + 1, none⟩ = some (.int .i64 (sbAt ss i).a) ∧ w.cell? ⟨b, o + i * 4 + 2, none⟩ = some (.int .i64 (sbAt ss i).l) ∧
  w.cell? ⟨b, o + i * 4 + 3, none⟩ = some (.slice (sbAt ss i).x (sbAt ss i).n (sbAt ss i).c)
 faces : ∀ i, i < n → (sbAt ss i).n ≤ (sbAt ss i).c ∧ (sbAt ss i).n ≤ 9223372036854775807 ∧ uX w (sbAt ss i).x (sbAt ss i).n (sbAt ss i).fs
theorem SS.later {ss : List Sb} (h : SS w x n ss) (hb : Below w.heap.size w w') : SS w' x n ss where
 len := h.len
 cells := fun i hi => by
  obtain ⟨b, o, hx, h0, h1, h2, h3⟩ := h.cells i hi
  exact ⟨b, o, hx, cell_later hb h0, cell_later hb h1, cell_later hb h2, cell_later hb h3⟩
 faces := fun i hi => by
  obtain ⟨h1, h2, h3⟩ := h.faces i hi
  exact ⟨h1, h2, h3.later hb⟩
structure Vp (w : World) (rx : Option Addr) (rn rc : Nat) (rs : List Rg) (sx : Option Addr) (sn sc : Nat) (ss : List Sb) : Prop where
 rcap : rn ≤ rc
 scap : sn ≤ sc
 ranges : RS w rx rn rs
 subs : SS w sx sn ss
theorem Vp.later {rs : List Rg} {ss : List Sb} (h : Vp w rx rn rc rs sx sn sc ss) (hb : Below w.heap.size w w') : Vp w' rx rn rc rs sx sn sc ss :=
 ⟨h.rcap, h.scap, h.ranges.later hb, h.subs.later hb⟩
structure Vn where
 id : Int
 rx : Option Addr
 rn : Nat
 rc : Nat
 rs : List Rg
 sx : Option Addr
 sn : Nat
 sc : Nat
 ss : List Sb
def UV : Vn := ⟨0, none, 0, 0, [], none, 0, 0, []⟩
def vnAt (vs : List Vn) (i : Nat) : Vn := vs.getD i UV
structure VS (w : World) (x : Option Addr) (n : Nat) (vs : List Vn) : Prop where
 len : vs.length = n
 cells : ∀ i, i < n → ∃ b o, x = some ⟨b, o, none⟩ ∧ w.cell? ⟨b, o + i * 3, none⟩ = some (.int .i64 (vnAt vs i).id) ∧ w.cell? ⟨b, o + i * 3 + 1, none⟩ = some (.slice (vnAt vs i).rx (vnAt vs i).rn (vnAt vs i).rc) ∧ w.cell? ⟨b, o + i * 3 + 2, none⟩ = some (.slice (vnAt vs i).sx (vnAt vs i).sn (vnAt vs i).sc)
 vps : ∀ i, i < n → (vnAt vs i).rn ≤ 9223372036854775807 ∧ (vnAt vs i).sn ≤ 9223372036854775807 ∧ (vnAt vs i).rc ≤ 9223372036854775807 ∧ Vp w (vnAt vs i).rx (vnAt vs i).rn (vnAt vs i).rc (vnAt vs i).rs (vnAt vs i).sx (vnAt vs i).sn (vnAt vs i).sc (vnAt vs i).ss
theorem VS.later {vs : List Vn} (h : VS w x n vs) (hb : Below w.heap.size w w') : VS w' x n vs where
 len := h.len
 cells := fun i hi => by
  obtain ⟨b, o, hx, h0, h1, h2⟩ := h.cells i hi
  exact ⟨b, o, hx, cell_later hb h0, cell_later hb h1, cell_later hb h2⟩
 vps := fun i hi => by
  obtain ⟨h1, h2, h3, h4⟩ := h.vps i hi
  exact ⟨h1, h2, h3, h4.later hb⟩
def MU (o : Oper) : Bool := match o.op with
 | .move _ | .assign _ => true
 | .load _ _ => true
 | .fieldAddr _ _ _ => true
 | .indexAddr _ _ _ => true
 | .build _ _ => true
 | .binOp _ _ _ _ _ => true
 | .slice _ _ _ _ _ => true
 | .unOp _ _ _ => true
 | .extract _ _ => true
 | .nilCheck _ => true
 | _ => false
theorem dP {s : Result Value} {n : Next} (h : (s.andThen fun x w => Result.ok (Next.value x) w) = .ok n w') : ∃ u, n = .value u := by
 cases s with
 | ok x w => simp only [Result.andThen, Result.ok.injEq] at h; exact ⟨x, h.1.symm⟩
 | halt x w => simp [Result.andThen] at h
theorem tP {α : Type} {P : Program} {s : Sem α} {f : α → Sem Next} {w w' : World} {n : Next} (h : (s >>= f).run P w = .ok n w') : ∃ x w1, (f x).run P w1 = .ok n w' := by
 rw [Sem.run_bind] at h
 cases hs : s.run P w with
 | ok x w1 => rw [hs] at h; exact ⟨x, w1, h⟩
 | halt x w1 => rw [hs] at h; simp [Result.andThen] at h
theorem QC {o : Oper} {n : Next} (h : MU o = true) (hr : (execOp a.eval o).run P w = .ok n w') : ∃ u, n = .value u := by
 unfold MU at h
 unfold execOp at hr
 split at h
 ·rename_i x hop; rw [hop] at hr; simp only [Sem.run_pure, Result.ok.injEq] at hr; exact ⟨_, hr.1.symm⟩
 ·rename_i x hop; rw [hop] at hr; simp only [Sem.run_pure, Result.ok.injEq] at hr; exact ⟨_, hr.1.symm⟩
 ·rename_i x y hop; rw [hop] at hr; simp only [Sem.run_bind, Sem.run_pure] at hr; exact dP hr
 ·rename_i x y z hop; rw [hop] at hr; simp only [Sem.run_bind, Sem.run_pure] at hr; exact dP hr
 ·rename_i x y z hop; rw [hop] at hr; simp only [Sem.run_bind, Sem.run_pure] at hr; exact dP hr
 ·rename_i x y hop; rw [hop] at hr; simp only [Sem.run_bind, Sem.run_pure] at hr; exact dP hr
 ·rename_i hop; rw [hop] at hr; rw [Sem.run_bind] at hr; simp only [Sem.run_pure] at hr; exact dP hr
 ·rename_i hop; rw [hop] at hr; simp only [Sem.run_bind, Sem.run_pure] at hr; exact dP hr
 ·rename_i hop; rw [hop] at hr; simp only [Sem.run_bind, Sem.run_pure] at hr; exact dP hr
 ·rename_i hop; rw [hop] at hr; simp only [Sem.run_bind, Sem.run_pure] at hr; exact dP hr
 ·rename_i hop
  rw [hop] at hr
  simp only at hr
  repeat' split at hr
  all_goals first
   | (simp only [Sem.run_pure, Result.ok.injEq] at hr; exact ⟨_, hr.1.symm⟩)
   | (simp [runtimePanic] at hr; done)
   | skip
  obtain ⟨p, w1, hr⟩ := tP hr
  obtain ⟨q, w2, hr⟩ := tP hr
  split at hr
  ·obtain ⟨_, w3, hr⟩ := tP hr
   simp only [Sem.run_pure, Result.ok.injEq] at hr
   exact ⟨_, hr.1.symm⟩
  ·simp only [Sem.run_pure, Result.ok.injEq] at hr
   exact ⟨_, hr.1.symm⟩
 ·cases h
theorem qU {o : Oper} (hp : MU o = true) (h : YieldsIn P ops C o v a) : YieldsIf P ops C o v a := by
 rcases h with ⟨h1, h2⟩ | h
 ·refine .inl ⟨h1, fun w hw => ?_⟩
  have h3 := h2 w hw
  unfold Oper.quietAt at h3
  cases hr : (execOp a.eval o).run P w with
  | ok n w' =>
   rw [hr] at h3
   obtain ⟨u, rfl⟩ := QC hp hr
   simp only [Oper.quietUpon] at h3
   rw [h3.1, h3.2]
  | halt x w' => rw [hr] at h3; simp [Oper.quietUpon] at h3
 ·exact .inr h
def nR (ops : Array Oper) (listed : Array Bool) : Prop := ∀ j oj, ops[j]? = some oj → listed.getD j false = true → ∀ e ∈ oj.after, Region.binds .any e = true → listed.getD e.on false = true
def AO (ops : Array Oper) (listed : Array Bool) : Bool := (List.range ops.size).all fun j => !(listed.getD j false) || match ops[j]? with | some oj => oj.after.all fun e => !(Region.binds .any e) || listed.getD e.on false | none => true
theorem mF (h : AO ops listed = true) : nR ops listed := fun j oj hj hl e he hb => by
 have h1 := List.all_eq_true.1 h j (List.mem_range.2 (Array.getElem?_eq_some_iff.1 hj).1)
 rw [hl, hj] at h1
 simp only [Bool.not_true, Bool.false_or] at h1
 obtain ⟨i, hi, rfl⟩ := Array.mem_iff_getElem.1 he
 have h2 := Array.all_eq_true.1 h1 i hi
 rw [hb] at h2
 simpa using h2
theorem nR.set (h : nR ops listed) (hi : i ∈ Region.ready .any ops listed) : nR ops (listed.setIfInBounds i true) := fun j oj hj hl e he hb => by
 obtain ⟨_, oi, hoi, hall⟩ := mem_ready.1 hi
 by_cases hij : i = j
 ·subst hij
  have : oj = oi := Option.some.inj (hj.symm.trans hoi)
  subst this
  exact getD_set_true (hall e he hb)
 ·rw [getD_set_ne false hij] at hl
  exact getD_set_true (h j oj hj hl e he hb)
def mG (ops : Array Oper) : Nat → Nat → Nat → Bool
 | 0, j, i => Region.waitsFor .any ops j i
 | f + 1, j, i => Region.waitsFor .any ops j i || (List.range ops.size).any fun k => Region.waitsFor .any ops j k && mG ops f k i
theorem nS (h : nR ops listed) : ∀ (f j i : Nat), mG ops f j i = true → (∀ oj, ops[j]? = some oj → ∀ e ∈ oj.after, Region.binds .any e = true → listed.getD e.on false = true) → listed.getD i false = true
 | 0, j, i, hr, hj => by
  obtain ⟨oj, hoj, e, he, hb, hon⟩ := Region.waitsFor_spec hr
  rw [← hon]
  exact hj oj hoj e he hb
 | f + 1, j, i, hr, hj => by
  unfold mG at hr
  rw [Bool.or_eq_true] at hr
  rcases hr with hr | hr
  ·obtain ⟨oj, hoj, e, he, hb, hon⟩ := Region.waitsFor_spec hr
   rw [← hon]
   exact hj oj hoj e he hb
  ·obtain ⟨k, -, hk⟩ := List.any_eq_true.1 hr
   rw [Bool.and_eq_true] at hk
   obtain ⟨oj, hoj, e, he, hb, hon⟩ := Region.waitsFor_spec hk.1
   have hkl : listed.getD k false = true := by rw [← hon]; exact hj oj hoj e he hb
   exact nS h f k i hk.2 (fun ok hok => h k ok hok hkl)
def qC (P : Program) (ops : Array Oper) (Q : Exit → Act → World → Prop) (S : World → Prop) (T : Nat → Bool) : Nat → Array Bool → Act → World → Prop
 | 0, listed, a, w => Region.ready .any ops listed = [] ∧ Q .normal a w
 | f + 1, listed, a, w => (Region.ready .any ops listed = [] → Q .normal a w) ∧ ∀ i ∈ Region.ready .any ops listed, wpOp P ops Q i (fun a' w' => (T i = true → S w') ∧ qC P ops Q S T f (listed.setIfInBounds i true) a' w') a w
theorem oY : ∀ (f : Nat) (listed : Array Bool) (a : Act) (w : World), qC P ops Q S T f listed a w → wpAny P .any ops Q f listed a w
 | 0, _, _, _, h => h
 | f + 1, _, _, _, h => ⟨h.1, fun i hi => wpOp_mono (fun a' w' h' => oY f _ a' w' h'.2) (h.2 i hi)⟩
theorem tQ (hi : ops[i]? = some oi) (hsel : ∀ (j : Nat) (o : Oper) cs b, ops[j]? = some o → o.op ≠ .select cs b)
  (hQ : ∀ d v c a w, Q (.panic c) (Act.put a d v) w → Q (.panic c) a w) (hw : ∀ j, T j = false → j < ops.size → mG ops ops.size j i = true) :
  ∀ (f : Nat) (listed : Array Bool) (a : Act) (w : World), nR ops listed →
   (∀ j oj, ops[j]? = some oj → j ≠ i → listed.getD j true = false → (∀ e ∈ oj.after, Region.binds .any e = true → e.on ≠ i) → oi.apart ops oj = true) →
   i ∈ Region.ready .any ops listed → YieldsIf P ops S oi v a → S w →
   qC P ops Q S T f (listed.setIfInBounds i true) (a.put oi.dst v) w → qC P ops Q S T (f + 1) listed a w := by
 intro f
 induction f with
 | zero =>
  intro listed a w _ _ hr hy hS H
  refine ⟨fun h => (by rw [h] at hr; cases hr), fun j hj => ?_⟩
  by_cases hji : j = i
  ·subst hji; exact hy.wpOp hi hS ⟨fun _ => hS, H⟩
  ·have := ready_mono hj hji
   rw [H.1] at this
   cases this
 | succ f ih =>
  intro listed a w hsh hfree hr hy hS H
  refine ⟨fun h => (by rw [h] at hr; cases hr), fun j hj => ?_⟩
  by_cases hji : j = i
  ·subst hji; exact hy.wpOp hi hS ⟨fun _ => hS, H⟩
  ·have h1 := H.2 j (ready_mono hj hji)
   obtain ⟨hjun, oj, hoj, hall⟩ := mem_ready.1 hj
   have h0 := (mem_ready.1 hr).1
   have hnot : ∀ e ∈ oj.after, Region.binds .any e = true → e.on ≠ i := fun e he hb heq => by
    have h1 := hall e he hb
    rw [heq, getD_both h0] at h1
    cases h1
   have hjT : T j = true := by
    cases hT : T j with
    | true => rfl
    | false =>
     have h2 := nS hsh ops.size j i (hw j hT (Array.getElem?_eq_some_iff.1 hoj).1) (fun ok hok e he hb => by
      have : ok = oj := Option.some.inj (hok.symm.trans hoj)
      subst this
      exact hall e he hb)
     rw [getD_both h0] at h2
     cases h2
   have h2 := wpOp_putIf hoj (hfree j oj hoj hji hjun hnot) (fun cs b => hsel i oi cs b hi) (fun cs b => hsel j oj cs b hoj) (fun c a w => hQ _ _ c a w) hy h1
   have hfree' : ∀ k ok, ops[k]? = some ok → k ≠ i → (listed.setIfInBounds j true).getD k true = false →
     (∀ e ∈ ok.after, Region.binds .any e = true → e.on ≠ i) → oi.apart ops ok = true := fun k ok hk hki hun hno => by
    refine hfree k ok hk hki ?_ hno
    by_cases hjk : j = k
    ·subst hjk; exact hjun
    ·rw [getD_set_ne true hjk] at hun; exact hun
   refine wpOp_mono (fun a' w' h3 => ⟨fun _ => h3.2.1 hjT, ih (listed.setIfInBounds j true) a' w' (hsh.set hj) hfree' (ready_mono hr (Ne.symm hji)) h3.1 (h3.2.1 hjT) ?_⟩) h2
   rw [Array.setIfInBounds_comm _ _ hji]
   exact h3.2.2
structure Wx : Type where
 val : World
@[simp] theorem Wx.all_const (p : Prop) : (Wx → p) ↔ p := ⟨fun h => h ⟨default⟩, fun h _ => h⟩
theorem GA (hi : ops[i]? = some oi) (hsel : ∀ (j : Nat) (o : Oper) cs b, ops[j]? = some o → o.op ≠ .select cs b)
  (hQ : ∀ d v c a w, Q (.panic c) (Act.put a d v) w → Q (.panic c) a w) (hTi : T i = false) :
  ∀ (f : Nat) (listed : Array Bool) (a : Act) (w : World), nR ops listed →
   (∀ j oj, ops[j]? = some oj → j ≠ i → listed.getD j true = false → (∀ e ∈ oj.after, Region.binds .any e = true → e.on ≠ i) → oi.apart ops oj = true) →
   i ∈ Region.ready .any ops listed → YieldsIf P ops (fun w' => ∃ u : Wx, w' = u.val) oi v a →
   qC P ops Q S T f (listed.setIfInBounds i true) (a.put oi.dst v) w → qC P ops Q S T (f + 1) listed a w := by
 intro f
 induction f with
 | zero =>
  intro listed a w _ _ hr hy H
  refine ⟨fun h => (by rw [h] at hr; cases hr), fun j hj => ?_⟩
  by_cases hji : j = i
  ·subst hji; exact hy.wpOp hi ⟨⟨w⟩, rfl⟩ ⟨fun h => absurd (h.symm.trans hTi) (by decide), H⟩
  ·have := ready_mono hj hji
   rw [H.1] at this
   cases this
 | succ f ih =>
  intro listed a w hsh hfree hr hy H
  refine ⟨fun h => (by rw [h] at hr; cases hr), fun j hj => ?_⟩
  by_cases hji : j = i
  ·subst hji; exact hy.wpOp hi ⟨⟨w⟩, rfl⟩ ⟨fun h => absurd (h.symm.trans hTi) (by decide), H⟩
  ·have h1 := H.2 j (ready_mono hj hji)
   obtain ⟨hjun, oj, hoj, hall⟩ := mem_ready.1 hj
   have h0 := (mem_ready.1 hr).1
   have hnot : ∀ e ∈ oj.after, Region.binds .any e = true → e.on ≠ i := fun e he hb heq => by
    have h1 := hall e he hb
    rw [heq, getD_both h0] at h1
    cases h1
   have h2 := wpOp_putIf hoj (hfree j oj hoj hji hjun hnot) (fun cs b => hsel i oi cs b hi) (fun cs b => hsel j oj cs b hoj) (fun c a w => hQ _ _ c a w) hy h1
   have hfree' : ∀ k ok, ops[k]? = some ok → k ≠ i → (listed.setIfInBounds j true).getD k true = false →
     (∀ e ∈ ok.after, Region.binds .any e = true → e.on ≠ i) → oi.apart ops ok = true := fun k ok hk hki hun hno => by
    refine hfree k ok hk hki ?_ hno
    by_cases hjk : j = k
    ·subst hjk; exact hjun
    ·rw [getD_set_ne true hjk] at hun; exact hun
   refine wpOp_mono (fun a' w' h3 => ⟨h3.2.1, ih (listed.setIfInBounds j true) a' w' (hsh.set hj) hfree' (ready_mono hr (Ne.symm hji)) h3.1 ?_⟩) h2
   rw [Array.setIfInBounds_comm _ _ hji]
   exact h3.2.2
def oZ : Oper := { dst := none, op := .move (.const (.bool false)), type := 0, pos := "", after := #[], guard := none }
def qV (is : List Nat) (listed : Array Bool) : Array Bool := is.foldl (fun l i => l.setIfInBounds i true) listed
def vX (ops : Array Oper) : List Nat → Array Bool → Bool
 | [], _ => true
 | i :: is, listed => (Region.ready .any ops listed).contains i && Region.free .any ops listed i && vX ops is (listed.setIfInBounds i true)
def zQ (ops : Array Oper) : List Nat → Array Bool → Bool
 | [], listed => (Region.ready .any ops listed).isEmpty
 | i :: is, listed => decide (Region.ready .any ops listed = [i]) && zQ ops is (listed.setIfInBounds i true)
theorem lN (h : i < l.length) : l.toArray[i]? = some (l.getD i oZ) := by
 simp [h]
theorem wR (hsel : Region.noSelect l.toArray = true)
  (hQ : ∀ d v c a w, Q (.panic c) (Act.put a d v) w → Q (.panic c) a w) (D : Array Bool) (hC : C w) :
  ∀ (hs : List Nat) (listed : Array Bool) (a : Act), (∀ i ∈ hs, i < l.length ∧ MU (l.getD i oZ) = true ∧ ∀ j, T j = false → j < l.toArray.size → mG l.toArray l.toArray.size j i = true) → nR l.toArray listed → vX l.toArray hs listed = true → qV hs listed = D →
   wpQuiet P l.toArray C (fun a' => qC P l.toArray Q C T g D a' w) (hs.map fun i => l.getD i oZ) a → qC P l.toArray Q C T (hs.length + g) listed a w
 | [], listed, a, _, hsh, _, hd, h => by
  rw [List.length_nil, Nat.zero_add]
  subst hd
  exact h
 | i :: is, listed, a, hh, hsh, hB, hd, h => by
  obtain ⟨hil, hpl, hwt⟩ := hh i (by simp)
  have h0 := lN hil
  simp only [vX, Bool.and_eq_true] at hB
  have hr : i ∈ Region.ready .any l.toArray listed := by simpa using hB.1.1
  have hq : qOp P l.toArray C i (wpQuiet P l.toArray C (fun a' => qC P l.toArray Q C T g D a' w) (is.map fun i => l.getD i oZ)) a := by unfold qOp; simp only [h0]; exact h
  obtain ⟨v, hy, hKK⟩ := yieldsIn_of_qOp h0 hq
  rw [List.length_cons, show is.length + 1 + g = (is.length + g) + 1 by omega]
  refine tQ h0 (Region.noSelect_spec hsel) hQ hwt (is.length + g) listed a w hsh (Region.free_spec h0 hB.1.2) hr (qU hpl hy) hC ?_
  exact wR hsel hQ D hC is _ _ (fun k hk => hh k (by simp [hk])) (hsh.set hr) hB.2 hd hKK
theorem DN (hsel : Region.noSelect l.toArray = true)
  (hQ : ∀ d v c a w, Q (.panic c) (Act.put a d v) w → Q (.panic c) a w) (D : Array Bool) :
  ∀ (hs : List Nat) (listed : Array Bool) (a : Act), (∀ i ∈ hs, i < l.length ∧ MU (l.getD i oZ) = true ∧ T i = false) → nR l.toArray listed → vX l.toArray hs listed = true → qV hs listed = D →
   wpQuiet P l.toArray (fun w' => ∃ u : Wx, w' = u.val) (fun a' => qC P l.toArray Q C T g D a' w) (hs.map fun i => l.getD i oZ) a → qC P l.toArray Q C T (hs.length + g) listed a w
 | [], listed, a, _, hsh, _, hd, h => by
  rw [List.length_nil, Nat.zero_add]
  subst hd
  exact h
 | i :: is, listed, a, hh, hsh, hB, hd, h => by
  obtain ⟨hil, hpl, hwt⟩ := hh i (by simp)
  have h0 := lN hil
  simp only [vX, Bool.and_eq_true] at hB
  have hr : i ∈ Region.ready .any l.toArray listed := by simpa using hB.1.1
  have hq : qOp P l.toArray (fun w' => ∃ u : Wx, w' = u.val) i (wpQuiet P l.toArray (fun w' => ∃ u : Wx, w' = u.val) (fun a' => qC P l.toArray Q C T g D a' w) (is.map fun i => l.getD i oZ)) a := by unfold qOp; simp only [h0]; exact h
  obtain ⟨v, hy, hKK⟩ := yieldsIn_of_qOp h0 hq
  rw [List.length_cons, show is.length + 1 + g = (is.length + g) + 1 by omega]
  refine GA h0 (Region.noSelect_spec hsel) hQ hwt (is.length + g) listed a w hsh (Region.free_spec h0 hB.1.2) hr (qU hpl hy) ?_
  exact DN hsel hQ D is _ _ (fun k hk => hh k (by simp [hk])) (hsh.set hr) hB.2 hd hKK
theorem nT (g : Nat) {f : Nat} {w : World} {listed : Array Bool} {a : Act} (hs : List Nat) (hf : hs.length + g = f) (D : Array Bool) (hD : qV hs listed = D)
  (hB : (Region.noSelect l.toArray && (hs.all fun i => decide (i < l.length) && MU (l.getD i oZ) && !(T i)) && AO l.toArray listed && vX l.toArray hs listed) = true)
  (hQ : ∀ d v c a w, Q (.panic c) (Act.put a d v) w → Q (.panic c) a w) (h : wpQuiet P l.toArray (fun w' => ∃ u : Wx, w' = u.val) (fun a' => qC P l.toArray Q C T g D a' w) (hs.map fun i => l.getD i oZ) a) : qC P l.toArray Q C T f listed a w := by
 subst hf
 simp only [Bool.and_eq_true] at hB
 obtain ⟨⟨⟨hsel, hhs⟩, hsh⟩, hlex⟩ := hB
 refine DN hsel hQ D hs listed a (fun i hi => ?_) (mF hsh) hlex hD h
 have h1 := List.all_eq_true.1 hhs i hi
 simp only [Bool.and_eq_true, decide_eq_true_eq, Bool.not_eq_true'] at h1
 exact ⟨h1.1.1, h1.1.2, h1.2⟩
def GB (l : List Oper) (T : Nat → Bool) (hs : List Nat) (listed : Array Bool) : Bool :=
 Region.noSelect l.toArray && (hs.all fun i => decide (i < l.length) && MU (l.getD i oZ) && (List.range l.toArray.size).all fun j => T j || mG l.toArray l.toArray.size j i) && AO l.toArray listed && vX l.toArray hs listed
theorem aZ (g : Nat) {f : Nat} {w : World} {listed : Array Bool} {a : Act} (hs : List Nat) (hf : hs.length + g = f) (D : Array Bool) (hD : qV hs listed = D) (hB : GB l T hs listed = true)
  (hQ : ∀ d v c a w, Q (.panic c) (Act.put a d v) w → Q (.panic c) a w) (hC : C w) (h : wpQuiet P l.toArray C (fun a' => qC P l.toArray Q C T g D a' w) (hs.map fun i => l.getD i oZ) a) : qC P l.toArray Q C T f listed a w := by
 subst hf
 simp only [GB, Bool.and_eq_true] at hB
 obtain ⟨⟨⟨hsel, hhs⟩, hsh⟩, hlex⟩ := hB
 refine wR hsel hQ D hC hs listed a (fun i hi => ?_) (mF hsh) hlex hD h
 have h1 := List.all_eq_true.1 hhs i hi
 simp only [Bool.and_eq_true, decide_eq_true_eq] at h1
 refine ⟨h1.1.1, h1.1.2, fun j hj hjs => ?_⟩
 have h2 := List.all_eq_true.1 h1.2 j (List.mem_range.2 hjs)
 rw [hj, Bool.false_or] at h2
 exact h2
def qD (K : Act → World → Prop) (Q : Exit → Act → World → Prop) : Exit → Act → World → Prop
 | .normal, a, w => K a w
 | .exit i, a, w => Q (.exit i) a w
 | .goto i, a, w => Q (.goto i) a w
 | .ret, a, w => Q .ret a w
 | .panic c, a, w => Q (.panic c) a w
 | .outgrown, a, w => Q .outgrown a w
theorem aD {K : Act → World → Prop} (h : K a w) : qD K Q .normal a w := h
theorem GC {K' : Act → World → Prop} {o : Oper} {K : Act → World → Prop} (h : o.wp P a w K (qD K' Q)) : o.wp P a w K Q := by
 unfold Oper.wp at *
 generalize (execOp a.eval o).run P w = r at *
 cases r with
 | ok n w' =>
  cases n <;> simp only [Oper.upon] at h ⊢ <;>
   first
    | exact h
    | exact Calls.mono h (fun e w'' he => by cases e <;> exact he)
 | halt x w' => cases x <;> simp only [Oper.upon] at h ⊢ <;> exact h
theorem fB {K : Act → World → Prop} (hi : i < l.length) (h : wpList P l.toArray (qD K Q) [l.getD i oZ] a w) : wpOp P l.toArray Q i K a w := by
 have hop := lN hi
 unfold wpOp
 simp only [hop]
 unfold wpList at h
 by_cases hg : Region.wanted (l.getD i oZ) (yielded l.toArray a.tmps) = true
 ·rw [if_pos hg] at h ⊢
  exact h.imp (fun h2 => Oper.wp_mono (fun a'' w'' h3 => h3) (GC h2)) (fun h => h)
 ·rw [if_neg hg] at h ⊢
  exact h
structure AP (P : Program) (l : List Oper) (Q : Exit → Act → World → Prop) (S : World → Prop) (T : Nat → Bool) (f i : Nat) (D : Array Bool) (K : Act → World → Prop) : Prop where
 out : ∀ a' w', S w' → qC P l.toArray Q S T f D a' w' → K a' w'
theorem aW (i : Nat) (o : Oper) (D : Array Bool) (hr : Region.ready .any l.toArray listed = [i]) (hi : decide (i < l.length) = true) (ho : l.getD i oZ = o) (hD : listed.setIfInBounds i true = D)
  (h : ∀ K, AP P l Q S T f i D K → wpList P l.toArray (qD K Q) [o] a w) : qC P l.toArray Q S T (f + 1) listed a w := by
 subst ho
 subst hD
 refine ⟨fun h1 => (by rw [hr] at h1; cases h1), fun j hj => ?_⟩
 rw [hr] at hj
 obtain rfl : j = i := by simpa using hj
 exact fB (of_decide_eq_true hi) (h _ ⟨fun _ _ h1 h2 => ⟨fun _ => h1, h2⟩⟩)
theorem iD (i k : Nat) (o ok : Oper) (D Dk : Array Bool) (hr : Region.ready .any l.toArray listed = [i, k]) (hi : decide (i < l.length ∧ k < l.length) = true) (ho : l.getD i oZ = o) (hok : l.getD k oZ = ok)
  (hD : listed.setIfInBounds i true = D) (hDk : listed.setIfInBounds k true = Dk)
  (h1 : ∀ K, AP P l Q S T f i D K → wpList P l.toArray (qD K Q) [o] a w) (h2 : ∀ K, AP P l Q S T f k Dk K → wpList P l.toArray (qD K Q) [ok] a w) : qC P l.toArray Q S T (f + 1) listed a w := by
 subst ho
 subst hok
 subst hD
 subst hDk
 refine ⟨fun h1 => (by rw [hr] at h1; cases h1), fun j hj => ?_⟩
 rw [hr] at hj
 have hj' : j = i ∨ j = k := by simpa using hj
 rcases hj' with rfl | rfl
 ·exact fB (of_decide_eq_true hi).1 (h1 _ ⟨fun _ _ h1 h2 => ⟨fun _ => h1, h2⟩⟩)
 ·exact fB (of_decide_eq_true hi).2 (h2 _ ⟨fun _ _ h1 h2 => ⟨fun _ => h1, h2⟩⟩)
theorem AQ : ∀ (ts : List Nat) (listed : Array Bool) (a : Act) (w : World), (∀ i ∈ ts, i < l.length ∧ T i = false) →
  zQ l.toArray ts listed = true → wpList P l.toArray Q (ts.map fun i => l.getD i oZ) a w → qC P l.toArray Q S T ts.length listed a w
 | [], _, _, _, _, hB, h => ⟨by simpa [zQ] using hB, h⟩
 | i :: ts, listed, a, w, hh, hB, h => by
  obtain ⟨hil, hT⟩ := hh i (by simp)
  have h0 := lN hil
  simp only [zQ, Bool.and_eq_true, decide_eq_true_eq] at hB
  refine ⟨fun h1 => (by rw [hB.1] at h1; cases h1), fun k hk => ?_⟩
  rw [hB.1] at hk
  have hik : k = i := by simpa using hk
  subst hik
  have hw : wpOp P l.toArray Q k (wpList P l.toArray Q (ts.map fun i => l.getD i oZ)) a w := by unfold wpOp; simp only [h0]; exact h
  exact wpOp_mono (fun a' w' h' => ⟨fun h => absurd h (by rw [hT]; decide), AQ ts _ a' w' (fun i hi => hh i (by simp [hi])) hB.2 h'⟩) hw
theorem aY (ts : List Nat) (hf : ts.length = f) (hB : (zQ l.toArray ts listed && ts.all fun i => decide (i < l.length) && !(T i)) = true) (h : wpList P l.toArray Q (ts.map fun i => l.getD i oZ) a w) : qC P l.toArray Q S T f listed a w := by
 subst hf
 rw [Bool.and_eq_true] at hB
 refine AQ ts listed a w (fun i hi => ?_) hB.1 h
 have h1 := List.all_eq_true.1 hB.2 i hi
 simpa using h1
theorem bQ {id : Nat} (C : World → Prop) (T : Nat → Bool) (n : Nat) (D : Array Bool) (hm : P.follows .mixedOrders = true) (hn : l.toArray.size = n) (hD : Array.replicate n false = D)
  (h : qC P l.toArray Q C T n D a w.drew) : (Code.region id l.toArray true).wp P Q a w := by
 subst hn
 subst hD
 exact wp_region_any hm (oY _ _ _ _ h)
theorem fR {Q Q' : Act → Prop} (h : ∀ a, Q a → Q' a) : ∀ (l : List Oper) (a : Act), wpQuiet P ops C Q l a → wpQuiet P ops C Q' l a
 | [], a, g => h a g
 | o :: l, a, g => by
  unfold wpQuiet at g ⊢
  split
  ·rename_i hw
   rw [if_pos hw] at g
   exact Oper.quiet_mono (fR h l) g
  ·rename_i hw
   rw [if_neg hw] at g
   exact fR h l _ g
def BV (ps ts : List Nat) (j : Nat) : Bool := !(ps.contains j || ts.contains j)
def VV (l : List Oper) (hs : List Nat) (c : Nat) (ps ts : List Nat) : Bool :=
 GB l (BV ps ts) hs (Array.replicate l.toArray.size false) && decide (Region.ready .any l.toArray (qV hs (Array.replicate l.toArray.size false)) = [c]) && decide (c < l.length) &&
 (Region.noSelect l.toArray && (ps.all fun i => decide (i < l.length) && MU (l.getD i oZ) && !(BV ps ts i)) && AO l.toArray ((qV hs (Array.replicate l.toArray.size false)).setIfInBounds c true) && vX l.toArray ps ((qV hs (Array.replicate l.toArray.size false)).setIfInBounds c true)) &&
 (zQ l.toArray ts (qV ps ((qV hs (Array.replicate l.toArray.size false)).setIfInBounds c true)) && ts.all fun i => decide (i < l.length) && !(BV ps ts i)) && decide (hs.length + (ps.length + ts.length + 1) = l.toArray.size)
structure SH (P : Program) (l : List Oper) (Q : Exit → Act → World → Prop) (w : World) (ps ts : List Oper) (K : Act → World → Prop) : Prop where
 out : ∀ a' w', Below w.heap.size w w' → wpQuiet P l.toArray (fun w' => ∃ u : Wx, w' = u.val) (fun a'' => wpList P l.toArray Q ts a'' w') ps a' → K a' w'
theorem dQ (h : Below w.heap.size w V) (g : V.grownBy V' r) (hr : ∀ k, r = some k → w.heap.size ≤ k) : Below w.heap.size w V' :=
 ⟨g.os.trans h.os, g.tape.trans h.tape, g.output.trans h.output, Nat.le_trans h.size g.size, fun j hj => (g.block j (Nat.lt_of_lt_of_le hj h.size) (fun e => by have := hr j e.symm; omega)).trans (h.block j hj)⟩
theorem aE {a : Addr} (hb : Below w.heap.size w w') (h : w.cell? a = some v) : w'.cell? a = some v :=
 (hb.cell (World.block_lt_of_cell? w a h)).trans h
theorem qW (p r : Int) : ∃ v, zM p r v ∧ (decide (p < r) = decide (v < 0)) := by
 rcases Int.lt_trichotomy p r with h | h | h
 ·exact ⟨-1, .inl ⟨h, rfl⟩, by simp [h]⟩
 ·exact ⟨0, .inr (.inl ⟨h, rfl⟩), by simp [h]⟩
 ·exact ⟨1, .inr (.inr ⟨h, rfl⟩), by simp; omega⟩
structure Ty (ty st k : Nat) (z : Value) (y : Nat) : Prop where
 info : ∃ i, Tryz.prog.info? ty = some i ∧ i.zero = some z ∧ i.size = k ∧ i.bytes = y
 und : Tryz.prog.underlying st = some (.slice ty)
 zs : z.cells.size = k
 z1 : ∀ u ∈ z.cells.toList, u.oneCell' = true
 pos : 0 < k
 few : y ≤ 100
theorem uY (h : (Tryz.prog.info? ty).map (fun i => (i.zero, i.size, i.bytes)) = some (some z, k, y)) (hu : Tryz.prog.underlying st = some (.slice ty)) (hz : z.cells.size = k) (h1 : ∀ u ∈ z.cells.toList, u.oneCell' = true) (hk : 0 < k) (hy : y ≤ 100) : Ty ty st k z y := by
 obtain ⟨i, hi, h⟩ := Option.map_eq_some_iff.1 h
 simp only [Prod.mk.injEq] at h
 exact ⟨⟨i, hi, h.1, h.2.1, h.2.2⟩, hu, hz, h1, hk, hy⟩
theorem mH {E : Type} {c : E → List Value} (hc : ∀ e, (c e).length = k) : ∀ es : List E, (es.flatMap c).length = es.length * k
 | [] => by simp
 | e :: es => by rw [List.flatMap_cons, List.length_append, mH hc es, hc, List.length_cons, Nat.add_mul, Nat.one_mul, Nat.add_comm]
theorem rT {E : Type} {c : E → List Value} (hc : ∀ e, (c e).length = k) (d : E) : ∀ (es : List E) (i j : Nat), i < es.length → j < k → (es.flatMap c)[i * k + j]? = (c (es.getD i d))[j]?
 | [], i, j, hi, _ => by simp at hi
 | e :: es, 0, j, _, hj => by
  rw [List.flatMap_cons, List.getElem?_append_left (by rw [hc]; omega)]
  simp
 | e :: es, i + 1, j, hi, hj => by
  have := rT hc d es i j (by simpa using hi) hj
  rw [List.flatMap_cons, List.getElem?_append_right (by rw [hc, Nat.add_mul]; omega), hc, show (i + 1) * k + j - k = i * k + j by rw [Nat.add_mul]; omega, this]
  simp
theorem MV {E : Type} {c : E → List Value} (hk : 0 < k) (hc : ∀ e, (c e).length = k) {es : List E} {j : Nat} {u : Value} (h : (es.flatMap c)[j]? = some u) : ∃ i q, j = i * k + q ∧ q < k ∧ i < es.length := by
 have hl := (List.getElem?_eq_some_iff.1 h).1
 rw [mH hc] at hl
 refine ⟨j / k, j % k, by rw [Nat.mul_comm]; exact (Nat.div_add_mod j k).symm, Nat.mod_lt _ hk, (Nat.div_lt_iff_lt_mul hk).2 hl⟩
theorem jU {E : Type} {c : E → List Value} (hk : 0 < k) (hc : ∀ e, (c e).length = k) (d : E) {es : List E} {w : World} {ad : Addr} (hn : es.length = n) (h : ∀ i, i < n → ∃ b o, some ad = some ⟨b, o, none⟩ ∧ ∀ q u, (c (es.getD i d))[q]? = some u → w.cell? ⟨b, o + i * k + q, none⟩ = some u) : ∀ j u, (es.flatMap c)[j]? = some u → w.cell? (ad.add j) = some u := by
 intro j u hj
 obtain ⟨i, q, rfl, hq, hi⟩ := MV hk hc hj
 rw [rT hc d es i q hi hq] at hj
 obtain ⟨b, o, hx, hd⟩ := h i (by omega)
 simp only [Option.some.injEq] at hx
 subst hx
 rw [lM, ← Nat.add_assoc]
 exact hd q u hj
variable {w w' : World} {base base' g n m k i cap ty st y : Nat} {v z : Value} {x : Option Addr} {cs ds : List Value}
theorem jH (h : w.ownsRow base ty k v n cs) (hb : Below w.heap.size w w') : w'.ownsRow base ty k v n cs := by
 refine World.ownsRow.kept h (jR hb) ?_
 cases hv : v.ownBlock
 ·exact .inl rfl
 ·exact .inr (by simp)
theorem iK (h : w.ownsRow base ty k v n cs) (hg : w.grownBy w' (some g)) (hne : ∀ k, v.ownBlock = some k → k ≠ g) : w'.ownsRow base ty k v n cs := by
 refine World.ownsRow.kept h hg ?_
 cases hv : v.ownBlock
 ·exact .inl rfl
 ·rename_i k
  exact .inr fun e => hne k hv (Option.some.inj e)
theorem jI (h : w.ownsRow base ty k v n cs) (hb : base' ≤ base) : w.ownsRow base' ty k v n cs := by
 refine ⟨h.1, ?_⟩
 rcases h.2 with h | ⟨g, cap, cur, h1, h2, h3⟩
 ·exact .inl h
 ·exact .inr ⟨g, cap, cur, h1, Nat.le_trans hb h2, h3⟩
theorem nU (h : w.ownsRow base ty k v n cs) (hb : w.heap[b]? = some (.cells ca t fr)) (ht : t ≠ ty) : v.ownBlock ≠ some b := by
 rcases h.2 with ⟨rfl, -⟩ | ⟨g, cap, cur, rfl, -, h2, -⟩
 ·simp [Value.ownBlock]
 ·intro e
  simp only [Value.ownBlock, Option.some.injEq] at e
  rw [e, hb] at h2
  simp only [Option.some.injEq, Obj.cells.injEq] at h2
  exact ht h2.2.1
theorem mI (h : w.ownsRow base ty k v n cs) : ∃ x c, v = .slice x n c ∧ n ≤ c ∧ c ≤ 9223372036854775807 ∧ (x = none → n = 0 ∧ c = 0) ∧ ∀ i, i < n → ∃ b o, x = some ⟨b, o, none⟩ ∧ ∀ j u, j < k → cs[i * k + j]? = some u → w.cell? ⟨b, o + i * k + j, none⟩ = some u := by
 rcases h.2 with ⟨rfl, h0⟩ | ⟨g, cap, cur, rfl, -, -, h4, h5, -⟩
 ·exact ⟨none, 0, by rw [h0], by omega, by omega, fun _ => ⟨h0, rfl⟩, fun i hi => by omega⟩
 ·refine ⟨some ⟨g, 0, none⟩, cap, rfl, h4, by unfold maxLen at h5; omega, fun e => by simp at e, fun i hi => ⟨g, 0, rfl, fun j u hj hu => ?_⟩⟩
  have := World.ownsRow.cells h (g := g) rfl (i * k + j) u hu
  rw [Addr.add_lit] at this
  rw [Nat.add_assoc]
  exact this
theorem mJ (h : w.ownsRow base ty k (.slice (some ⟨g, 0, none⟩) m cap) n cs) (i : Nat) : w.frozen? ⟨g, i, none⟩ = false := by
 rcases h.2 with ⟨hv, -⟩ | ⟨g', cap', cur, hv, -, h2, -⟩
 ·simp at hv
 ·simp only [Value.slice.injEq, Option.some.injEq, Addr.mk.injEq] at hv
  obtain ⟨⟨rfl, -⟩, -, -⟩ := hv
  simp [World.frozen?, h2]
theorem pB (h : w.ownsRow base ty k (.slice (some ⟨g, 0, none⟩) m cap) n cs) : base ≤ g ∧ ∃ cur, w.heap[g]? = some (.cells cur ty) := by
 rcases h.2 with ⟨hv, -⟩ | ⟨g', cap', cur, hv, h1, h2, -⟩
 ·simp at hv
 ·simp only [Value.slice.injEq, Option.some.injEq, Addr.mk.injEq] at hv
  obtain ⟨⟨rfl, -⟩, -, -⟩ := hv
  exact ⟨h1, cur, h2⟩
theorem DO (h : w.ownsRow base ty k (.slice (some ⟨g, 0, none⟩) m cap) n cs) (i : Nat) (hi : i ≤ n) : w.ownsRow base ty k (.slice (some ⟨g, 0, none⟩) i cap) i (cs.take (i * k)) := by
 rcases h.2 with ⟨hv, -⟩ | ⟨g', cap', cur, hv, h1, h2, h3, h4, h5, h6⟩
 ·simp at hv
 ·simp only [Value.slice.injEq, Option.some.injEq, Addr.mk.injEq] at hv
  obtain ⟨⟨rfl, -⟩, rfl, rfl⟩ := hv
  have hm : i * k ≤ m * k := Nat.mul_le_mul_right k hi
  refine ⟨by rw [List.length_take, h.1]; omega, .inr ⟨g, cap, cur, rfl, h1, h2, by omega, h4, h5, ?_⟩⟩
  rw [← h6, List.take_take, Nat.min_eq_left hm]
def Rw (w : World) (x : Option Addr) (n k : Nat) (cs : List Value) : Prop := cs.length = n * k ∧ (0 < n → x ≠ none) ∧ (∀ u ∈ cs, u.oneCell' = true) ∧ ∀ ad, x = some ad → ∀ j u, cs[j]? = some u → w.cell? (ad.add j) = some u
theorem Rw.later (h : Rw w x n k cs) (hb : Below w.heap.size w w') : Rw w' x n k cs :=
 ⟨h.1, h.2.1, h.2.2.1, fun ad hx j u hj => (hb.cell (World.block_lt_of_cell? w (ad.add j) (h.2.2.2 ad hx j u hj))).trans (h.2.2.2 ad hx j u hj)⟩
theorem Rw.take (h : Rw w x n k cs) (hi : i ≤ n) : Rw w x i k (cs.take (i * k)) := by
 have hm : i * k ≤ n * k := Nat.mul_le_mul_right k hi
 refine ⟨by rw [List.length_take, h.1]; omega, fun h0 => h.2.1 (by omega), fun u hu => h.2.2.1 u (List.mem_of_mem_take hu), fun ad hx j u hj => h.2.2.2 ad hx j u ?_⟩
 rw [List.getElem?_take] at hj
 split at hj
 ·exact hj
 ·cases hj
theorem Rw.drop {o : Nat} (h : Rw w (some ⟨b, o, none⟩) n k cs) (hi : i ≤ n) (hnc : n ≤ c) : Rw w (if c = i then some ⟨b, o, none⟩ else some ⟨b, o + i * k, none⟩) (n - i) k (cs.drop (i * k)) := by
 refine ⟨by rw [List.length_drop, h.1, Nat.sub_mul], fun _ => by split <;> simp, fun u hu => h.2.2.1 u (List.mem_of_mem_drop hu), fun ad hx j u hj => ?_⟩
 rw [List.getElem?_drop] at hj
 have hl := (List.getElem?_eq_some_iff.1 hj).1
 have hne : ¬ c = i := fun e => by
  have : n = i := by omega
  rw [h.1, this] at hl
  omega
 rw [if_neg hne] at hx
 cases hx
 have h2 := h.2.2.2 _ rfl (i * k + j) u hj
 rw [lM] at h2 ⊢
 rw [Nat.add_assoc]
 exact h2
theorem Rw.drop0 (h : Rw w x n k cs) (h0 : n = 0) : Rw w x 0 k (cs.drop (0 * k)) := by
 rw [Nat.zero_mul, List.drop_zero]
 exact h0 ▸ h
theorem gP (hT : Ty ty st k z y) {ops : Array Oper} {rest : List Oper} {o : Oper} {a : Act} {Q : Exit → Act → World → Prop} (hgd : o.guard = none) (s x : Operand)
  (ho : o.op = .call { callee := .builtin .append, args := #[s, x], argTypes := #[st, st] }) (base : Nat) (v : Value) (hs : a.eval s = v) (hO : w.ownsRow base ty k v n cs)
  (ad : Addr) (m c : Nat) (hx : a.eval x = .slice (some ad) m c) (hR : Rw w (some ad) m k ds) (hlen : n + m ≤ 1000000000) (hbase : base ≤ w.heap.size)
  (h : ∀ v' w', w'.ownsRow base ty k v' (n + m) (cs ++ ds) → w.grownBy w' v.ownBlock → wpList Tryz.prog ops Q rest (a.put o.dst v') w') : wpList Tryz.prog ops Q (o :: rest) a w := by
 obtain ⟨i0, hi, hz0, hz1, hz2⟩ := hT.info
 exact wpList_append_own w hgd s x st ho base ty i0 _ k y hT.und hi hz0 hz1 hz2 hT.zs hT.pos v n cs hs hO ad m c ds hx hR.1 (hR.2.2.2 ad rfl) hR.2.2.1 (by unfold maxLen; omega) (Nat.le_trans (Nat.mul_le_mul hlen hT.few) (by decide)) hbase fun v' w' h1 h2 _ => h v' w' h1 h2
theorem AR (hT : Ty ty st k z y) {p : Nat} (hO : w.ownsRow base ty k (.slice (some ⟨g, 0, none⟩) p cap) m cs) (n c : Nat) (hn : 0 < n) (hm : m + n ≤ cap) (t : TypeId) :
  ∃ w', (Builtin.clear_ #[st] t #[.slice (some ⟨g, m * k, none⟩) n c]).run Tryz.prog w = .ok (.tuple #[]) w' ∧ w'.ownsRow base ty k (.slice (some ⟨g, 0, none⟩) p cap) m cs ∧ w.grownBy w' (some g) := by
 obtain ⟨i0, hi, hz0, hz1, hz2⟩ := hT.info
 rcases hO.2 with ⟨hv, -⟩ | ⟨g', cap', cur, hv, h1, h2, h3, h4, h5, h6⟩
 ·simp at hv
 simp only [Value.slice.injEq, Option.some.injEq, Addr.mk.injEq] at hv
 obtain ⟨⟨rfl, -⟩, hpm, rfl⟩ := hv
 obtain rfl := hpm.symm
 obtain ⟨zs, hzs⟩ : ∃ zs, zs = (Builtin.zeroCells z.cells n).toList := ⟨_, rfl⟩
 have hzl : zs.length = n * k := by rw [hzs, Array.length_toList, size_zeroCells, hT.zs]
 have hz1 : ∀ v ∈ zs, v.oneCell' = true := by
  intro v hv
  rw [hzs] at hv
  simp [Builtin.zeroCells] at hv
  obtain ⟨j, -, rfl⟩ := hv
  have h8 : j % z.cells.size < z.cells.size := Nat.mod_lt _ (by rw [hT.zs]; exact hT.pos)
  refine hT.z1 _ ?_
  rw [getElem!_pos z.cells _ h8]
  exact Array.getElem_mem_toList h8
 have hmk : m * k + n * k ≤ cap * k := by rw [← Nat.add_mul]; exact Nat.mul_le_mul_right k hm
 have h5' : cur.toList.length = cap * k := by simpa using h5
 have hst := run_storeCells_at (P := Tryz.prog) g (m * k) ty zs 0 cur w h2 (by rw [hzl]; omega) hz1
 simp only [Nat.add_zero] at hst
 have hls : (cur.toList.take (m * k)).length = m * k := by rw [List.length_take, h5']; omega
 have hzr : ∀ W, (zeroValue ty).run Tryz.prog W = .ok z W := fun W => by simp [zeroValue, typeInfo, hi, hz0]
 refine ⟨w.setRow g (cur.toList.take (m * k) ++ zs ++ cur.toList.drop (m * k + zs.length)).toArray, ?_, ⟨hO.1, .inr ⟨g, cap, (cur.toList.take (m * k) ++ zs ++ cur.toList.drop (m * k + zs.length)).toArray, rfl, h1, setRow_heap w g cur _ _ _ h2, h3, h4, ?_, ?_⟩⟩, ?_⟩
 ·obtain ⟨k, rfl⟩ : ∃ k, n = k + 1 := ⟨n - 1, by omega⟩
  simp [Builtin.clear_, run_underlying hT.und, ← hzs, hst, hzr]
 ·simp only [List.size_toArray, List.length_append, hls, hzl, List.length_drop, h5']
  omega
 ·rw [List.append_assoc, List.take_append_of_le_length (by rw [hls]; exact Nat.le_refl _), List.take_of_length_le (by rw [hls]; exact Nat.le_refl _)]
  exact h6
 ·exact ⟨rfl, rfl, rfl, by simp, fun k _ hne => setRow_other w g k _ (fun e => hne (by rw [e]))⟩
theorem BW {E : Type} (fl : List E → List Value) (hl : ∀ es, (fl es).length = es.length * k) (ha : ∀ a b, fl (a ++ b) = fl a ++ fl b) (es : List E) (i : Nat) : fl (es.take i) = (fl es).take (i * k) := by
 by_cases hi : i ≤ es.length
 ·have h := ha (es.take i) (es.drop i)
  rw [List.take_append_drop] at h
  rw [h, List.take_left' (by rw [hl, List.length_take, Nat.min_eq_left hi])]
 ·rw [List.take_of_length_le (show es.length ≤ i by omega), List.take_of_length_le (by rw [hl]; exact Nat.mul_le_mul_right k (by omega))]
theorem IH {E : Type} (fl : List E → List Value) (hl : ∀ es, (fl es).length = es.length * k) (ha : ∀ a b, fl (a ++ b) = fl a ++ fl b) (es : List E) (i : Nat) (hi : i ≤ es.length) : fl (es.drop i) = (fl es).drop (i * k) := by
 have h := ha (es.take i) (es.drop i)
 rw [List.take_append_drop] at h
 rw [h, List.drop_left' (by rw [hl, List.length_take, Nat.min_eq_left hi])]
theorem kQ {E : Type} (fl : List E → List Value) (hl : ∀ es, (fl es).length = es.length * k) (ha : ∀ a b, fl (a ++ b) = fl a ++ fl b) {es : List E} {e : E} (hn : es.length = n) (hi : i ≤ n) (h : w.ownsRow base ty k v (i + 1 + (n - i)) ((fl es).take (i * k) ++ fl [e] ++ (fl es).drop (i * k))) : w.ownsRow base ty k v (es.take i ++ [e] ++ es.drop i).length (fl (es.take i ++ [e] ++ es.drop i)) := by
 subst hn
 rw [ha, ha, BW fl hl ha, IH fl hl ha es i hi]
 simp only [List.length_append, List.length_take, List.length_drop, List.length_cons, List.length_nil, Nat.min_eq_left hi, Nat.zero_add]
 exact h
theorem pC {E : Type} (fl : List E → List Value) (hl : ∀ es, (fl es).length = es.length * k) (ha : ∀ a b, fl (a ++ b) = fl a ++ fl b) {es : List E} {p j : Nat} (hn : es.length = p + 1) (hi : i ≤ p) (hj : j = i + 1) (h : w.ownsRow base ty k v p ((fl es).take (i * k) ++ (fl es).drop (j * k))) : w.ownsRow base ty k v (es.take i ++ es.drop j).length (fl (es.take i ++ es.drop j)) := by
 rw [ha, BW fl hl ha, IH fl hl ha es j (by omega), show (es.take i ++ es.drop j).length = p by rw [List.length_append, List.length_take, List.length_drop]; omega]
 exact h
theorem MW (hT : Ty ty st k z y) (n : Nat) (w : World) (h0 : 0 < n) (hn : n ≤ 1000) : ∃ G V, n ≤ G ∧ G ≤ maxLen ∧ Array.size V = G * k ∧ ∀ t, (Builtin.append_ #[st, 3] t #[.slice none 0 0, .int .i64 (n : Int)]).run Tryz.prog w = .ok (.slice (some ⟨w.heap.size, 0, none⟩) (0 + n) G) (w.drew.alloc (.cells V ty)) := by
 obtain ⟨i0, hi, hz0, hz1, hz2⟩ := hT.info
 have hf : n * y ≤ 1000 * 100 := Nat.mul_le_mul hn hT.few
 have hG := grownCap_le_maxLen w (0 + n) 0 ty (by unfold maxLen; omega)
 have hGn := grownCap_ge w (0 + n) 0 ty
 refine ⟨_, _, by omega, hG, ?_, fun t => Lib.run_append_grow_zeros w _ 3 t _ i0 _ .i64 .i64 hT.und under_int hi hz0 none 0 0 [] (run_firstCells_none w.drew i0.size 0 0 0) n h0 (by rw [hz1]; exact hT.pos) (by omega) (by omega) (by rw [hz2]; omega) (by rw [hz2]; exact growslice_fits (by omega) (by rw [Nat.zero_add]; omega))⟩
 simp only [Array.size_append, size_zeroCells, List.size_toArray, List.length_nil, hT.zs]
 rw [Nat.zero_add, ← Nat.add_mul]
 exact congrArg (· * k) (by omega)
theorem SI (h : w.ownsRow base ty k (.slice (some ⟨g, 0, none⟩) m cap) n cs) (h1 : ∀ u ∈ cs, u.oneCell' = true) : Rw w (some ⟨g, 0, none⟩) n k cs :=
 ⟨h.1, fun _ => by simp, h1, fun ad hx j u hj => by cases hx; exact World.ownsRow.cells h rfl j u hj⟩
theorem QD (hT : Ty ty st k z y) (hO : w.ownsRow base ty k (.slice (some ⟨g, 0, none⟩) (p + 1) cap) (p + 1) cs) (h1 : ∀ u ∈ cs, u.oneCell' = true) (hi : i ≤ p) (hj : j = i + 1) (hnc : p + 1 ≤ cap) :
  ∃ wa wb, (∀ q c', ((cap = j ∧ q = 0 ∧ c' = 0) ∨ (¬ cap = j ∧ q = j * k ∧ c' = cap - j)) → (Builtin.append_ #[st, st] st #[.slice (some ⟨g, 0, none⟩) i cap, .slice (some ⟨g, q, none⟩) (p + 1 - j) c']).run Tryz.prog w.drew = .ok (.slice (some ⟨g, 0, none⟩) p cap) wa) ∧
   (∀ t, (Builtin.clear_ #[st] t #[.slice (some ⟨g, p * k, none⟩) 1 (cap - p)]).run Tryz.prog wa = .ok (.tuple #[]) wb) ∧ wb.ownsRow base ty k (.slice (some ⟨g, 0, none⟩) p cap) p (cs.take (i * k) ++ cs.drop (j * k)) ∧ w.grownBy wb (some g) := by
 obtain ⟨i0, hi0, hz0, hz1, hz2⟩ := hT.info
 have hOi := jH (DO hO i (by omega)) (Below.refl _ _).drew
 have hR := (SI hO h1).later (Below.refl _ _).drew
 have hrun := hR.drop (i := j) (c := cap) (by omega) hnc
 have hik : i + (p + 1 - j) = p := by omega
 obtain ⟨wa, h4, h2, h3⟩ : ∃ wa, (∀ q c', ((cap = j ∧ q = 0 ∧ c' = 0) ∨ (¬ cap = j ∧ q = j * k ∧ c' = cap - j)) → (Builtin.append_ #[st, st] st #[.slice (some ⟨g, 0, none⟩) i cap, .slice (some ⟨g, q, none⟩) (p + 1 - j) c']).run Tryz.prog w.drew = .ok (.slice (some ⟨g, 0, none⟩) p cap) wa) ∧ wa.ownsRow base ty k (.slice (some ⟨g, 0, none⟩) p cap) p (cs.take (i * k) ++ cs.drop (j * k)) ∧ w.drew.grownBy wa (some g) := by
  by_cases hcj : cap = j
  ·rw [if_pos hcj] at hrun
   obtain ⟨wa, h1, h2, h3⟩ := run_append_own_spare (P := Tryz.prog) w.drew base st st ty i0 k hT.und hi0 hz1 g i cap _ hOi ⟨g, 0, none⟩ (p + 1 - j) 0 _ hrun.1 (hrun.2.2.2 _ rfl) hrun.2.2.1 (by omega)
   rw [hik] at h1 h2
   refine ⟨wa, fun q c' h => ?_, h2, h3⟩
   rcases h with ⟨-, rfl, rfl⟩ | ⟨h, -⟩
   ·exact h1
   ·exact absurd hcj h
  ·rw [if_neg hcj, Nat.zero_add] at hrun
   obtain ⟨wa, h1, h2, h3⟩ := run_append_own_spare (P := Tryz.prog) w.drew base st st ty i0 k hT.und hi0 hz1 g i cap _ hOi ⟨g, j * k, none⟩ (p + 1 - j) (cap - j) _ hrun.1 (hrun.2.2.2 _ rfl) hrun.2.2.1 (by omega)
   rw [hik] at h1 h2
   refine ⟨wa, fun q c' h => ?_, h2, h3⟩
   rcases h with ⟨h, -⟩ | ⟨-, rfl, rfl⟩
   ·exact absurd h hcj
   ·exact h1
 obtain ⟨wb, h5, h6, h7⟩ := AR hT h2 1 (cap - p) (by omega) (by omega) 0
 exact ⟨wa, wb, h4, fun t => h5, h6, ⟨h7.os.trans h3.os, h7.tape.trans h3.tape, h7.output.trans h3.output, Nat.le_trans h3.size h7.size, fun m hm hne => (h7.block m (Nat.lt_of_lt_of_le hm h3.size) hne).trans (h3.block m hm hne)⟩⟩
def rU (f ty st k : Nat) : Prop := ∀ z y, Ty ty st k z y → ∀ (n : Nat) (w : World), n ≤ 1000 → Calls Tryz.prog f #[.slice none 0 0, .int .i64 n] w fun e w' => ∃ v, e = .returned v ∧ Below w.heap.size w w' ∧ w'.ownsRow w.heap.size ty k v 0 []
theorem UW : rU 211 138 57 5 ∧ rU 208 59 23 9 ∧ rU 224 51 38 3 ∧ rU 215 78 39 4 ∧ rU 217 80 76 2 ∧ rU 219 3 42 1 ∧ rU 212 41 26 3 ∧ rU 197 93 27 2 := by
 refine ⟨?_, ?_, ?_, ?_, ?_, ?_, ?_, ?_⟩
 all_goals
  intro z y hT n w hn
  first | go_enter Tryz.func211, Tryz.ntmps211 | go_enter Tryz.func208, Tryz.ntmps208 | go_enter Tryz.func224, Tryz.ntmps224 | go_enter Tryz.func215, Tryz.ntmps215 | go_enter Tryz.func217, Tryz.ntmps217 | go_enter Tryz.func219, Tryz.ntmps219 | go_enter Tryz.func212, Tryz.ntmps212 | go_enter Tryz.func197, Tryz.ntmps197
  rcases Nat.eq_zero_or_pos n with rfl | h0
  ·go_wp2
   go_ret
   exact ⟨_, rfl, Below.refl _ _, World.ownsRow_nil _ _ _ _⟩
  ·obtain ⟨G, V, hGn, hG, hV, hrz⟩ := MW hT n w h0 hn
   have h1 : ¬ ((n : Int) < 0) := by omega
   have h4 : (n : Int) > 0 := by omega
   have hG63 : G ≤ 9223372036854775807 := by unfold maxLen at hG; omega
   go_wp2_with (at_builtin; refine Lib.wpList_append_run _ rfl _ _ _ _ rfl _ _ rfl rfl _ _ (hrz _) ?_)
   go_ret
   exact ⟨_, rfl, (bl1 w _).drew, (World.ownsRow_made w _ G (Nat.le_refl _) hG hV).drew⟩
def numTo (nl : Nat → Nat) : Nat → Nat
 | 0 => 0
 | j + 1 => numTo nl j + nl j
def rV (ql : Nat → List Value) : Nat → List Value
 | 0 => []
 | j + 1 => rV ql j ++ ql j
def jJ (f ty st k : Nat) : Prop := ∀ z y, Ty ty st k z y → ∀ (B p p' : Nat) (xl : Nat → Option Addr) (nl cl : Nat → Nat) (ql : Nat → List Value) (w : World), p ≤ 3 → (∀ j, j < p → w.cell? ⟨B, j, none⟩ = some (.slice (xl j) (nl j) (cl j))) → (∀ j, j < p → Rw w (xl j) (nl j) k (ql j)) → (∀ j, j < p → nl j ≤ 64) → (∀ j, j < p → xl j = none → nl j = 0 ∧ cl j = 0) →
  Calls Tryz.prog f #[.slice (some ⟨B, 0, none⟩) p p'] w fun e w' => ∃ v, e = .returned v ∧ Below w.heap.size w w' ∧ w'.ownsRow w.heap.size ty k v (numTo nl p) (rV ql p)
theorem kR : jJ 176 138 57 5 ∧ jJ 172 59 23 9 ∧ jJ 214 51 38 3 ∧ jJ 186 78 39 4 ∧ jJ 191 80 76 2 ∧ jJ 196 3 42 1 ∧ jJ 178 41 26 3 ∧ jJ 158 93 27 2 := by
 have hg := UW
 simp only [rU] at hg
 refine ⟨?_, ?_, ?_, ?_, ?_, ?_, ?_, ?_⟩
 all_goals
  intro z y hT B p p' xl nl cl ql w hk hc hp hn h0
  obtain ⟨i0, hi, hz0, hz1, hz2⟩ := hT.info
  have hlen : ∀ j, j ≤ p → numTo nl j ≤ 64 * j := by
   intro j
   induction j with
   | zero => intro _; simp [numTo]
   | succ j ih => intro hj; have h1 := ih (by omega); have h3 := hn j (by omega); simp only [numTo]; omega
  first | go_enter Tryz.func176, Tryz.ntmps176 | go_enter Tryz.func172, Tryz.ntmps172 | go_enter Tryz.func214, Tryz.ntmps214 | go_enter Tryz.func186, Tryz.ntmps186 | go_enter Tryz.func191, Tryz.ntmps191 | go_enter Tryz.func196, Tryz.ntmps196 | go_enter Tryz.func178, Tryz.ntmps178 | go_enter Tryz.func158, Tryz.ntmps158
  go_wp2
  go_loopw [11, 3] (fun i t wr => ∃ j : Nat, j ≤ p ∧ i = .int .i64 j ∧ t = .int .i64 (numTo nl j) ∧ wr = w) (fun i _ _ => p - (intOf i).toNat)
  case atStart => exact ⟨0, by omega, rfl, rfl, rfl⟩
  case round =>
   obtain ⟨j, hj, rfl, rfl, hw⟩ := hrel
   have hw' := hw.symm
   subst hw'
   clear hw
   have hl := hlen j hj
   by_cases hlt : j < p
   ·have hcj := hc j hlt
    have hl2 := hlen (j + 1) hlt
    have hnj := hn j hlt
    have hlt' := hlt
    have hneg : ¬ ((numTo nl j : Int) + (nl j : Int) < 0) := by omega
    go_wp2
    go_roundw
    case rel => exact ⟨j + 1, hlt', by go_num, by simp only [numTo]; go_num, trivial⟩
    case measure => simp [intOf]; omega
   ·obtain rfl : j = p := by omega
    go_wp2_with fail
    refine (Calls.mono (by first | exact hg.1 _ _ hT _ w (by omega) | exact hg.2.1 _ _ hT _ w (by omega) | exact hg.2.2.1 _ _ hT _ w (by omega) | exact hg.2.2.2.1 _ _ hT _ w (by omega) | exact hg.2.2.2.2.1 _ _ hT _ w (by omega) | exact hg.2.2.2.2.2.1 _ _ hT _ w (by omega) | exact hg.2.2.2.2.2.2.1 _ _ hT _ w (by omega) | exact hg.2.2.2.2.2.2.2 _ _ hT _ w (by omega)) ?_)
    rintro e w1 ⟨v0, rfl, hb1, hown1⟩
    go_wp2
    go_loopw [27, 6] (fun i v wq => ∃ q : Nat, q ≤ j ∧ i = .int .i64 q ∧ Below w.heap.size w wq ∧ wq.ownsRow w.heap.size _ _ v (numTo nl q) (rV ql q)) (fun i _ _ => j - (intOf i).toNat)
    case atStart => exact ⟨0, by omega, rfl, hb1, hown1⟩
    case round =>
     obtain ⟨q, hq, rfl, hB, hown⟩ := hrel
     by_cases hlt2 : q < j
     ·have hcq := cell_later hB (hc q hlt2)
      have hpq := (hp q hlt2).later hB
      have hlq := hlen q hq
      have hnq := hn q hlt2
      have hlt3 := hlt2
      have hsz := hB.size
      cases hxq : xl q with
      | none =>
       obtain ⟨hn0, hc0⟩ := h0 q hlt2 hxq
       rw [hxq, hn0, hc0] at hcq
       have hq0 : ql q = [] := List.eq_nil_of_length_eq_zero (by rw [hpq.1, hn0, Nat.zero_mul])
       go_wp2_with (at_builtin; refine wpList_append_own_none rfl _ _ _ rfl w.heap.size _ i0 _ hT.und hi _ _ _ rfl hown rfl ?_)
       go_roundw
       case rel => exact ⟨q + 1, hlt3, by go_num, hB, by simp only [numTo, rV, hq0, hn0, List.append_nil]; exact hown⟩
       case measure => simp [intOf]; omega
      | some ad =>
       rw [hxq] at hcq hpq
       go_wp2_with (at_builtin; refine Hid.out ?_)
       unfold Hid
       refine gP hT rfl _ _ rfl w.heap.size _ rfl hown ad (nl q) (cl q) rfl hpq (by omega) hsz ?_
       intro v' w2 hown2 hgrow
       have hB2 := dQ hB hgrow (fun k e => (World.ownsRow.lt hown k e).1)
       go_wp2
       go_roundw
       case rel => exact ⟨q + 1, hlt3, by go_num, hB2, hown2⟩
       case measure => simp [intOf]; omega
     ·obtain rfl : q = j := by omega
      go_wp2
      go_ret
      exact ⟨_, rfl, hB, hown⟩
def nV (f ty st k : Nat) : Prop := ∀ z y, Ty ty st k z y → ∀ (x : Option Addr) (n c : Nat) (cs : List Value) (w : World), Rw w x n k cs → n ≤ 1048576 →
  Calls Tryz.prog f #[.slice x n c] w fun e w' => ∃ v, e = .returned v ∧ w'.ownsRow w.heap.size ty k v n cs ∧ Below w.heap.size w w'
theorem nW : nV 78 138 57 5 ∧ nV 77 59 23 9 ∧ nV 123 51 38 3 ∧ nV 124 78 39 4 ∧ nV 169 80 76 2 ∧ nV 170 3 42 1 ∧ nV 79 41 26 3 ∧ nV 80 93 27 2 := by
 refine ⟨?_, ?_, ?_, ?_, ?_, ?_, ?_, ?_⟩
 all_goals
  intro z y hT x n c cs w hR hn
  have hq := fun W => Lib.run_eql_slice_nil (P := Tryz.prog) W _ _ x n c 0 0 hT.und
  first | go_enter Tryz.func78, Tryz.ntmps78 | go_enter Tryz.func77, Tryz.ntmps77 | go_enter Tryz.func123, Tryz.ntmps123 | go_enter Tryz.func124, Tryz.ntmps124 | go_enter Tryz.func169, Tryz.ntmps169 | go_enter Tryz.func170, Tryz.ntmps170 | go_enter Tryz.func79, Tryz.ntmps79 | go_enter Tryz.func80, Tryz.ntmps80
  cases x with
  | none =>
   obtain rfl : n = 0 := by
    rcases Nat.eq_zero_or_pos n with h | h
    ·exact h
    ·exact absurd rfl (hR.2.1 h)
   obtain rfl : cs = [] := List.eq_nil_of_length_eq_zero (by rw [hR.1, Nat.zero_mul])
   simp only [Option.isNone_none] at hq
   go_wp2
   go_ret
   exact ⟨_, rfl, World.ownsRow_nil _ _ _ _, Below.refl _ _⟩
  | some ad =>
   simp only [Option.isNone_some] at hq
   go_wp2_with (at_builtin; refine Hid.out ?_)
   unfold Hid
   refine gP hT (n := 0) (cs := []) rfl _ _ rfl w.heap.size _ rfl ⟨by simp, .inr ⟨w.heap.size, 0, #[], rfl, Nat.le_refl _, aC _ rfl, by simp, by unfold maxLen; omega, by simp, by simp⟩⟩ ad n c rfl (hR.later (bl1 w _)) (by omega) (by simp) ?_
   intro v' w' hO' hg
   have hB := dQ (bl1 w _) hg (fun k e => by cases e; exact Nat.le_refl _)
   rw [Nat.zero_add, List.nil_append] at hO'
   go_wp2
   go_ret
   exact ⟨_, rfl, hO', hB⟩
def pD (f ty st k : Nat) : Prop := ∀ z y, Ty ty st k z y → ∀ (base g p cap i j : Nat) (cs : List Value) (w : World), w.ownsRow base ty k (.slice (some ⟨g, 0, none⟩) (p + 1) cap) (p + 1) cs → (∀ u ∈ cs, u.oneCell' = true) → i ≤ p → j = i + 1 → p ≤ 64 → p + 1 ≤ cap → cap ≤ 9223372036854775807 →
  Calls Tryz.prog f #[.slice (some ⟨g, 0, none⟩) (p + 1) cap, .int .i64 i, .int .i64 j] w fun e w' => e = .returned (.slice (some ⟨g, 0, none⟩) p cap) ∧ w'.ownsRow base ty k (.slice (some ⟨g, 0, none⟩) p cap) p (cs.take (i * k) ++ cs.drop (j * k)) ∧ w.grownBy w' (some g)
theorem pF : pD 132 138 57 5 ∧ pD 91 59 23 9 ∧ pD 142 51 38 3 ∧ pD 148 78 39 4 ∧ pD 156 80 76 2 ∧ pD 109 93 27 2 := by
 refine ⟨?_, ?_, ?_, ?_, ?_, ?_⟩
 all_goals
  intro z y hT base g p cap i j cs w hO h1 hi hj hn64 hnc hcm
  obtain ⟨wa, wb, hap, hcl, hOb, hgb⟩ := QD hT hO h1 hi hj hnc
  have b1 : (0 : Int) ≤ i := by omega
  have b2 : (0 : Int) ≤ j := by omega
  have b3 : (i : Int) ≤ j := by omega
  have b4 : (j : Int) ≤ (p : Int) + 1 := by omega
  have b5 : (p : Int) + 1 ≤ cap := by omega
  have b6 : ¬ (i : Int) = j := by omega
  have b7 : (i : Int) ≤ cap := by omega
  have b8 : (p : Int) ≤ (p : Int) + 1 := by omega
  have c1 : i ≤ j := by omega
  have c2 : j ≤ p + 1 := by omega
  have c3 : i ≤ cap := by omega
  have c4 : ¬ i = j := by omega
  have c5 : ¬ cap = p := by omega
  have hij : Hid (j = i + 1) := hj
  clear hO hT h1 hj
  by_cases hcj : cap = j
  ·have hap1 := hap 0 0 (.inl ⟨hcj, rfl, rfl⟩)
   clear hap
   obtain rfl : i = p := by have := hij.out; omega
   obtain rfl : cap = i + 1 := by have := hij.out; omega
   obtain rfl : j = i + 1 := hcj.symm
   clear hij hcj b1 b2 b3 b4 b5 b6 b7 b8 c1 c2 c3 c4 c5
   rw [show i + 1 - (i + 1) = 0 by omega] at hap1
   simp [go_sem] at hap1
   rw [show i + 1 - i = 1 by omega] at hcl
   subst hap1
   first | go_enter Tryz.func132, Tryz.ntmps132 | go_enter Tryz.func91, Tryz.ntmps91 | go_enter Tryz.func142, Tryz.ntmps142 | go_enter Tryz.func148, Tryz.ntmps148 | go_enter Tryz.func156, Tryz.ntmps156 | go_enter Tryz.func109, Tryz.ntmps109
   go_upto_region 5 with fail
   go_region_with fail
   all_goals go_wp2
   all_goals go_ret
   all_goals exact ⟨rfl, hOb, hgb⟩
  ·have hap1 := hap _ _ (.inr ⟨hcj, rfl, rfl⟩)
   have hcj' : ¬ j = cap := fun h => hcj h.symm
   clear hap
   simp [go_sem] at hap1
   first | go_enter Tryz.func132, Tryz.ntmps132 | go_enter Tryz.func91, Tryz.ntmps91 | go_enter Tryz.func142, Tryz.ntmps142 | go_enter Tryz.func148, Tryz.ntmps148 | go_enter Tryz.func156, Tryz.ntmps156 | go_enter Tryz.func109, Tryz.ntmps109
   go_upto_region 5 with fail
   go_region_with fail
   all_goals go_wp2
   all_goals go_ret
   all_goals exact ⟨rfl, hOb, hgb⟩
theorem iL (hC : jJ f ty st k) (hT : Ty ty st k z y) (x1 x3 : Option Addr) (n1 c1 n3 c3 : Nat) (q1 q3 : List Value) (ca : Array Value) (w : World) (ha : ca.size = k) (ha1 : ∀ u ∈ ca.toList, u.oneCell' = true) (h1 : Rw w x1 n1 k q1) (h3 : Rw w x3 n3 k q3) (b1 : n1 ≤ 64) (b3 : n3 ≤ 64) (z1 : x1 = none → n1 = 0 ∧ c1 = 0) (z3 : x3 = none → n3 = 0 ∧ c3 = 0) :
  Calls Tryz.prog f #[.slice (some ⟨w.heap.size + 1, 0, none⟩) 3 3] ((w.alloc (.cells ca ty)).alloc (.cells #[.slice x1 n1 c1, .slice (some ⟨w.heap.size, 0, none⟩) 1 1, .slice x3 n3 c3] st)).drew fun r w' =>
   ∃ v, r = .returned v ∧ Below w.heap.size w w' ∧ w'.ownsRow (w.heap.size + 2) ty k v (n1 + 1 + n3) (q1 ++ ca.toList ++ q3) := by
 obtain ⟨W, hW⟩ : ∃ W, W = ((w.alloc (.cells ca ty)).alloc (.cells #[.slice x1 n1 c1, .slice (some ⟨w.heap.size, 0, none⟩) 1 1, .slice x3 n3 c3] st)).drew := ⟨_, rfl⟩
 have hB : Below w.heap.size w W := by rw [hW]; exact (cB w _ _).drew
 have g0 : W.heap[w.heap.size]? = some (.cells ca ty) := by rw [hW]; exact aF _ (aC _ rfl)
 have g1 : W.heap[w.heap.size + 1]? = some (.cells #[.slice x1 n1 c1, .slice (some ⟨w.heap.size, 0, none⟩) 1 1, .slice x3 n3 c3] st) := by rw [hW]; exact aC _ (by simp)
 have hs : W.heap.size = w.heap.size + 2 := by rw [hW]; simp
 rw [← hW]
 clear hW
 have hp2 : Rw W (some ⟨w.heap.size, 0, none⟩) 1 k ca.toList := ⟨by rw [Array.length_toList, ha, Nat.one_mul], fun _ => by simp, ha1, fun ad hx j u hj => by
  cases hx
  rw [lM, Nat.zero_add]
  simpa [World.cell?, g0] using hj⟩
 refine (hC z y hT (w.heap.size + 1) 3 3 (fun j => if j = 0 then x1 else if j = 1 then some ⟨w.heap.size, 0, none⟩ else x3) (fun j => if j = 0 then n1 else if j = 1 then 1 else n3) (fun j => if j = 0 then c1 else if j = 1 then 1 else c3) (fun j => if j = 0 then q1 else if j = 1 then ca.toList else q3) W (by omega) ?_ ?_ ?_ ?_).mono ?_
 ·intro j hj
  rcases j with _ | _ | _ | j
  ·simp [World.cell?, g1]
  ·simp [World.cell?, g1]
  ·simp [World.cell?, g1]
  ·omega
 ·intro j hj
  rcases j with _ | _ | _ | j
  ·simpa using h1.later hB
  ·simpa using hp2
  ·simpa using h3.later hB
  ·omega
 ·intro j hj
  rcases j with _ | _ | _ | j
  ·simpa using b1
  ·simp
  ·simpa using b3
  ·omega
 ·intro j hj
  rcases j with _ | _ | _ | j
  ·simpa using z1
  ·simp
  ·simpa using z3
  ·omega
 ·rintro r w' ⟨v, rfl, hb, hown⟩
  rw [hs] at hown
  simp only [numTo, rV] at hown
  exact ⟨v, rfl, hB.trans (hb.mono (by omega)), by simpa using hown⟩
def QE (n : Nat) (F : Nat → Bool) (w : World) (e : Ending) (w' : World) : Prop := (∃ r : Int, e = .returned (.int .i64 r) ∧ ((∃ i : Nat, i < n ∧ F i = true ∧ (∀ j, j < i → F j = false) ∧ r = i) ∨ ((∀ j, j < n → F j = false) ∧ r = -1))) ∧ Below w.heap.size w w'
def VW (n ty k : Nat) (F : Nat → Bool) (q ce : List Value) (w : World) (r : Ending) (w' : World) : Prop :=
 ∃ v, r = .returned v ∧ Below w.heap.size w w' ∧ ∃ i, i ≤ n ∧ (∀ j, j < i → F j = false) ∧ (i < n → F i = true) ∧ w'.ownsRow w.heap.size ty k v (i + 1 + (n - i)) (q.take (i * k) ++ ce ++ q.drop (i * k))
def DP (f f1 ix tb ty st k : Nat) {E : Type} (ca : E → Array Value) (ev : E → Value) : Prop := ∀ z y, Ty ty st k z y → ∀ (e : E) (x : Option Addr) (n c bf nb b1 : Nat) (q : List Value) (F : Nat → Bool) (w : World), Rw w x n k q → (∀ u ∈ (ca e).toList, u.oneCell' = true) → n ≤ 32 → n ≤ c → c ≤ 9223372036854775807 → ((x = none ∧ c = 0) ∨ ∃ b o, x = some ⟨b, o, none⟩) →
  Calls Tryz.prog ix #[.slice x n c, .func (.func f1) #[] #[.pointer (some ⟨w.heap.size, 0, none⟩), .pointer (some ⟨w.heap.size + 1, 0, none⟩)]] ((w.alloc (.cells (ca e) ty)).alloc (.cells #[.slice (some ⟨bf, 0, none⟩) nb b1] tb)) (QE n F ((w.alloc (.cells (ca e) ty)).alloc (.cells #[.slice (some ⟨bf, 0, none⟩) nb b1] tb))) →
  Calls Tryz.prog f #[.slice x n c, ev e, .slice (some ⟨bf, 0, none⟩) nb b1] w (VW n ty k F q (ca e).toList w)
theorem DQ : DP 129 174 131 226 138 57 5 (fun e : Le => #[.int .i64 e.a, .int .i64 e.l, .int .i64 e.kd, .int .i64 e.ow, .int .i64 e.un]) (fun e => .agg #[.int .i64 e.a, .int .i64 e.l, .int .i64 e.kd, .int .i64 e.ow, .int .i64 e.un]) ∧ DP 127 171 120 182 59 23 9 (fun e : Po => #[.int .i64 e.id, .int .i64 e.up, .int .i64 e.a, .int .i64 e.l, .int .i64 e.mn, .int .i64 e.mx, .int .i64 e.us, .int .i64 e.co, .slice e.x e.n e.c]) (fun e => .agg #[.int .i64 e.id, .int .i64 e.up, .int .i64 e.a, .int .i64 e.l, .int .i64 e.mn, .int .i64 e.mx, .int .i64 e.us, .int .i64 e.co, .slice e.x e.n e.c]) ∧ DP 179 213 138 250 51 38 3 (fun e : Rg => #[.int .i64 e.a, .int .i64 e.l, .int .i64 e.p]) (fun e => .agg #[.int .i64 e.a, .int .i64 e.l, .int .i64 e.p]) ∧ DP 146 184 180 232 78 39 4 (fun e : Sb => #[.int .i64 e.id, .int .i64 e.a, .int .i64 e.l, .slice e.x e.n e.c]) (fun e => .agg #[.int .i64 e.id, .int .i64 e.a, .int .i64 e.l, .slice e.x e.n e.c]) ∧ DP 150 189 188 236 80 76 2 (fun e : Fc => #[.int .i64 e.id, .slice e.x e.n e.c]) (fun e => .agg #[.int .i64 e.id, .slice e.x e.n e.c]) ∧ DP 154 194 193 243 3 42 1 (fun e : Int => #[.int .i64 e]) (fun e => .int .i64 e) ∧ DP 136 177 33 174 41 26 3 (fun e : Vn => #[.int .i64 e.id, .slice e.rx e.rn e.rc, .slice e.sx e.sn e.sc]) (fun e => .agg #[.int .i64 e.id, .slice e.rx e.rn e.rc, .slice e.sx e.sn e.sc]) ∧ DP 107 157 115 177 93 27 2 (fun e : Int × Int => #[.int .i64 e.1, .int .i64 e.2]) (fun e => .agg #[.int .i64 e.1, .int .i64 e.2]) := by
 refine ⟨?_, ?_, ?_, ?_, ?_, ?_, ?_, ?_⟩
 all_goals
  intro z y hT e x n c bf nb b1 q F w hR hone hn hnc hc63 hx hI
  first | go_enter Tryz.func129, Tryz.ntmps129 | go_enter Tryz.func127, Tryz.ntmps127 | go_enter Tryz.func179, Tryz.ntmps179 | go_enter Tryz.func146, Tryz.ntmps146 | go_enter Tryz.func150, Tryz.ntmps150 | go_enter Tryz.func154, Tryz.ntmps154 | go_enter Tryz.func136, Tryz.ntmps136 | go_enter Tryz.func107, Tryz.ntmps107
  go_wp2_with fail
  refine hI.mono ?_
  rintro e' w1 ⟨⟨r, rfl, hr⟩, hb1⟩
  have hB := (cB w _ _).trans (hb1.mono (by simp; omega))
  have e0 := fun i => hb1.cell (p := ⟨w.heap.size, i, none⟩) (by show w.heap.size < _; simp; omega)
  simp at e0
  have hi : ∃ i : Nat, i ≤ n ∧ (∀ j, j < i → F j = false) ∧ (i < n → F i = true) ∧ ((r = i ∧ i < n ∧ ¬ r < 0) ∨ (r = -1 ∧ i = n)) := by
   rcases hr with ⟨i, hi, hf, hno, rfl⟩ | ⟨hno, rfl⟩
   ·exact ⟨i, by omega, hno, fun _ => hf, .inl ⟨rfl, hi, by omega⟩⟩
   ·exact ⟨n, by omega, hno, fun h => by omega, .inr ⟨rfl, rfl⟩⟩
  obtain ⟨i, hin, hlow, hup, hri⟩ := hi
  have hRw := hR.later hB
  clear hr hI hb1 hR
  first | have hcc := fun x1 x3 n1 c1 n3 c3 q1 q3 => iL kR.1 hT x1 x3 n1 c1 n3 c3 q1 q3 _ w1 rfl hone | have hcc := fun x1 x3 n1 c1 n3 c3 q1 q3 => iL kR.2.1 hT x1 x3 n1 c1 n3 c3 q1 q3 _ w1 rfl hone | have hcc := fun x1 x3 n1 c1 n3 c3 q1 q3 => iL kR.2.2.1 hT x1 x3 n1 c1 n3 c3 q1 q3 _ w1 rfl hone | have hcc := fun x1 x3 n1 c1 n3 c3 q1 q3 => iL kR.2.2.2.1 hT x1 x3 n1 c1 n3 c3 q1 q3 _ w1 rfl hone | have hcc := fun x1 x3 n1 c1 n3 c3 q1 q3 => iL kR.2.2.2.2.1 hT x1 x3 n1 c1 n3 c3 q1 q3 _ w1 rfl hone | have hcc := fun x1 x3 n1 c1 n3 c3 q1 q3 => iL kR.2.2.2.2.2.1 hT x1 x3 n1 c1 n3 c3 q1 q3 _ w1 rfl hone | have hcc := fun x1 x3 n1 c1 n3 c3 q1 q3 => iL kR.2.2.2.2.2.2.1 hT x1 x3 n1 c1 n3 c3 q1 q3 _ w1 rfl hone | have hcc := fun x1 x3 n1 c1 n3 c3 q1 q3 => iL kR.2.2.2.2.2.2.2 hT x1 x3 n1 c1 n3 c3 q1 q3 _ w1 rfl hone
  have hlt : w.heap.size < w1.heap.size := by have := hB.size; have := World.block_lt_of_cell? w1 ⟨w.heap.size, 0, none⟩ (e0 0); exact this
  have e1 := fun (u : Ws w1.heap.size w1) i => (u.property.cell (p := ⟨w.heap.size, i, none⟩) hlt).trans (e0 i)
  clear e0
  rcases hx with ⟨rfl, rfl⟩ | ⟨b, o, rfl⟩
  focus
   obtain rfl : n = 0 := by omega
   obtain rfl : i = 0 := by omega
   rcases hri with ⟨-, h, -⟩ | ⟨rfl, -⟩
   ·omega
   have hfin := hcc none none 0 0 0 0 _ _ (hRw.take (i := 0) (by omega)) (hRw.drop0 rfl) (by omega) (by omega) (fun _ => ⟨rfl, rfl⟩) (fun _ => ⟨rfl, rfl⟩)
  rotate_left
  focus
   have hR3 := hRw.drop (i := i) (c := c) hin hnc
   have hcd := fun (x3 : Option Addr) (m : Nat) (hm : n - i = m) (h : (if c = i then some (⟨b, o, none⟩ : Addr) else some ⟨b, o + i * _, none⟩) = x3) => hcc (some ⟨b, o, none⟩) x3 i c m (c - i) _ _ (hRw.take hin) (hm ▸ h ▸ hR3) (by omega) (by omega) (fun h => by cases h) (fun h' => by rw [← h] at h'; split at h' <;> cases h')
   rcases hri with ⟨rfl, hil, hneg⟩ | ⟨rfl, hi2⟩
   focus
    have hic : ¬ c = i := by omega
    have hic' : i ≤ c := by omega
    have hfin := hcd _ _ rfl (if_neg hic)
   rotate_left
   focus
    subst hi2
    by_cases hcn : c = i
    focus
     have hfin := hcd _ 0 (Nat.sub_self _) (if_pos hcn)
     subst hcn
     rw [Nat.sub_self] at hfin
    rotate_left
    have hfin := hcd _ 0 (Nat.sub_self _) (if_neg hcn)
  all_goals
   try clear hcd hR3
   clear hcc
   try simp only [Nat.mul_one] at hfin
   go_wp2_with fail
   refine bQ (fun w' => ∃ u : Ws w1.heap.size w1, w' = u.val) (fun j => decide (j < 8)) 11 _ (by kernel_rfl) rfl rfl ?_
   refine aZ 4 [0, 1, 2, 3, 5, 6, 7] rfl _ rfl (by kernel_rfl) (fun d _ _ _ _ h => by cases d <;> exact h) ⟨⟨_, (Below.refl _ _).drew⟩, rfl⟩ ?_
   simp only [List.map_cons, List.map_nil, List.getD_cons_zero, List.getD_cons_succ]
   repeat (go_big_quiet_step (fail))
   refine wpQuiet_nil ?_
   refine aW 4 _ _ (by kernel_rfl) (by kernel_rfl) rfl rfl ?_
   intro K hK
   simp only [List.getD_cons_zero, List.getD_cons_succ]
   go_wp2_with fail
   refine aD (hK.out _ _ ⟨⟨_, (bl1 w1 _).drew⟩, rfl⟩ ?_)
   clear hK K
   refine aY [8, 9, 10] rfl (by kernel_rfl) ?_
   simp only [List.map_cons, List.map_nil, List.getD_cons_zero, List.getD_cons_succ]
   go_wp2_with fail
   refine hfin.mono ?_
   rintro e' w2 ⟨v2, rfl, hb2, hps⟩
   go_wp2
   go_ret
   exact ⟨_, rfl, hB.trans (hb2.mono hB.size), _, hin, hlow, hup, by simpa using jI hps (by have := hB.size; omega)⟩
def SJ (f : Nat) {E : Type} (ca : E → Array Value) (key : E → Int) : Prop := (∀ p w, Calls Tryz.prog f #[.agg (ca p)] w fun e w' => e = .returned (.int .i64 (key p)) ∧ Below w.heap.size w w') ∧ ∀ args W, (callFunc f args).run Tryz.prog W = .ok (.enter f args) W
theorem UP : SJ 130 (fun e : Le => #[.int .i64 e.a, .int .i64 e.l, .int .i64 e.kd, .int .i64 e.ow, .int .i64 e.un]) (·.a) ∧ SJ 67 (fun e : Po => #[.int .i64 e.id, .int .i64 e.up, .int .i64 e.a, .int .i64 e.l, .int .i64 e.mn, .int .i64 e.mx, .int .i64 e.us, .int .i64 e.co, .slice e.x e.n e.c]) (·.id) ∧ SJ 164 (fun e : Rg => #[.int .i64 e.a, .int .i64 e.l, .int .i64 e.p]) (·.a) ∧ SJ 147 (fun e : Sb => #[.int .i64 e.id, .int .i64 e.a, .int .i64 e.l, .slice e.x e.n e.c]) (·.id) ∧ SJ 151 (fun e : Fc => #[.int .i64 e.id, .slice e.x e.n e.c]) (·.id) ∧ SJ 56 (fun e : Vn => #[.int .i64 e.id, .slice e.rx e.rn e.rc, .slice e.sx e.sn e.sc]) (·.id) := by
 refine ⟨?_, ?_, ?_, ?_, ?_, ?_⟩
 all_goals
  refine ⟨fun p w => ?_, fun args W => by simp [go_sem]⟩
  first | go_enter Tryz.func130, Tryz.ntmps130 | go_enter Tryz.func67, Tryz.ntmps67 | go_enter Tryz.func164, Tryz.ntmps164 | go_enter Tryz.func147, Tryz.ntmps147 | go_enter Tryz.func151, Tryz.ntmps151 | go_enter Tryz.func56, Tryz.ntmps56
  go_wp2
  go_ret
  exact ⟨rfl, bl1 _ _⟩
def JP (f g : Nat) {E : Type} (ca : E → Array Value) (key : E → Int) : Prop := SJ g ca key → ∀ (p r : E) (v : Int), zM (key p) (key r) v → ∀ (bb kk : Nat) (w : World), w.cell? ⟨bb, 0, none⟩ = some (.func (.func g) #[] #[]) → Calls Tryz.prog f #[.agg (ca p), .agg (ca r), .slice (some ⟨bb, 0, none⟩) 1 kk] w fun e w' => e = .returned (.int .i64 v) ∧ Below w.heap.size w w'
theorem JQ : JP 175 130 (fun e : Le => #[.int .i64 e.a, .int .i64 e.l, .int .i64 e.kd, .int .i64 e.ow, .int .i64 e.un]) (·.a) ∧ JP 119 67 (fun e : Po => #[.int .i64 e.id, .int .i64 e.up, .int .i64 e.a, .int .i64 e.l, .int .i64 e.mn, .int .i64 e.mx, .int .i64 e.us, .int .i64 e.co, .slice e.x e.n e.c]) (·.id) ∧ JP 202 164 (fun e : Rg => #[.int .i64 e.a, .int .i64 e.l, .int .i64 e.p]) (·.a) ∧ JP 185 147 (fun e : Sb => #[.int .i64 e.id, .int .i64 e.a, .int .i64 e.l, .slice e.x e.n e.c]) (·.id) ∧ JP 190 151 (fun e : Fc => #[.int .i64 e.id, .slice e.x e.n e.c]) (·.id) ∧ JP 110 56 (fun e : Vn => #[.int .i64 e.id, .slice e.rx e.rn e.rc, .slice e.sx e.sn e.sc]) (·.id) := by
 refine ⟨?_, ?_, ?_, ?_, ?_, ?_⟩
 all_goals
  intro ⟨hby, hcall⟩ p r v hv bb kk w hb9
  first | go_enter Tryz.func175, Tryz.ntmps175 | go_enter Tryz.func119, Tryz.ntmps119 | go_enter Tryz.func202, Tryz.ntmps202 | go_enter Tryz.func185, Tryz.ntmps185 | go_enter Tryz.func190, Tryz.ntmps190 | go_enter Tryz.func110, Tryz.ntmps110
  go_wp2
  go_loopw [12] (fun i wr => ∃ j : Nat, (j = 0 ∨ (j = 1 ∧ v = 0)) ∧ i = .int .i64 j ∧ Below (w.heap.size + 1 + 1) ((w.alloc _).alloc _) wr) (fun i _ => 1 - (intOf i).toNat)
  case atStart => exact ⟨0, .inl rfl, rfl, Below.refl _ _⟩
  case round =>
   obtain ⟨j, hj, rfl, hB⟩ := hrel
   rcases hj with rfl | ⟨rfl, hv0⟩
   ·have hz := hB.size
    simp only [World.size_alloc] at hz
    have hbl : bb < w.heap.size := block_lt_of_cell hb9
    have e0 := fun i => hB.cell (p := ⟨w.heap.size, i, none⟩) (by show w.heap.size < _; omega)
    have f0 := fun i => hB.cell (p := ⟨w.heap.size + 1, i, none⟩) (by show w.heap.size + 1 < _; omega)
    simp at e0 f0
    have e9 := (hB.cell (p := ⟨bb, 0, none⟩) (by show bb < _; omega)).trans (cell_later (cB w _ _) hb9)
    have g0 := fun (u : Ws wr.heap.size wr) i => (u.property.cell (p := ⟨w.heap.size, i, none⟩) (by show w.heap.size < _; omega)).trans (e0 i)
    have k0 := fun (u : Ws wr.heap.size wr) i => (u.property.cell (p := ⟨w.heap.size + 1, i, none⟩) (by show w.heap.size + 1 < _; omega)).trans (f0 i)
    go_upto_region 4 with fail
    clear e0 f0 e9
    refine aI wr.heap.size (by kernel_rfl) (by kernel_rfl) ?_
    repeat (go_big_quiet_step (first | (go_at_call 159; exact Calls.in_ws_same (xC _ _ _ hv _)) | (go_at_call 130; exact Calls.in_ws (Nat.le_refl _) (hby _ _)) | (go_at_call 67; exact Calls.in_ws (Nat.le_refl _) (hby _ _)) | (go_at_call 164; exact Calls.in_ws (Nat.le_refl _) (hby _ _)) | (go_at_call 147; exact Calls.in_ws (Nat.le_refl _) (hby _ _)) | (go_at_call 151; exact Calls.in_ws (Nat.le_refl _) (hby _ _)) | (go_at_call 56; exact Calls.in_ws (Nat.le_refl _) (hby _ _))))
    refine wpQuiet_nil ?_
    rintro _ ⟨u, rfl⟩
    have hu := hB.trans (u.property.mono hz)
    generalize u.val = wu at hu ⊢
    clear u g0 k0
    rcases hv with ⟨h, rfl⟩ | ⟨h, rfl⟩ | ⟨h, rfl⟩
    ·go_wp2
     go_ret
     exact ⟨rfl, (cB w _ _).trans (hu.mono (by omega))⟩
    ·go_wp2
     go_roundw
     case rel => exact ⟨1, .inr ⟨rfl, trivial⟩, by go_num, hu⟩
     case measure => simp [intOf]
    ·go_wp2
     go_ret
     exact ⟨rfl, (cB w _ _).trans (hu.mono (by omega))⟩
   ·subst hv0
    go_wp2
    go_ret
    exact ⟨rfl, (cB w _ _).trans (hB.mono (by omega))⟩
def uZ (f fc : Nat) {E : Type} (ca : E → Array Value) (ev : E → Value) : Prop := (∀ (p r : E) (v : Int) (bp bb bf nb k : Nat) (w : World), (∀ i, w.cell? ⟨bp, i, none⟩ = (ca p)[i]?) → w.cell? ⟨bb, 0, none⟩ = some (.slice (some ⟨bf, 0, none⟩) nb k) → (∀ W, Below w.heap.size w W → Calls Tryz.prog fc #[ev p, ev r, .slice (some ⟨bf, 0, none⟩) nb k] W fun e w' => e = .returned (.int .i64 v) ∧ Below W.heap.size W w') →
  Calls Tryz.prog f #[ev r, .pointer (some ⟨bp, 0, none⟩), .pointer (some ⟨bb, 0, none⟩)] w fun e w' => e = .returned (.bool (decide (v < 0))) ∧ Below w.heap.size w w') ∧ ∀ args W, (callFunc f args).run Tryz.prog W = .ok (.enter f args) W
theorem jA : uZ 174 175 (fun e : Le => #[.int .i64 e.a, .int .i64 e.l, .int .i64 e.kd, .int .i64 e.ow, .int .i64 e.un]) (fun e => .agg #[.int .i64 e.a, .int .i64 e.l, .int .i64 e.kd, .int .i64 e.ow, .int .i64 e.un]) ∧ uZ 171 119 (fun e : Po => #[.int .i64 e.id, .int .i64 e.up, .int .i64 e.a, .int .i64 e.l, .int .i64 e.mn, .int .i64 e.mx, .int .i64 e.us, .int .i64 e.co, .slice e.x e.n e.c]) (fun e => .agg #[.int .i64 e.id, .int .i64 e.up, .int .i64 e.a, .int .i64 e.l, .int .i64 e.mn, .int .i64 e.mx, .int .i64 e.us, .int .i64 e.co, .slice e.x e.n e.c]) ∧ uZ 213 202 (fun e : Rg => #[.int .i64 e.a, .int .i64 e.l, .int .i64 e.p]) (fun e => .agg #[.int .i64 e.a, .int .i64 e.l, .int .i64 e.p]) ∧ uZ 184 185 (fun e : Sb => #[.int .i64 e.id, .int .i64 e.a, .int .i64 e.l, .slice e.x e.n e.c]) (fun e => .agg #[.int .i64 e.id, .int .i64 e.a, .int .i64 e.l, .slice e.x e.n e.c]) ∧ uZ 189 190 (fun e : Fc => #[.int .i64 e.id, .slice e.x e.n e.c]) (fun e => .agg #[.int .i64 e.id, .slice e.x e.n e.c]) ∧ uZ 194 195 (fun e : Int => #[.int .i64 e]) (fun e => .int .i64 e) ∧ uZ 177 110 (fun e : Vn => #[.int .i64 e.id, .slice e.rx e.rn e.rc, .slice e.sx e.sn e.sc]) (fun e => .agg #[.int .i64 e.id, .slice e.rx e.rn e.rc, .slice e.sx e.sn e.sc]) ∧ uZ 157 114 (fun e : Int × Int => #[.int .i64 e.1, .int .i64 e.2]) (fun e => .agg #[.int .i64 e.1, .int .i64 e.2]) := by
 refine ⟨?_, ?_, ?_, ?_, ?_, ?_, ?_, ?_⟩
 all_goals
  refine ⟨fun p r v bp bb bf nb k w h1 h2 hC => ?_, fun args W => by simp [go_sem]⟩
  have hl1 : bp < w.heap.size := World.block_lt_of_cell? w ⟨bp, 0, none⟩ (h1 0)
  have k1 := fun q i => ((bl1 w q).cell (p := ⟨bp, i, none⟩) hl1).trans (h1 i)
  have k2 := fun q => cell_later (bl1 w q) h2
  simp at h1 k1
  first | go_enter Tryz.func174, Tryz.ntmps174 | go_enter Tryz.func171, Tryz.ntmps171 | go_enter Tryz.func213, Tryz.ntmps213 | go_enter Tryz.func184, Tryz.ntmps184 | go_enter Tryz.func189, Tryz.ntmps189 | go_enter Tryz.func194, Tryz.ntmps194 | go_enter Tryz.func177, Tryz.ntmps177 | go_enter Tryz.func157, Tryz.ntmps157
  go_wp2_with fail
  refine (hC _ (by first | exact Below.refl _ _ | exact bl1 w _)).mono ?_
  rintro e w1 ⟨rfl, hb1⟩
  go_wp2
  go_ret
  first | exact ⟨rfl, hb1⟩ | exact ⟨rfl, (bl1 w _).trans (hb1.mono (by simp))⟩
end Go.Proofs.YtndpilfpejfloaaGreat
