/- The law SpaceFits answers true, whatever it is handed. -/
import Derived.Test.YtbnkgecblaffeaaFb
import Derived.Test.YtbnkgecblaffeaaCl
namespace Go.Proofs.Ytbnkgecblaffeaa
open Go.RowKit Go.Shelf

structure SX (w : World) (a l : Int) (x : Option Addr) (n k : Nat) (V : World) : Prop where
  b : Below w.heap.size w V
  s : V.heap[w.heap.size]? = some (.cells #[.int .i64 a, .int .i64 l, .slice x n k] 26)
theorem SX.start (w : World) (a l : Int) (x : Option Addr) (n k : Nat) : SX w a l x n k (w.alloc (.cells #[.int .i64 a, .int .i64 l, .slice x n k] 26)) := ⟨bl1 w _, heap_new _ rfl⟩
theorem SX.later {w : World} {a l : Int} {x : Option Addr} {n k : Nat} {V V' : World} (h : SX w a l x n k V) (hb : Below V.heap.size V V') : SX w a l x n k V' :=
  ⟨h.b.trans (hb.mono h.b.size), (hb.block _ (Array.getElem?_eq_some_iff.1 h.s).1).trans h.s⟩
theorem blk {V V' : World} {b : Nat} {o : Obj} (hb : Below V.heap.size V V') (h : V.heap[b]? = some o) : V'.heap[b]? = some o := (hb.block _ (Array.getElem?_eq_some_iff.1 h).1).trans h
theorem same_lists (x y : Option Addr) (n m c d : Nat) (L : List (Int × Int)) (w : World) (hp : PS w x n L) (hq : PS w y m L) (hL : L.length ≤ 65536) :
    Calls Try.prog 14 #[.slice x n c, .slice y m d] w fun e w' => e = .returned (.bool true) ∧ Below w.heap.size w w' := by
  have h := samePrefixes_any x y n m c d L L w hp hq (by rw [← hp.len]; omega) (by rw [← hq.len]; omega)
  rw [decide_eq_true (rfl : L = L)] at h
  exact h
theorem blk_set {V : World} {b c : Nat} {o : Obj} (h : V.heap[b]? = some o) (hne : c ≠ b) (p q : Value) : ((V.setCell ⟨c, 0, none⟩ p).setCell ⟨c, 1, none⟩ q).heap[b]? = some o := by
  rw [heap_setCell_other _ _ _ _ (by simp; omega), heap_setCell_other _ _ _ _ (by simp; omega)]
  exact h

set_option maxRecDepth 100000 in
set_option maxHeartbeats 3200000 in
theorem fits_bad (a l z : Int) (x : Option Addr) (n k : Nat) (ps : List (Int × Int)) (w : World) (hp : n ≤ 32 → PS w x n ps) (hv : chkS a l n ps ≠ 0) :
    Calls Try.prog 3 #[.agg #[.int .i64 a, .int .i64 l, .slice x n k], .int .i64 z] w fun e w' => e = .returned (.bool true) ∧ Below w.heap.size w w' := by
  have hE : fitE a l n ps z = chkS a l n ps := by unfold fitE; rw [if_neg hv]
  have hN : fitS a l n ps z = none := by unfold fitS; rw [hE, if_neg hv]
  have hO : holS a l n ps = [] := by unfold holS; rw [if_neg hv]
  have hf := fun w hp => fit_any a l x n k ps z w hp
  have hh := fun w hp => holes_any a l x n k ps w hp
  have hck := fun w hp => checkR_any a l x n k ps w hp
  have hcs := fun w hp => checkS_any a l x n k ps w hp
  rw [hN, hE] at hf
  rw [hO] at hh
  generalize chkS a l n ps = cv at hf hh hck hcs hv
  simp only [fitV] at hf
  simp only [List.length_nil] at hh
  have hv' : (cv == 0) = false := by simpa using hv
  clear hE hN hO hv
  obtain ⟨L, hLL⟩ : ∃ L : List (Int × Int), L = [] := ⟨[], rfl⟩
  have hL : L.length ≤ 65536 := by rw [hLL]; exact Nat.zero_le _
  go_enter Try.func3, Try.ntmps3
  go_wp2_with fail
  have hS := SX.start w a l x n k
  refine (hf _ (fun h => (hp h).later hS.b)).mono ?_
  rintro e w1 ⟨rfl, hb⟩
  replace hS := hS.later hb
  clear hb
  have hP : (w1.alloc (.cells #[.int .i64 0, .int .i64 0] 23)).heap[w1.heap.size]? = some (.cells #[.int .i64 0, .int .i64 0] 23) := heap_new _ rfl
  replace hS := hS.later (bl1 w1 (.cells #[.int .i64 0, .int .i64 0] 23))
  obtain ⟨s0, s1, s2, -⟩ := box3 hS.s
  go_wp2_with fail
  refine (hh _ (fun h => (hp h).later hS.b)).mono ?_
  rintro e w2 ⟨x1, c1, rfl, hb, hp1⟩
  replace hS := hS.later hb
  replace hP := blk hb hP
  clear hb s0 s1 s2
  obtain ⟨s0, s1, s2, -⟩ := box3 hS.s
  go_wp2_with fail
  refine (hck _ (fun h => (hp h).later hS.b)).mono ?_
  rintro e w3 ⟨rfl, hb⟩
  replace hS := hS.later hb
  replace hP := blk hb hP
  replace hp1 := hp1.later hb
  clear hb s0 s1 s2
  obtain ⟨s0, s1, s2, -⟩ := box3 hS.s
  have hF : (w3.alloc (.cells #[.int .i64 0, .int .i64 0] 23)).heap[w3.heap.size]? = some (.cells #[.int .i64 0, .int .i64 0] 23) := heap_new _ rfl
  have hP3 := (Array.getElem?_eq_some_iff.1 hP).1
  replace hP := heap_old (.cells #[.int .i64 0, .int .i64 0] 23) hP
  replace hp1 := hp1.later (bl1 w3 (.cells #[.int .i64 0, .int .i64 0] 23))
  have hS3 := (Array.getElem?_eq_some_iff.1 hS.s).1
  replace hS := hS.later (bl1 w3 (.cells #[.int .i64 0, .int .i64 0] 23))
  have y0 : ∀ o, (w3.alloc o).cell? ⟨w.heap.size, 0, none⟩ = some (.int .i64 a) := fun o => cell_later (bl1 w3 o) s0
  have y1 : ∀ o, (w3.alloc o).cell? ⟨w.heap.size, 1, none⟩ = some (.int .i64 l) := fun o => cell_later (bl1 w3 o) s1
  have y2 : ∀ o, (w3.alloc o).cell? ⟨w.heap.size, 2, none⟩ = some (.slice x n k) := fun o => cell_later (bl1 w3 o) s2
  go_wp2_with fail
  have hp2 := ps_nil (w3.alloc (.cells #[.int .i64 0, .int .i64 0] 23))
  rw [← hLL] at hp1 hp2
  clear s0 s1 s2 y0 y1 y2
  refine (begun_is _).mono ?_
  rintro e w7 ⟨rfl, hb⟩
  replace hS := hS.later hb
  replace hP := blk hb hP
  replace hF := blk hb hF
  replace hp1 := hp1.later hb
  replace hp2 := hp2.later hb
  clear hb
  obtain ⟨s0, s1, s2, -⟩ := box3 hS.s
  go_wp2_with fail
  refine (hcs _ (fun h => (hp h).later hS.b)).mono ?_
  rintro e w8 ⟨rfl, hb⟩
  replace hS := hS.later hb
  replace hP := blk hb hP
  replace hF := blk hb hF
  replace hp1 := hp1.later hb
  replace hp2 := hp2.later hb
  clear hb s0 s1 s2
  obtain ⟨p0, p1, -⟩ := box2 hP
  obtain ⟨t0, t1, -⟩ := box2 hF
  go_wp2_with fail
  refine (same_lists _ _ _ _ _ _ L _ hp1 hp2 hL).mono ?_
  rintro e w9 ⟨rfl, hb⟩
  go_wp2
  go_ret
  exact ⟨rfl, hS.b.trans (hb.mono hS.b.size)⟩

set_option maxRecDepth 100000 in
set_option maxHeartbeats 3200000 in
theorem fits_out (a l z : Int) (x : Option Addr) (n k : Nat) (ps : List (Int × Int)) (w : World) (hp : n ≤ 32 → PS w x n ps) (hv : chkS a l n ps = 0) (hz : z < l ∨ 16 < z) :
    Calls Try.prog 3 #[.agg #[.int .i64 a, .int .i64 l, .slice x n k], .int .i64 z] w fun e w' => e = .returned (.bool true) ∧ Below w.heap.size w w' := by
  obtain ⟨hn, hr, hap⟩ := chkS_ok hv
  have hp' := hp hn
  have hU := used_of hap
  obtain ⟨l0, l1, a0, a1, -⟩ := rt_range hr
  have hH := hol_are ps (16 - l).toNat a l hr (by omega)
  have hL : (hol ps (16 - l).toNat a l).length ≤ 65536 := Nat.le_trans (hol_len ps _ a l) (Nat.le_trans (Nat.pow_le_pow_right (by omega) (show (16 - l).toNat ≤ 16 by omega)) (by decide))
  have hE : fitE a l n ps z = 3 := by unfold fitE; rw [if_pos hv, if_pos hz]
  have hN : fitS a l n ps z = none := by unfold fitS; rw [hE]; rfl
  have hO : holS a l n ps = hol ps (16 - l).toNat a l := by unfold holS; rw [if_pos hv]
  have hf := fun w hp => fit_any a l x n k ps z w hp
  have hh := fun w hp => holes_any a l x n k ps w hp
  have hck := fun w hp => checkR_any a l x n k ps w hp
  have hcs := fun w hp => checkS_any a l x n k ps w hp
  rw [hN, hE] at hf
  rw [hO, hv] at hh
  rw [hv] at hck hcs
  have hho := fun w hp => holesOf_any a l x n k ps (hol ps (16 - l).toNat a l) w hp hn hr hU hH hL
  generalize hol ps (16 - l).toNat a l = L at hh hho hL hH
  simp only [fitV] at hf
  clear hE hN hO hv hH hap hU
  rcases Int.lt_or_le z l with hz1 | hz1
  · go_enter Try.func3, Try.ntmps3
    go_wp2_with fail
    have hS := SX.start w a l x n k
    refine (hf _ (fun h => (hp h).later hS.b)).mono ?_
    rintro e w1 ⟨rfl, hb⟩
    replace hS := hS.later hb
    clear hb
    have hP : (w1.alloc (.cells #[.int .i64 0, .int .i64 0] 23)).heap[w1.heap.size]? = some (.cells #[.int .i64 0, .int .i64 0] 23) := heap_new _ rfl
    replace hS := hS.later (bl1 w1 (.cells #[.int .i64 0, .int .i64 0] 23))
    obtain ⟨s0, s1, s2, -⟩ := box3 hS.s
    go_wp2_with fail
    refine (hh _ (fun h => (hp h).later hS.b)).mono ?_
    rintro e w2 ⟨x1, c1, rfl, hb, hp1⟩
    replace hS := hS.later hb
    replace hP := blk hb hP
    clear hb s0 s1 s2
    obtain ⟨s0, s1, s2, -⟩ := box3 hS.s
    go_wp2_with fail
    refine (hck _ (fun h => (hp h).later hS.b)).mono ?_
    rintro e w3 ⟨rfl, hb⟩
    replace hS := hS.later hb
    replace hP := blk hb hP
    replace hp1 := hp1.later hb
    clear hb s0 s1 s2
    obtain ⟨s0, s1, s2, -⟩ := box3 hS.s
    have hF : (w3.alloc (.cells #[.int .i64 0, .int .i64 0] 23)).heap[w3.heap.size]? = some (.cells #[.int .i64 0, .int .i64 0] 23) := heap_new _ rfl
    have hP3 := (Array.getElem?_eq_some_iff.1 hP).1
    replace hP := heap_old (.cells #[.int .i64 0, .int .i64 0] 23) hP
    replace hp1 := hp1.later (bl1 w3 (.cells #[.int .i64 0, .int .i64 0] 23))
    have hS3 := (Array.getElem?_eq_some_iff.1 hS.s).1
    replace hS := hS.later (bl1 w3 (.cells #[.int .i64 0, .int .i64 0] 23))
    have y0 : ∀ o, (w3.alloc o).cell? ⟨w.heap.size, 0, none⟩ = some (.int .i64 a) := fun o => cell_later (bl1 w3 o) s0
    have y1 : ∀ o, (w3.alloc o).cell? ⟨w.heap.size, 1, none⟩ = some (.int .i64 l) := fun o => cell_later (bl1 w3 o) s1
    have y2 : ∀ o, (w3.alloc o).cell? ⟨w.heap.size, 2, none⟩ = some (.slice x n k) := fun o => cell_later (bl1 w3 o) s2
    go_wp2_with fail
    clear s0 s1 s2 y0 y1 y2
    refine (hho _ (hp'.later hS.b)).mono ?_
    rintro e w5 ⟨x2, c2, rfl, hb, hp2⟩
    replace hS := hS.later hb
    replace hP := blk hb hP
    replace hF := blk hb hF
    replace hp1 := hp1.later hb
    clear hb
    go_wp2_with fail
    refine (begun_is _).mono ?_
    rintro e w7 ⟨rfl, hb⟩
    replace hS := hS.later hb
    replace hP := blk hb hP
    replace hF := blk hb hF
    replace hp1 := hp1.later hb
    replace hp2 := hp2.later hb
    clear hb
    obtain ⟨s0, s1, s2, -⟩ := box3 hS.s
    go_wp2_with fail
    refine (hcs _ (fun h => (hp h).later hS.b)).mono ?_
    rintro e w8 ⟨rfl, hb⟩
    replace hS := hS.later hb
    replace hP := blk hb hP
    replace hF := blk hb hF
    replace hp1 := hp1.later hb
    replace hp2 := hp2.later hb
    clear hb s0 s1 s2
    obtain ⟨p0, p1, -⟩ := box2 hP
    obtain ⟨t0, t1, -⟩ := box2 hF
    go_wp2_with fail
    refine (same_lists _ _ _ _ _ _ L _ hp1 hp2 hL).mono ?_
    rintro e w9 ⟨rfl, hb⟩
    go_wp2
    go_ret
    exact ⟨rfl, hS.b.trans (hb.mono hS.b.size)⟩
  · have hz2 : 16 < z := by omega
    go_enter Try.func3, Try.ntmps3
    go_wp2_with fail
    have hS := SX.start w a l x n k
    refine (hf _ (fun h => (hp h).later hS.b)).mono ?_
    rintro e w1 ⟨rfl, hb⟩
    replace hS := hS.later hb
    clear hb
    have hP : (w1.alloc (.cells #[.int .i64 0, .int .i64 0] 23)).heap[w1.heap.size]? = some (.cells #[.int .i64 0, .int .i64 0] 23) := heap_new _ rfl
    replace hS := hS.later (bl1 w1 (.cells #[.int .i64 0, .int .i64 0] 23))
    obtain ⟨s0, s1, s2, -⟩ := box3 hS.s
    go_wp2_with fail
    refine (hh _ (fun h => (hp h).later hS.b)).mono ?_
    rintro e w2 ⟨x1, c1, rfl, hb, hp1⟩
    replace hS := hS.later hb
    replace hP := blk hb hP
    clear hb s0 s1 s2
    obtain ⟨s0, s1, s2, -⟩ := box3 hS.s
    go_wp2_with fail
    refine (hck _ (fun h => (hp h).later hS.b)).mono ?_
    rintro e w3 ⟨rfl, hb⟩
    replace hS := hS.later hb
    replace hP := blk hb hP
    replace hp1 := hp1.later hb
    clear hb s0 s1 s2
    obtain ⟨s0, s1, s2, -⟩ := box3 hS.s
    have hF : (w3.alloc (.cells #[.int .i64 0, .int .i64 0] 23)).heap[w3.heap.size]? = some (.cells #[.int .i64 0, .int .i64 0] 23) := heap_new _ rfl
    have hP3 := (Array.getElem?_eq_some_iff.1 hP).1
    replace hP := heap_old (.cells #[.int .i64 0, .int .i64 0] 23) hP
    replace hp1 := hp1.later (bl1 w3 (.cells #[.int .i64 0, .int .i64 0] 23))
    have hS3 := (Array.getElem?_eq_some_iff.1 hS.s).1
    replace hS := hS.later (bl1 w3 (.cells #[.int .i64 0, .int .i64 0] 23))
    have y0 : ∀ o, (w3.alloc o).cell? ⟨w.heap.size, 0, none⟩ = some (.int .i64 a) := fun o => cell_later (bl1 w3 o) s0
    have y1 : ∀ o, (w3.alloc o).cell? ⟨w.heap.size, 1, none⟩ = some (.int .i64 l) := fun o => cell_later (bl1 w3 o) s1
    have y2 : ∀ o, (w3.alloc o).cell? ⟨w.heap.size, 2, none⟩ = some (.slice x n k) := fun o => cell_later (bl1 w3 o) s2
    go_wp2_with fail
    clear s0 s1 s2 y0 y1 y2
    refine (hho _ (hp'.later hS.b)).mono ?_
    rintro e w5 ⟨x2, c2, rfl, hb, hp2⟩
    replace hS := hS.later hb
    replace hP := blk hb hP
    replace hF := blk hb hF
    replace hp1 := hp1.later hb
    clear hb
    go_wp2_with fail
    refine (begun_is _).mono ?_
    rintro e w7 ⟨rfl, hb⟩
    replace hS := hS.later hb
    replace hP := blk hb hP
    replace hF := blk hb hF
    replace hp1 := hp1.later hb
    replace hp2 := hp2.later hb
    clear hb
    obtain ⟨s0, s1, s2, -⟩ := box3 hS.s
    go_wp2_with fail
    refine (hcs _ (fun h => (hp h).later hS.b)).mono ?_
    rintro e w8 ⟨rfl, hb⟩
    replace hS := hS.later hb
    replace hP := blk hb hP
    replace hF := blk hb hF
    replace hp1 := hp1.later hb
    replace hp2 := hp2.later hb
    clear hb s0 s1 s2
    obtain ⟨p0, p1, -⟩ := box2 hP
    obtain ⟨t0, t1, -⟩ := box2 hF
    go_wp2_with fail
    refine (same_lists _ _ _ _ _ _ L _ hp1 hp2 hL).mono ?_
    rintro e w9 ⟨rfl, hb⟩
    go_wp2
    go_ret
    exact ⟨rfl, hS.b.trans (hb.mono hS.b.size)⟩

set_option maxRecDepth 100000 in
set_option maxHeartbeats 3200000 in
theorem fits_in (a l z : Int) (x : Option Addr) (n k : Nat) (ps : List (Int × Int)) (w : World) (hp : n ≤ 32 → PS w x n ps) (hv : chkS a l n ps = 0) (hz1 : l ≤ z) (hz2 : z ≤ 16) :
    Calls Try.prog 3 #[.agg #[.int .i64 a, .int .i64 l, .slice x n k], .int .i64 z] w fun e w' => e = .returned (.bool true) ∧ Below w.heap.size w w' := by
  obtain ⟨hn, hr, hap⟩ := chkS_ok hv
  have hp' := hp hn
  have hU := used_of hap
  obtain ⟨l0, l1, a0, a1, -⟩ := rt_range hr
  have hH := hol_are ps (16 - l).toNat a l hr (by omega)
  have hL : (hol ps (16 - l).toNat a l).length ≤ 65536 := Nat.le_trans (hol_len ps _ a l) (Nat.le_trans (Nat.pow_le_pow_right (by omega) (show (16 - l).toNat ≤ 16 by omega)) (by decide))
  have hE : fitE a l n ps z = 0 := by unfold fitE; rw [if_pos hv, if_neg (by omega)]
  have hFI : FitIs ps a l z (fitS a l n ps z) := by unfold fitS; rw [if_pos hE]; exact fit_hol hH hz2
  have hO : holS a l n ps = hol ps (16 - l).toNat a l := by unfold holS; rw [if_pos hv]
  have hf := fun w hp => fit_any a l x n k ps z w hp
  have hh := fun w hp => holes_any a l x n k ps w hp
  have hck := fun w hp => checkR_any a l x n k ps w hp
  have hcs := fun w hp => checkS_any a l x n k ps w hp
  rw [hE] at hf
  rw [hO, hv] at hh
  rw [hv] at hck hcs
  have hho := fun w hp => holesOf_any a l x n k ps (hol ps (16 - l).toNat a l) w hp hn hr hU hH hL
  have hfo := fun w hp => fitOf_any a l z x n k ps w hp hn hr hz1 hz2
  generalize hol ps (16 - l).toNat a l = L at hh hho hL hH
  generalize fitS a l n ps z = R at hf hFI
  obtain ⟨P1, P2, B, hV, hR⟩ : ∃ (P1 P2 : Int) (B : Bool), fitV z R 0 = .tuple #[.agg #[.int .i64 P1, .int .i64 P2], .bool B, .int .i64 0] ∧ fitR z R = .tuple #[.agg #[.int .i64 P1, .int .i64 P2], .bool B] := by
    cases R with
    | none => exact ⟨0, 0, false, rfl, rfl⟩
    | some y => exact ⟨y, z, true, rfl, rfl⟩
  rw [hV] at hf
  clear hE hO hv hH hap hU hV
  go_enter Try.func3, Try.ntmps3
  go_wp2_with fail
  have hS := SX.start w a l x n k
  refine (hf _ (fun h => (hp h).later hS.b)).mono ?_
  rintro e w1 ⟨rfl, hb⟩
  replace hS := hS.later hb
  clear hb
  have hP : (w1.alloc (.cells #[.int .i64 P1, .int .i64 P2] 23)).heap[w1.heap.size]? = some (.cells #[.int .i64 P1, .int .i64 P2] 23) := heap_new _ rfl
  replace hS := hS.later (bl1 w1 (.cells #[.int .i64 P1, .int .i64 P2] 23))
  obtain ⟨s0, s1, s2, -⟩ := box3 hS.s
  go_wp2_with fail
  refine (hh _ (fun h => (hp h).later hS.b)).mono ?_
  rintro e w2 ⟨x1, c1, rfl, hb, hp1⟩
  replace hS := hS.later hb
  replace hP := blk hb hP
  clear hb s0 s1 s2
  obtain ⟨s0, s1, s2, -⟩ := box3 hS.s
  go_wp2_with fail
  refine (hck _ (fun h => (hp h).later hS.b)).mono ?_
  rintro e w3 ⟨rfl, hb⟩
  replace hS := hS.later hb
  replace hP := blk hb hP
  replace hp1 := hp1.later hb
  clear hb s0 s1 s2
  obtain ⟨s0, s1, s2, -⟩ := box3 hS.s
  have hF : (w3.alloc (.cells #[.int .i64 0, .int .i64 0] 23)).heap[w3.heap.size]? = some (.cells #[.int .i64 0, .int .i64 0] 23) := heap_new _ rfl
  have kS := hS
  have kP := hP
  have kp := hp1
  have hP3 := (Array.getElem?_eq_some_iff.1 hP).1
  replace hP := heap_old (.cells #[.int .i64 0, .int .i64 0] 23) hP
  replace hp1 := hp1.later (bl1 w3 (.cells #[.int .i64 0, .int .i64 0] 23))
  have hS3 := (Array.getElem?_eq_some_iff.1 hS.s).1
  replace hS := hS.later (bl1 w3 (.cells #[.int .i64 0, .int .i64 0] 23))
  have y0 : ∀ o, (w3.alloc o).cell? ⟨w.heap.size, 0, none⟩ = some (.int .i64 a) := fun o => cell_later (bl1 w3 o) s0
  have y1 : ∀ o, (w3.alloc o).cell? ⟨w.heap.size, 1, none⟩ = some (.int .i64 l) := fun o => cell_later (bl1 w3 o) s1
  have y2 : ∀ o, (w3.alloc o).cell? ⟨w.heap.size, 2, none⟩ = some (.slice x n k) := fun o => cell_later (bl1 w3 o) s2
  go_wp2_with fail
  refine (hfo _ (hp'.later hS.b)).mono ?_
  rintro e w4 ⟨hb, r, hr4, rfl⟩
  obtain rfl := hr4.one hFI
  rw [hR]
  replace hF := blk hb hF
  have hB4 : Below w3.heap.size w3 w4 := (bl1 w3 _).trans (hb.mono (by simp))
  clear hb s0 s1 s2 y0 y1 y2 hFI hr4 hS hP hp1
  obtain ⟨z0, z1, z2, z3⟩ := box2 hF
  go_upto_region 12 with fail
  have hBX := below_set2 hB4 (Nat.le_refl _) (.int .i64 P1) (.int .i64 P2)
  have hS := kS.later hBX
  have hP := blk hBX kP
  have hp1 := kp.later hBX
  replace hF := box2_set (.int .i64 P1) (.int .i64 P2) hF
  clear z0 z1 z2 z3 kS kP kp
  generalize (w4.setCell ⟨w3.heap.size, 0, none⟩ (.int .i64 P1)).setCell ⟨w3.heap.size, 1, none⟩ (.int .i64 P2) = V at hS hP hF hp1 ⊢
  clear hBX
  obtain ⟨s0, s1, s2, -⟩ := box3 hS.s
  go_wp2_with fail
  clear s0 s1 s2
  refine (hho _ (hp'.later hS.b)).mono ?_
  rintro e w5 ⟨x2, c2, rfl, hb, hp2⟩
  replace hS := hS.later hb
  replace hP := blk hb hP
  replace hF := blk hb hF
  replace hp1 := hp1.later hb
  clear hb
  go_wp2_with fail
  refine (begun_is _).mono ?_
  rintro e w7 ⟨rfl, hb⟩
  replace hS := hS.later hb
  replace hP := blk hb hP
  replace hF := blk hb hF
  replace hp1 := hp1.later hb
  replace hp2 := hp2.later hb
  clear hb
  obtain ⟨s0, s1, s2, -⟩ := box3 hS.s
  go_wp2_with fail
  refine (hcs _ (fun h => (hp h).later hS.b)).mono ?_
  rintro e w8 ⟨rfl, hb⟩
  replace hS := hS.later hb
  replace hP := blk hb hP
  replace hF := blk hb hF
  replace hp1 := hp1.later hb
  replace hp2 := hp2.later hb
  clear hb s0 s1 s2
  obtain ⟨p0, p1, -⟩ := box2 hP
  obtain ⟨t0, t1, -⟩ := box2 hF
  go_wp2_with fail
  refine (same_lists _ _ _ _ _ _ L _ hp1 hp2 hL).mono ?_
  rintro e w9 ⟨rfl, hb⟩
  go_wp2
  go_ret
  exact ⟨rfl, hS.b.trans (hb.mono hS.b.size)⟩

theorem fits_any (a l z : Int) (x : Option Addr) (n k : Nat) (ps : List (Int × Int)) (w : World) (hp : n ≤ 32 → PS w x n ps) :
    Calls Try.prog 3 #[.agg #[.int .i64 a, .int .i64 l, .slice x n k], .int .i64 z] w fun e w' => e = .returned (.bool true) ∧ Below w.heap.size w w' := by
  by_cases hv : chkS a l n ps = 0
  · by_cases hz : z < l ∨ 16 < z
    · exact fits_out a l z x n k ps w hp hv hz
    · exact fits_in a l z x n k ps w hp hv (by omega) (by omega)
  · exact fits_bad a l z x n k ps w hp hv
end Go.Proofs.Ytbnkgecblaffeaa
