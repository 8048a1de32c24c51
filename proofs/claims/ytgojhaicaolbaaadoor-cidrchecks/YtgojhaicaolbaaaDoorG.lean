/- What Read of package cidr comes to. -/
import Derived.Test.YtgojhaicaolbaaaDoorF
namespace Go.Proofs.YtgojhaicaolbaaaDoor
open Go.RowKit

theorem cut_len (s sep : List UInt8) : (Lib.cut s sep).1.length ≤ s.length ∧ (Lib.cut s sep).2.1.length ≤ s.length := by
  unfold Lib.cut
  split
  · simp
    omega
  · simp

set_option maxHeartbeats 800000 in
theorem read_long (s : ByteArray) (w : World) (hs : 10 < s.size) (hs2 : s.size ≤ maxLen) :
    Calls Tryd.prog 22 #[.string s] w fun e w' => e = .returned (.tuple #[.agg #[.int .i64 0, .int .i64 0], .int .i64 1]) ∧ Below w.heap.size w w' := by
  unfold maxLen at hs2
  have hi : (10 : Int) < (s.size : Int) := by omega
  go_enter Tryd.func22, Tryd.ntmps22
  go_wp2
  refine bodyPost_ret (v := .tuple #[.agg #[.int .i64 0, .int .i64 0], .int .i64 1]) (by simp [results, Tryd.results22, go_sem]) rfl ⟨rfl, ?_⟩
  exact bl1 _ _

def cutA (s sep : ByteArray) : ByteArray := ⟨(Lib.cut s.data.toList sep.data.toList).1.toArray⟩
def cutB (s sep : ByteArray) : ByteArray := ⟨(Lib.cut s.data.toList sep.data.toList).2.1.toArray⟩
def cutC (s sep : ByteArray) : Bool := (Lib.cut s.data.toList sep.data.toList).2.2
def numB (s : ByteArray) : Int := numL s.data.toList
theorem size_len (s : ByteArray) : s.data.toList.length = s.size := Array.length_toList
theorem cutA_size (s sep : ByteArray) : (cutA s sep).size ≤ s.size := by
  have h := (cut_len s.data.toList sep.data.toList).1
  rw [size_len] at h
  show (Lib.cut s.data.toList sep.data.toList).1.toArray.size ≤ s.size
  rw [List.size_toArray]
  exact h
theorem cutB_size (s sep : ByteArray) : (cutB s sep).size ≤ s.size := by
  have h := (cut_len s.data.toList sep.data.toList).2
  rw [size_len] at h
  show (Lib.cut s.data.toList sep.data.toList).2.1.toArray.size ≤ s.size
  rw [List.size_toArray]
  exact h

theorem cut_any (s sep : ByteArray) (w : World) (hE : Env w) (hs : s.size ≤ 10) :
    Calls Tryd.prog 32 #[.string s, .string sep] w fun e w' => e = .returned (.tuple #[.string (cutA s sep), .string (cutB s sep), .bool (cutC s sep)]) ∧ Below w.heap.size w w' := by
  obtain ⟨m, hm⟩ := hE.mx
  refine (Tryd.strings_Cut s sep m w (by omega) hm).mono ?_
  rintro e w1 ⟨rfl, n1, rfl⟩
  exact ⟨rfl, below_drewN (Below.refl _ _) _⟩

theorem numB_any (s : ByteArray) (w : World) (hE : Env w) (hs : s.size ≤ 10) :
    Calls Tryd.prog 33 #[.string s] w fun e w' => e = .returned (.int .i64 (numB s)) ∧ Below w.heap.size w w' := number_any s w hE (by omega)

def readA (s : ByteArray) : Int := wrap64 (wrap64 (numB (cutA (cutA s ⟨#[47]⟩) ⟨#[46]⟩) * 256) + numB (cutB (cutA s ⟨#[47]⟩) ⟨#[46]⟩))
def readL (s : ByteArray) : Int := numB (cutB s ⟨#[47]⟩)

set_option maxHeartbeats 1600000 in
theorem read_bad1 (s : ByteArray) (w : World) (hE : Env w) (hs : s.size ≤ 10) (h : rt (readA s) (readL s) = false) :
    Calls Tryd.prog 22 #[.string s] w fun e w' => e = .returned (.tuple #[.agg #[.int .i64 0, .int .i64 0], .int .i64 1]) ∧ Below w.heap.size w w' := by
  have hi : (s.size : Int) ≤ 10 := by omega
  have hz := hE.size
  have c1 := cutA_size s ⟨#[47]⟩
  have c2 := cutB_size s ⟨#[47]⟩
  have c3 := cutA_size (cutA s ⟨#[47]⟩) ⟨#[46]⟩
  have c4 := cutB_size (cutA s ⟨#[47]⟩) ⟨#[46]⟩
  go_enter Tryd.func22, Tryd.ntmps22
  go_wp2_with fail
  refine (cut_any _ _ _ (hE.below hE.size (bl1 _ _)) hs).mono ?_
  rintro e w1 ⟨rfl, hC1⟩
  have hE1 := hE.below hE.size ((bl1 w _).trans (hC1.mono (by simp)))
  go_wp2_with fail
  refine (cut_any _ _ _ hE1 (by omega)).mono ?_
  rintro e w2 ⟨rfl, hb2⟩
  have hC2 := hC1.trans (hb2.mono hC1.size)
  have hE2 := hE.below hE.size ((bl1 w _).trans (hC2.mono (by simp)))
  clear hE1 hC1 hb2
  go_wp2_with fail
  refine (numB_any _ _ hE2 (by omega)).mono ?_
  rintro e w3 ⟨rfl, hb3⟩
  have hC3 := hC2.trans (hb3.mono hC2.size)
  have hE3 := hE.below hE.size ((bl1 w _).trans (hC3.mono (by simp)))
  clear hE2 hC2 hb3
  go_wp2_with fail
  refine (numB_any _ _ hE3 (by omega)).mono ?_
  rintro e w4 ⟨rfl, hb4⟩
  have hC4 := hC3.trans (hb4.mono hC3.size)
  have hE4 := hE.below hE.size ((bl1 w _).trans (hC4.mono (by simp)))
  clear hE3 hC3 hb4
  go_wp2_with fail
  refine (numB_any _ _ hE4 (by omega)).mono ?_
  rintro e w5 ⟨rfl, hb5⟩
  have hC5 := hC4.trans (hb5.mono hC4.size)
  have hE5 := hE.below hE.size ((bl1 w _).trans (hC5.mono (by simp)))
  clear hE4 hC4 hb5
  go_wp2_with fail
  generalize hA : wrap64 (wrap64 (numB (cutA (cutA s ⟨#[47]⟩) ⟨#[46]⟩) * 256) + numB (cutB (cutA s ⟨#[47]⟩) ⟨#[46]⟩)) = A
  generalize hL : numB (cutB s ⟨#[47]⟩) = L
  have hA' : readA s = A := hA
  have hL' : readL s = L := hL
  rw [hA', hL'] at h
  clear hA hL c1 c2 c3 c4
  clear hA' hL'
  refine (show_bad A L _ h).mono ?_
  rintro e w6 ⟨rfl, hb6⟩
  have p0 : w6.cell? ⟨w5.heap.size, 0, none⟩ = some (.int .i64 A) := (hb6.cell (p := ⟨w5.heap.size, 0, none⟩) (by simp)).trans (by simp)
  have p1 : w6.cell? ⟨w5.heap.size, 1, none⟩ = some (.int .i64 L) := (hb6.cell (p := ⟨w5.heap.size, 1, none⟩) (by simp)).trans (by simp)
  have hC6 := hC5.trans (((bl1 w5 _).trans (hb6.mono (by simp))).mono hC5.size)
  have e0 : w6.cell? ⟨w.heap.size, 0, none⟩ = some (.int .i64 0) := (hC6.cell (p := ⟨w.heap.size, 0, none⟩) (by simp)).trans (by simp)
  have e1 : w6.cell? ⟨w.heap.size, 1, none⟩ = some (.int .i64 0) := (hC6.cell (p := ⟨w.heap.size, 1, none⟩) (by simp)).trans (by simp)
  have f0 : w6.frozen? ⟨w.heap.size, 0, none⟩ = false := (hC6.frozen (p := ⟨w.heap.size, 0, none⟩) (by simp)).trans (by simp)
  have f1 : w6.frozen? ⟨w.heap.size, 1, none⟩ = false := (hC6.frozen (p := ⟨w.heap.size, 1, none⟩) (by simp)).trans (by simp)
  have hB6 := (bl1 w _).trans (hC6.mono (by simp))
  have hz5 := hC5.size
  simp only [World.size_alloc] at hz5
  clear hC5 hE5 hb6 hC6
  have hne : (chk A L != 0) = true := by simp [bne, chk_ne h]
  go_wp2
  refine bodyPost_ret (v := .tuple #[.agg #[.int .i64 0, .int .i64 0], .int .i64 1]) (by simp [results, Tryd.results22, go_sem, e0, e1]) rfl ⟨rfl, ?_⟩
  exact (hB6.setCell (by simp) _).setCell (by simp) _

set_option maxHeartbeats 1600000 in
theorem read_bad2 (s : ByteArray) (w : World) (hE : Env w) (hs : s.size ≤ 10) (h : rt (readA s) (readL s) = true) (hx : (showL (readA s) (readL s) == s.toList) = false) :
    Calls Tryd.prog 22 #[.string s] w fun e w' => e = .returned (.tuple #[.agg #[.int .i64 0, .int .i64 0], .int .i64 1]) ∧ Below w.heap.size w w' := by
  have hi : (s.size : Int) ≤ 10 := by omega
  have hz := hE.size
  have c1 := cutA_size s ⟨#[47]⟩
  have c2 := cutB_size s ⟨#[47]⟩
  have c3 := cutA_size (cutA s ⟨#[47]⟩) ⟨#[46]⟩
  have c4 := cutB_size (cutA s ⟨#[47]⟩) ⟨#[46]⟩
  go_enter Tryd.func22, Tryd.ntmps22
  go_wp2_with fail
  refine (cut_any _ _ _ (hE.below hE.size (bl1 _ _)) hs).mono ?_
  rintro e w1 ⟨rfl, hC1⟩
  have hE1 := hE.below hE.size ((bl1 w _).trans (hC1.mono (by simp)))
  go_wp2_with fail
  refine (cut_any _ _ _ hE1 (by omega)).mono ?_
  rintro e w2 ⟨rfl, hb2⟩
  have hC2 := hC1.trans (hb2.mono hC1.size)
  have hE2 := hE.below hE.size ((bl1 w _).trans (hC2.mono (by simp)))
  clear hE1 hC1 hb2
  go_wp2_with fail
  refine (numB_any _ _ hE2 (by omega)).mono ?_
  rintro e w3 ⟨rfl, hb3⟩
  have hC3 := hC2.trans (hb3.mono hC2.size)
  have hE3 := hE.below hE.size ((bl1 w _).trans (hC3.mono (by simp)))
  clear hE2 hC2 hb3
  go_wp2_with fail
  refine (numB_any _ _ hE3 (by omega)).mono ?_
  rintro e w4 ⟨rfl, hb4⟩
  have hC4 := hC3.trans (hb4.mono hC3.size)
  have hE4 := hE.below hE.size ((bl1 w _).trans (hC4.mono (by simp)))
  clear hE3 hC3 hb4
  go_wp2_with fail
  refine (numB_any _ _ hE4 (by omega)).mono ?_
  rintro e w5 ⟨rfl, hb5⟩
  have hC5 := hC4.trans (hb5.mono hC4.size)
  have hE5 := hE.below hE.size ((bl1 w _).trans (hC5.mono (by simp)))
  clear hE4 hC4 hb5
  go_wp2_with fail
  generalize hA : wrap64 (wrap64 (numB (cutA (cutA s ⟨#[47]⟩) ⟨#[46]⟩) * 256) + numB (cutB (cutA s ⟨#[47]⟩) ⟨#[46]⟩)) = A
  generalize hL : numB (cutB s ⟨#[47]⟩) = L
  have hA' : readA s = A := hA
  have hL' : readL s = L := hL
  rw [hA', hL'] at h hx
  clear hA hL c1 c2 c3 c4
  clear hA' hL'
  have hE6 := hE5.below hE5.size (bl1 w5 (.cells #[.int .i64 A, .int .i64 L] 23))
  refine (show_ok A L _ hE6 h).mono ?_
  rintro e w6 ⟨rfl, hb6⟩
  have p0 : w6.cell? ⟨w5.heap.size, 0, none⟩ = some (.int .i64 A) := (hb6.cell (p := ⟨w5.heap.size, 0, none⟩) (by simp)).trans (by simp)
  have p1 : w6.cell? ⟨w5.heap.size, 1, none⟩ = some (.int .i64 L) := (hb6.cell (p := ⟨w5.heap.size, 1, none⟩) (by simp)).trans (by simp)
  have hC6 := hC5.trans (((bl1 w5 _).trans (hb6.mono (by simp))).mono hC5.size)
  have e0 : w6.cell? ⟨w.heap.size, 0, none⟩ = some (.int .i64 0) := (hC6.cell (p := ⟨w.heap.size, 0, none⟩) (by simp)).trans (by simp)
  have e1 : w6.cell? ⟨w.heap.size, 1, none⟩ = some (.int .i64 0) := (hC6.cell (p := ⟨w.heap.size, 1, none⟩) (by simp)).trans (by simp)
  have f0 : w6.frozen? ⟨w.heap.size, 0, none⟩ = false := (hC6.frozen (p := ⟨w.heap.size, 0, none⟩) (by simp)).trans (by simp)
  have f1 : w6.frozen? ⟨w.heap.size, 1, none⟩ = false := (hC6.frozen (p := ⟨w.heap.size, 1, none⟩) (by simp)).trans (by simp)
  have hB6 := (bl1 w _).trans (hC6.mono (by simp))
  have hz5 := hC5.size
  simp only [World.size_alloc] at hz5
  clear hC5 hE5 hE6 hb6 hC6
  go_wp2
  refine bodyPost_ret (v := .tuple #[.agg #[.int .i64 0, .int .i64 0], .int .i64 1]) (by simp [results, Tryd.results22, go_sem, e0, e1]) rfl ⟨rfl, ?_⟩
  exact (hB6.setCell (by simp) _).setCell (by simp) _

set_option maxHeartbeats 1600000 in
theorem read_ok1 (s : ByteArray) (w : World) (hE : Env w) (hs : s.size ≤ 10) (h : rt (readA s) (readL s) = true) (hx : (showL (readA s) (readL s) == s.toList) = true) :
    Calls Tryd.prog 22 #[.string s] w fun e w' => e = .returned (.tuple #[.agg #[.int .i64 (readA s), .int .i64 (readL s)], .int .i64 0]) ∧ Below w.heap.size w w' := by
  have hi : (s.size : Int) ≤ 10 := by omega
  have hz := hE.size
  have c1 := cutA_size s ⟨#[47]⟩
  have c2 := cutB_size s ⟨#[47]⟩
  have c3 := cutA_size (cutA s ⟨#[47]⟩) ⟨#[46]⟩
  have c4 := cutB_size (cutA s ⟨#[47]⟩) ⟨#[46]⟩
  go_enter Tryd.func22, Tryd.ntmps22
  go_wp2_with fail
  refine (cut_any _ _ _ (hE.below hE.size (bl1 _ _)) hs).mono ?_
  rintro e w1 ⟨rfl, hC1⟩
  have hE1 := hE.below hE.size ((bl1 w _).trans (hC1.mono (by simp)))
  go_wp2_with fail
  refine (cut_any _ _ _ hE1 (by omega)).mono ?_
  rintro e w2 ⟨rfl, hb2⟩
  have hC2 := hC1.trans (hb2.mono hC1.size)
  have hE2 := hE.below hE.size ((bl1 w _).trans (hC2.mono (by simp)))
  clear hE1 hC1 hb2
  go_wp2_with fail
  refine (numB_any _ _ hE2 (by omega)).mono ?_
  rintro e w3 ⟨rfl, hb3⟩
  have hC3 := hC2.trans (hb3.mono hC2.size)
  have hE3 := hE.below hE.size ((bl1 w _).trans (hC3.mono (by simp)))
  clear hE2 hC2 hb3
  go_wp2_with fail
  refine (numB_any _ _ hE3 (by omega)).mono ?_
  rintro e w4 ⟨rfl, hb4⟩
  have hC4 := hC3.trans (hb4.mono hC3.size)
  have hE4 := hE.below hE.size ((bl1 w _).trans (hC4.mono (by simp)))
  clear hE3 hC3 hb4
  go_wp2_with fail
  refine (numB_any _ _ hE4 (by omega)).mono ?_
  rintro e w5 ⟨rfl, hb5⟩
  have hC5 := hC4.trans (hb5.mono hC4.size)
  have hE5 := hE.below hE.size ((bl1 w _).trans (hC5.mono (by simp)))
  clear hE4 hC4 hb5
  go_wp2_with fail
  generalize hA : wrap64 (wrap64 (numB (cutA (cutA s ⟨#[47]⟩) ⟨#[46]⟩) * 256) + numB (cutB (cutA s ⟨#[47]⟩) ⟨#[46]⟩)) = A
  generalize hL : numB (cutB s ⟨#[47]⟩) = L
  have hA' : readA s = A := hA
  have hL' : readL s = L := hL
  rw [hA', hL'] at h hx
  clear hA hL c1 c2 c3 c4
  have HA : Hid (readA s = A) := hA'
  have HL : Hid (readL s = L) := hL'
  clear hA' hL'
  have hE6 := hE5.below hE5.size (bl1 w5 (.cells #[.int .i64 A, .int .i64 L] 23))
  refine (show_ok A L _ hE6 h).mono ?_
  rintro e w6 ⟨rfl, hb6⟩
  have p0 : w6.cell? ⟨w5.heap.size, 0, none⟩ = some (.int .i64 A) := (hb6.cell (p := ⟨w5.heap.size, 0, none⟩) (by simp)).trans (by simp)
  have p1 : w6.cell? ⟨w5.heap.size, 1, none⟩ = some (.int .i64 L) := (hb6.cell (p := ⟨w5.heap.size, 1, none⟩) (by simp)).trans (by simp)
  have hC6 := hC5.trans (((bl1 w5 _).trans (hb6.mono (by simp))).mono hC5.size)
  have e0 : w6.cell? ⟨w.heap.size, 0, none⟩ = some (.int .i64 0) := (hC6.cell (p := ⟨w.heap.size, 0, none⟩) (by simp)).trans (by simp)
  have e1 : w6.cell? ⟨w.heap.size, 1, none⟩ = some (.int .i64 0) := (hC6.cell (p := ⟨w.heap.size, 1, none⟩) (by simp)).trans (by simp)
  have f0 : w6.frozen? ⟨w.heap.size, 0, none⟩ = false := (hC6.frozen (p := ⟨w.heap.size, 0, none⟩) (by simp)).trans (by simp)
  have f1 : w6.frozen? ⟨w.heap.size, 1, none⟩ = false := (hC6.frozen (p := ⟨w.heap.size, 1, none⟩) (by simp)).trans (by simp)
  have hB6 := (bl1 w _).trans (hC6.mono (by simp))
  have hz5 := hC5.size
  simp only [World.size_alloc] at hz5
  clear hC5 hE5 hE6 hb6 hC6
  go_wp2
  rw [HA.out, HL.out]
  refine bodyPost_ret (v := .tuple #[.agg #[.int .i64 A, .int .i64 L], .int .i64 0]) (by simp [results, Tryd.results22, go_sem, e0, e1]) rfl ⟨rfl, ?_⟩
  exact (hB6.setCell (by simp) _).setCell (by simp) _
end Go.Proofs.YtgojhaicaolbaaaDoor
