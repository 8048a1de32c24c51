/- Commands in memory; what first and Log of package wire, and LogOf of package parcelwayref, come to. -/
import Derived.Test.YtlledongbfjkiaaWg
namespace Go.Proofs.Ytlledongbfjkiaa
open Go.RowKit

theorem bs_sub (s : ByteArray) : bs (s.extract 1 38) = ((bs s).drop 1).take 37 := bs_extract s 1 38
theorem size_sub (s : ByteArray) (a b : Nat) (h : b ≤ s.size) (hab : a ≤ b) : (s.extract a b).size = b - a := by
  rw [← bs_len, bs_extract, List.length_take, List.length_drop, bs_len]
  omega
def fiC (xs : List Int) : Cm := if okF xs = true then readC ((xs.drop 1).take 37) else zeroC
def fiE (xs : List Int) : Int := if okF xs = true then 0 else 1
theorem fi_yes {xs : List Int} (h : okF xs = true) : fiC xs = readC ((xs.drop 1).take 37) ∧ fiE xs = 0 := by unfold fiC fiE; rw [if_pos h, if_pos h]; exact ⟨rfl, rfl⟩
theorem fi_no {xs : List Int} (h : okF xs = false) : fiC xs = zeroC ∧ fiE xs = 1 := by unfold fiC fiE; rw [h]; exact ⟨rfl, rfl⟩
theorem okF_short {xs : List Int} (h : xs.length < 42) : okF xs = false := by
  unfold okF
  rw [decide_eq_false (by omega), Bool.false_and]
theorem str_eq (a b : ByteArray) : (a.toList == b.toList) = decide (a = b) := by
  rw [ByteArray.toList_eq, ByteArray.toList_eq, Bool.eq_iff_iff, beq_iff_eq, decide_eq_true_eq]
  constructor
  · intro h
    obtain ⟨⟨a⟩⟩ := a
    obtain ⟨⟨b⟩⟩ := b
    simp only at h
    rw [h]
  · intro h
    rw [h]
/-- The frame of what stands behind the first byte is what stands first. -/
theorem okF_str (s : ByteArray) (hs : 42 ≤ s.size) : okF (bs s) = decide (strOfNums (frameB (bs (s.extract 1 38))) = s.extract 0 42) := by
  have hl : ((bs s).drop 1).length = s.size - 1 := by rw [List.length_drop, bs_len]
  have hB : isB (frameB (bs (s.extract 1 38))) := isB_frame (isB_bs _) (by rw [bs_len, size_sub s 1 38 (by omega) (by omega)]; omega)
  unfold okF
  rw [bs_len, decide_eq_true hs, Bool.true_and, decide_eq_decide, bs_sub]
  have e : (bs s).take 42 = bs (s.extract 0 42) := by rw [bs_extract]; simp
  rw [e]
  constructor
  · intro h
    rw [h, str_bs]
  · intro h
    rw [bs_sub] at hB
    rw [← h, bs_str hB]
set_option maxRecDepth 20000 in
set_option maxHeartbeats 800000 in
theorem first_any (s : ByteArray) (w : World) :
    Calls Try.prog 29 #[.string s] w fun e w' => e = .returned (.tuple #[cmV (fiC (bs s)), .int .i64 (fiE (bs s))]) ∧ Below w.heap.size w w' := by
  by_cases hs : s.size < 42
  · obtain ⟨e1, e2⟩ := fi_no (okF_short (xs := bs s) (by rw [bs_len]; exact hs))
    rw [e1, e2]
    go_enter Try.func29, Try.ntmps29
    go_wp2
    exact bodyPost_ret (v := .tuple #[cmV zeroC, .int .i64 1]) (by simp [results, Try.results29, go_sem, zeroC]) rfl ⟨rfl, bl1 w _⟩
  · have hs' : 42 ≤ s.size := by omega
    have ht := size_sub s 1 38 (by omega) (by omega)
    have hok := okF_str s hs'
    have hfr := frame_yes (s.extract 1 38)
    have hrd := read_yes (s.extract 1 38)
    rw [bs_sub] at hrd
    rw [← str_eq] at hok
    have hbx : ∀ w1, Below (w.alloc (.cells #[.int .i64 0, .int .i64 0, .int .i64 0, .int .i64 0, .int .i64 0, .int .i64 0, .int .i64 0, .int .i64 0, .int .i64 0, .int .i64 0] 27)).heap.size (w.alloc (.cells #[.int .i64 0, .int .i64 0, .int .i64 0, .int .i64 0, .int .i64 0, .int .i64 0, .int .i64 0, .int .i64 0, .int .i64 0, .int .i64 0] 27)) w1 → w1.heap[w.heap.size]? = some (.cells #[.int .i64 0, .int .i64 0, .int .i64 0, .int .i64 0, .int .i64 0, .int .i64 0, .int .i64 0, .int .i64 0, .int .i64 0, .int .i64 0] 27) :=
      fun w1 hb1 => (hb1.block w.heap.size (by simp)).trans (heap_new _ rfl)
    cases h : okF (bs s)
    · obtain ⟨e1, e2⟩ := fi_no h
      rw [e1, e2]
      rw [h] at hok
      have hok' := hok.symm
      clear hok
      go_enter Try.func29, Try.ntmps29
      go_wp2_with (go_at_call 11; refine (hfr _ (by omega)).mono ?_; rintro e w1 ⟨rfl, hb1⟩; obtain ⟨hc, hf⟩ := box_cells (hbx w1 hb1))
      refine bodyPost_ret (v := .tuple #[cmV zeroC, .int .i64 1]) (by simp [results, Try.results29, go_sem, zeroC, hc]) rfl ⟨rfl, ?_⟩
      (repeat refine Below.setCell ?_ (by simp) _)
      exact (bl1 w _).trans (hb1.mono (by simp))
    · obtain ⟨e1, e2⟩ := fi_yes h
      rw [e1, e2]
      rw [h] at hok
      have hok' := hok.symm
      clear hok
      go_enter Try.func29, Try.ntmps29
      go_wp2_with (first | (go_at_call 11; refine (hfr _ (by omega)).mono ?_; rintro e w1 ⟨rfl, hb1⟩; obtain ⟨hc, hf⟩ := box_cells (hbx w1 hb1)) | (go_at_call 9; refine (hrd _ ht).mono ?_; rintro e w2 ⟨rfl, hb2⟩; obtain ⟨hc2, hf2⟩ := box_cells (heap_later hb2 (hbx w1 hb1))))
      refine bodyPost_ret (v := .tuple #[cmV (readC (((bs s).drop 1).take 37)), .int .i64 0]) (by simp [results, Try.results29, go_sem, hc2]) rfl ⟨rfl, ?_⟩
      (repeat refine Below.setCell ?_ (by simp) _)
      have hB1 := (bl1 w _).trans (hb1.mono (by simp))
      exact hB1.trans (hb2.mono hB1.size)
end Go.Proofs.Ytlledongbfjkiaa
