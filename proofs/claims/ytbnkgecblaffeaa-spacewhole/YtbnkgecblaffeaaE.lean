/- What Halves and Up of package cidr, and UpOf of package parcelwayref, come to. -/
import Derived.Test.YtbnkgecblaffeaaD
import Derived.Deep.RegionHeld3
namespace Go.Proofs.Ytbnkgecblaffeaa
open Go.RowKit

def halvesE (a l : Int) : Int := if chk a l = 0 ∧ l = 16 then 3 else chk a l
def upE (a l : Int) : Int := if chk a l = 0 ∧ l = 0 then 3 else chk a l

theorem chk_of_rt {a l : Int} (h : rt a l = true) : chk a l = 0 := by unfold rt at h; simpa using h
theorem chk_ne {a l : Int} (h : rt a l = false) : (chk a l == 0) = false := by unfold rt at h; exact h
theorem chk_ne' {a l : Int} (h : rt a l = false) : chk a l ≠ 0 := by have := chk_ne h; simpa using this

theorem cell_set_ne {w : World} {b o b' o' : Nat} {v : Value} (h : b ≠ b') : (w.setCell ⟨b', o', none⟩ v).cell? ⟨b, o, none⟩ = w.cell? ⟨b, o, none⟩ :=
  World.cell?_of_block (Below.heap_setCell _ _ _ _ h)
theorem cell_drew {w : World} {p : Addr} : w.drew.cell? p = w.cell? p := rfl

set_option maxHeartbeats 800000 in
theorem halves_bad (a l : Int) (w : World) (h : rt a l = false) :
    Calls Try.prog 49 #[.agg #[.int .i64 a, .int .i64 l]] w fun e w' => e = .returned (.tuple #[.agg #[.int .i64 0, .int .i64 0], .agg #[.int .i64 0, .int .i64 0], .int .i64 (chk a l)]) ∧ Below w.heap.size w w' := by
  have hb : (chk a l == 0) = false := chk_ne h
  have hb2 : (chk a l != 0) = true := by simp [bne, hb]
  go_enter Try.func49, Try.ntmps49
  go_wp2_with fail
  refine (check_any a l _).mono ?_
  rintro e w1 ⟨rfl, hb1⟩
  obtain ⟨hc, hf⟩ := bcell hb1
  simp only [World.size_alloc] at hc hf
  have hB : Below w.heap.size w w1 := ((bl2 w _ _).alloc (by simp; omega) _).trans (hb1.mono (by simp; omega))
  clear hb1
  go_wp2
  refine bodyPost_ret (v := .tuple #[.agg #[.int .i64 0, .int .i64 0], .agg #[.int .i64 0, .int .i64 0], .int .i64 (chk a l)]) (by simp [results, Try.results49, go_sem, hc]) rfl ⟨rfl, ?_⟩
  exact (((hB.setCell (by simp) _).setCell (by simp) _).setCell (by simp; omega) _).setCell (by simp; omega) _

set_option maxHeartbeats 800000 in
theorem halves_ok (a l : Int) (w : World) (h : rt a l = true) (h16 : l < 16) :
    Calls Try.prog 49 #[.agg #[.int .i64 a, .int .i64 l]] w fun e w' => e = .returned (.tuple #[.agg #[.int .i64 a, .int .i64 (l + 1)], .agg #[.int .i64 (a + sp (l + 1)), .int .i64 (l + 1)], .int .i64 0]) ∧ Below w.heap.size w w' := by
  have hc0 := chk_of_rt h
  have hb : (chk a l == 0) = true := by simp [hc0]
  have hb2 : (chk a l != 0) = false := by simp [hc0]
  have hl : (l == 16) = false := by simp; omega
  clear hc0
  obtain ⟨l0, l1, a0, a1, -⟩ := rt_range h
  have hp := sp_pos (l + 1)
  have hq := sp_le (l + 1)
  go_enter Try.func49, Try.ntmps49
  go_wp2_with fail
  refine (check_any a l _).mono ?_
  rintro e w1 ⟨rfl, hb1⟩
  obtain ⟨hc, hf⟩ := bcell hb1
  simp only [World.size_alloc] at hc hf
  have hB : Below w.heap.size w w1 := ((bl2 w _ _).alloc (by simp; omega) _).trans (hb1.mono (by simp; omega))
  clear hb1
  have e0 : w1.cell? ⟨w.heap.size, 0, none⟩ = some (.int .i64 a) := (hc _ _ (by omega)).trans (by go_simp)
  have e1 : w1.cell? ⟨w.heap.size, 1, none⟩ = some (.int .i64 l) := (hc _ _ (by omega)).trans (by go_simp)
  go_wp2
  go_region_held3 (fun w' => w'.cell? ⟨w.heap.size, 0, none⟩ = some (.int .i64 a)) (first | (go_keep; done) | (show World.cell? _ _ = _; rw [cell_drew]; (repeat rw [cell_set_ne (by omega)]); assumption)) (first | (go_at_call 44; refine (span_any _ _ (by omega) (by omega)).mono ?_; rintro e w2 ⟨rfl, rfl⟩) | fail)
  have hwr : IntKind.i64.wrap (a + sp (l + 1)) = a + sp (l + 1) := by rw [IntKind.wrap_i64]; omega
  rw [hwr]
  go_wp2
  refine bodyPost_ret (v := .tuple #[.agg #[.int .i64 a, .int .i64 (l + 1)], .agg #[.int .i64 (a + sp (l + 1)), .int .i64 (l + 1)], .int .i64 0]) (by simp [results, Try.results49, go_sem, hc]) rfl ⟨rfl, ?_⟩
  exact ((((hB.setCell (by simp) _).setCell (by simp) _).setCell (by simp; omega) _).setCell (by simp; omega) _).drew

set_option maxHeartbeats 800000 in
theorem halves_16 (a : Int) (w : World) (h : rt a 16 = true) :
    Calls Try.prog 49 #[.agg #[.int .i64 a, .int .i64 16]] w fun e w' => e = .returned (.tuple #[.agg #[.int .i64 0, .int .i64 0], .agg #[.int .i64 0, .int .i64 0], .int .i64 3]) ∧ Below w.heap.size w w' := by
  have hc0 := chk_of_rt h
  have hb : (chk a 16 == 0) = true := by simp [hc0]
  clear hc0
  go_enter Try.func49, Try.ntmps49
  go_wp2_with fail
  refine (check_any a 16 _).mono ?_
  rintro e w1 ⟨rfl, hb1⟩
  obtain ⟨hc, hf⟩ := bcell hb1
  simp only [World.size_alloc] at hc hf
  have hB : Below w.heap.size w w1 := ((bl2 w _ _).alloc (by simp; omega) _).trans (hb1.mono (by simp; omega))
  clear hb1
  go_wp2
  refine bodyPost_ret (v := .tuple #[.agg #[.int .i64 0, .int .i64 0], .agg #[.int .i64 0, .int .i64 0], .int .i64 3]) (by simp [results, Try.results49, go_sem, hc]) rfl ⟨rfl, ?_⟩
  exact (((hB.setCell (by simp) _).setCell (by simp) _).setCell (by simp; omega) _).setCell (by simp; omega) _

end Go.Proofs.Ytbnkgecblaffeaa
