/- What must be in any case of bytes: plan and wireBegun of package parcelwaylaw. -/
import Derived.Test.YtlledongbfjkiaaWl
namespace Go.Proofs.Ytlledongbfjkiaa
open Go.RowKit

def planC : List Cm := [⟨1, 7, 0, 0, 256, 8, 8, 16, 12, 3⟩, ⟨7, 1, 0, 0, 0, 0, 0, 0, 0, 0⟩, ⟨7, 2, 0, 0, 0, 0, 0, 0, 0, 0⟩, ⟨8, 1, 7, 10, 0, 0, 0, 0, 0, 0⟩, ⟨8, 2, 7, 0, 0, 0, 0, 0, 0, 0⟩, ⟨15, 2, 1, 0, 0, 0, 0, 0, 0, 0⟩, ⟨10, 1, 4, 0, 256, 14, 0, 0, 0, 0⟩, ⟨12, 1, 4, 9, 0, 0, 0, 0, 0, 0⟩, ⟨9, 2, 0, 0, 320, 12, 0, 0, 0, 0⟩, ⟨6, 7, 0, 0, 256, 10, 0, 0, 0, 0⟩]
theorem CS.of_block {w : World} {b : Nat} {cs : List Cm} {t : TypeId} (h : w.heap[b]? = some (.cells (flatC cs).toArray t)) : CS w (some ⟨b, 0, none⟩) cs.length cs := by
  obtain ⟨hc, -⟩ := box_cells h
  refine ⟨rfl, fun i hi => ⟨b, 0, rfl, ?_⟩⟩
  have e : ∀ j, j < 10 → ∀ u, (cellsC (cmAt cs i))[j]? = some u → w.cell? ⟨b, 0 + i * 10 + j, none⟩ = some u := fun j hj u hu => by
    rw [hc, Nat.zero_add, List.getElem?_toArray, flatC_at cs i j hi hj]
    exact hu
  exact ⟨e 0 (by omega) _ rfl, e 1 (by omega) _ rfl, e 2 (by omega) _ rfl, e 3 (by omega) _ rfl, e 4 (by omega) _ rfl, e 5 (by omega) _ rfl, e 6 (by omega) _ rfl, e 7 (by omega) _ rfl, e 8 (by omega) _ rfl, e 9 (by omega) _ rfl⟩
set_option maxRecDepth 20000 in
theorem loose_any (w : World) : Calls Try.prog 30 #[] w fun e w' => e = .returned (.agg #[.int .i64 8, .int .i64 16, .int .i64 12, .int .i64 3]) ∧ Below w.heap.size w w' := by
  go_enter Try.func30, Try.ntmps30
  go_wp2
  exact bodyPost_ret (v := .agg #[.int .i64 8, .int .i64 16, .int .i64 12, .int .i64 3]) (by simp [results, Try.results30, go_sem]) rfl ⟨rfl, bl1 w _⟩
set_option maxRecDepth 20000 in
set_option maxHeartbeats 1600000 in
theorem plan_any (w : World) : Calls Try.prog 28 #[] w fun e w' => ∃ b, e = .returned (.slice (some ⟨b, 0, none⟩) 10 10) ∧ CS w' (some ⟨b, 0, none⟩) 10 planC ∧ Below w.heap.size w w' := by
  go_enter Try.func28, Try.ntmps28
  go_wp2_with (go_at_call 30; refine (loose_any _).mono ?_; rintro e w1 ⟨rfl, hb1⟩)
  go_ret
  exact ⟨w1.heap.size, rfl, CS.of_block (cs := planC) (t := 27) (heap_new _ rfl), hb1.alloc hb1.size _⟩

theorem plan_ok : loE planC = 0 := by decide +kernel
theorem plan_all : ∀ c ∈ planC, okCm c = true := by decide +kernel
theorem plan_s : loS planC = logB planC := by
  unfold loS
  rw [if_pos (by decide +kernel), if_neg (by decide)]
def strX : ByteArray := strOfNums (logB planC ++ [120])
theorem strX_bs : bs strX = logB planC ++ [120] := by
  refine bs_str (isB_append (fun x hx => ?_) (isB_cons (by omega) (fun x hx => by cases hx)))
  obtain ⟨c, hc, hx⟩ := List.mem_flatMap.1 hx
  exact isB_frame (isB_cmdB c) (by rw [cmdB_len]; omega) x hx
theorem strX_rp : rp 200 (bs strX) = planC := by
  rw [strX_bs, rp_more planC 200 [120] plan_all (by decide), rp_no (okF_short (by decide)), List.append_nil]
theorem strX_size : strX.size = 421 := by
  rw [← bs_len, strX_bs, List.length_append, logB_len]
  rfl
theorem replay_plan (w : World) :
    Calls Try.prog 16 #[.string strX] w fun e w' => ∃ x cap, e = .returned (.tuple #[.slice x 10 cap, .int .i64 420, .int .i64 0]) ∧ Below w.heap.size w w' ∧ CS w' x 10 planC := by
  refine (replay_few strX w (by rw [strX_size]; omega)).mono ?_
  rintro e w' ⟨x, cap, he, hb, -, -, hc⟩
  rw [strX_rp] at he hc
  exact ⟨x, cap, he, hb, hc⟩
theorem frame_ab (w : World) :
    Calls Try.prog 11 #[.string ⟨#[97, 98]⟩] w fun e w' => e = .returned (.tuple #[.string ⟨#[2, 97, 98, 234, 1, 0, 0]⟩, .int .i64 0]) ∧ Below w.heap.size w w' := by
  have h := frame_yes ⟨#[97, 98]⟩ w (by decide)
  rw [show strOfNums (frameB (bs ⟨#[97, 98]⟩)) = ⟨#[2, 97, 98, 234, 1, 0, 0]⟩ by decide +kernel] at h
  exact h
theorem begun_parts : ∃ t tx : ByteArray, (∀ (b : Nat) (W : World), CS W (some ⟨b, 0, none⟩) 10 planC → Calls Try.prog 14 #[.slice (some ⟨b, 0, none⟩) 10 10] W fun e w' => e = .returned (.tuple #[.string t, .int .i64 0]) ∧ Below W.heap.size W w') ∧ t.size = 420 ∧
    (∀ W, (Op.stringOp .add t ⟨#[120]⟩).run Try.prog W = .ok (.string tx) W) ∧ (∀ W, Calls Try.prog 16 #[.string tx] W fun e w' => ∃ x cap, e = .returned (.tuple #[.slice x 10 cap, .int .i64 420, .int .i64 0]) ∧ Below W.heap.size W w' ∧ CS w' x 10 planC) := by
  have hlg := fun b W h => log_any (some ⟨b, 0, none⟩) 10 10 planC W h (by omega)
  rw [plan_ok, plan_s] at hlg
  have hsz : (strOfNums (logB planC)).size = 420 := by rw [strOfNums_size, logB_len]; rfl
  have hadd := fun w => run_string_add_sum (P := Try.prog) (w := w) (strOfNums (logB planC)) ⟨#[120]⟩ (by rw [hsz]; decide)
  rw [show (strOfNums (logB planC) ++ ⟨#[120]⟩ : ByteArray) = strX from by rw [show (⟨#[120]⟩ : ByteArray) = strOfNums [120] by decide +kernel, str_app]; rfl] at hadd
  exact ⟨_, _, hlg, hsz, hadd, replay_plan⟩
/-- The fourth of the plan. -/
theorem plan_3 (w : World) : Calls Try.prog 28 #[] w fun e w' => ∃ b, e = .returned (.slice (some ⟨b, 0, none⟩) 10 10) ∧ (w'.cell? ⟨b, 30, none⟩ = some (.int .i64 8) ∧ w'.cell? ⟨b, 31, none⟩ = some (.int .i64 1) ∧ w'.cell? ⟨b, 32, none⟩ = some (.int .i64 7) ∧ w'.cell? ⟨b, 33, none⟩ = some (.int .i64 10) ∧ w'.cell? ⟨b, 34, none⟩ = some (.int .i64 0) ∧ w'.cell? ⟨b, 35, none⟩ = some (.int .i64 0) ∧ w'.cell? ⟨b, 36, none⟩ = some (.int .i64 0) ∧ w'.cell? ⟨b, 37, none⟩ = some (.int .i64 0) ∧ w'.cell? ⟨b, 38, none⟩ = some (.int .i64 0) ∧ w'.cell? ⟨b, 39, none⟩ = some (.int .i64 0)) ∧ Below w.heap.size w w' := by
  refine (plan_any w).mono ?_
  rintro e w' ⟨b, rfl, hc, hb⟩
  obtain ⟨b6, o6, hb56, d0, d1, d2, d3, d4, d5, d6, d7, d8, d9⟩ := hc.cells 3 (by omega)
  simp only [Option.some.injEq, Addr.mk.injEq] at hb56
  obtain ⟨rfl, rfl, -⟩ := hb56
  exact ⟨b, rfl, ⟨d0, d1, d2, d3, d4, d5, d6, d7, d8, d9⟩, hb⟩
end Go.Proofs.Ytlledongbfjkiaa
