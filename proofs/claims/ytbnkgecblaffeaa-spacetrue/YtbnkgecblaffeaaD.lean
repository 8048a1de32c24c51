/- What InsideOf, Meet and UpOf of package parcelwayref come to. -/
import Derived.Test.YtbnkgecblaffeaaC
namespace Go.Proofs.Ytbnkgecblaffeaa
open Go.RowKit

theorem ins_no1 {a l c m : Int} (h : rt a l = false) : ins a l c m = false := by unfold ins; rw [h]; rfl
theorem ins_no2 {a l c m : Int} (h : rt c m = false) : ins a l c m = false := by unfold ins; rw [h]; simp
theorem mts_no1 {a l c m : Int} (h : rt a l = false) : mts a l c m = false := by unfold mts; rw [ins_no1 h, ins_no2 h]; rfl
theorem mts_no2 {a l c m : Int} (h : rt c m = false) : mts a l c m = false := by unfold mts; rw [ins_no2 h, ins_no1 h]; rfl

set_option maxHeartbeats 800000 in
theorem insideOf_any (a l c m : Int) (w : World) :
    Calls Try.prog 29 #[.agg #[.int .i64 a, .int .i64 l], .agg #[.int .i64 c, .int .i64 m]] w fun e w' => e = .returned (.bool (ins a l c m)) ∧ Below w.heap.size w w' := by
  obtain ⟨d0, d1, d2, d3⟩ := two_cells w a l c m 23
  cases h1 : rt a l
  · rw [ins_no1 h1]
    go_enter Try.func29, Try.ntmps29
    go_wp2
    refine wp_region_ws (w.heap.size + 1 + 1) (by kernel_rfl) (by kernel_rfl) ?_
    repeat (go_big_quiet_step ((go_at_call 28; exact Calls.in_ws (by simp) (h1 ▸ right_any _ _ _))))
    refine wpQuiet_nil ?_
    rintro _ ⟨u, rfl⟩
    have hu := (bl2 w _ _).trans (u.property.mono (by omega))
    go_wp2
    go_ret
    exact ⟨rfl, hu⟩
  · cases h2 : rt c m
    · rw [ins_no2 h2]
      go_enter Try.func29, Try.ntmps29
      go_wp2
      refine wp_region_ws (w.heap.size + 1 + 1) (by kernel_rfl) (by kernel_rfl) ?_
      repeat (go_big_quiet_step (first | (go_at_call_of 28 a; exact Calls.in_ws (by simp) (h1 ▸ right_any a l _)) | (go_at_call_of 28 c; exact Calls.in_ws (by simp) (h2 ▸ right_any c m _))))
      refine wpQuiet_nil ?_
      rintro _ ⟨u, rfl⟩
      have hu := (bl2 w _ _).trans (u.property.mono (by omega))
      go_wp2
      go_ret
      exact ⟨rfl, hu⟩
    · rw [ins_iff a l c m h1 h2]
      obtain ⟨l0, l1, a0, a1, -⟩ := rt_range h1
      cases h3 : hld c m a
      · go_enter Try.func29, Try.ntmps29
        go_wp2
        refine wp_region_ws (w.heap.size + 1 + 1) (by kernel_rfl) (by kernel_rfl) ?_
        repeat (go_big_quiet_step (first | (go_at_call_of 28 a; exact Calls.in_ws (by simp) (h1 ▸ right_any a l _)) | (go_at_call_of 28 c; exact Calls.in_ws (by simp) (h2 ▸ right_any c m _)) | (go_at_call 34; exact Calls.in_ws (by simp) (h3 ▸ holdsIt_any _ _ _ _))))
        refine wpQuiet_nil ?_
        rintro _ ⟨u, rfl⟩
        have hu := (bl2 w _ _).trans (u.property.mono (by omega))
        go_wp2
        go_ret
        exact ⟨rfl, hu⟩
      · go_enter Try.func29, Try.ntmps29
        go_wp2
        refine wp_region_ws (w.heap.size + 1 + 1) (by kernel_rfl) (by kernel_rfl) ?_
        repeat (go_big_quiet_step (first | (go_at_call_of 28 a; exact Calls.in_ws (by simp) (h1 ▸ right_any a l _)) | (go_at_call_of 28 c; exact Calls.in_ws (by simp) (h2 ▸ right_any c m _)) | (go_at_call_of 34 (sp l); exact Calls.in_ws (by simp) (holdsIt_any c m (a + sp l - 1) _)) | (go_at_call 34; exact Calls.in_ws (by simp) (h3 ▸ holdsIt_any c m a _)) | (go_at_call 32; exact Calls.in_ws (by simp) (last_any _ _ _ (by omega) (by omega) (by omega) (by omega)))))
        refine wpQuiet_nil ?_
        rintro _ ⟨u, rfl⟩
        have hu := (bl2 w _ _).trans (u.property.mono (by omega))
        go_wp2
        go_ret
        exact ⟨ret_bool (by simp), hu⟩

set_option maxHeartbeats 800000 in
theorem meet_any (a l c m : Int) (w : World) :
    Calls Try.prog 30 #[.agg #[.int .i64 a, .int .i64 l], .agg #[.int .i64 c, .int .i64 m]] w fun e w' => e = .returned (.bool (mts a l c m)) ∧ Below w.heap.size w w' := by
  obtain ⟨d0, d1, d2, d3⟩ := two_cells w a l c m 23
  cases h1 : rt a l
  · rw [mts_no1 h1]
    go_enter Try.func30, Try.ntmps30
    go_wp2
    refine wp_region_ws (w.heap.size + 1 + 1) (by kernel_rfl) (by kernel_rfl) ?_
    repeat (go_big_quiet_step ((go_at_call 28; exact Calls.in_ws (by simp) (h1 ▸ right_any _ _ _))))
    refine wpQuiet_nil ?_
    rintro _ ⟨u, rfl⟩
    have hu := (bl2 w _ _).trans (u.property.mono (by omega))
    go_wp2
    go_ret
    exact ⟨rfl, hu⟩
  · cases h2 : rt c m
    · rw [mts_no2 h2]
      go_enter Try.func30, Try.ntmps30
      go_wp2
      refine wp_region_ws (w.heap.size + 1 + 1) (by kernel_rfl) (by kernel_rfl) ?_
      repeat (go_big_quiet_step (first | (go_at_call_of 28 a; exact Calls.in_ws (by simp) (h1 ▸ right_any a l _)) | (go_at_call_of 28 c; exact Calls.in_ws (by simp) (h2 ▸ right_any c m _))))
      refine wpQuiet_nil ?_
      rintro _ ⟨u, rfl⟩
      have hu := (bl2 w _ _).trans (u.property.mono (by omega))
      go_wp2
      go_ret
      exact ⟨rfl, hu⟩
    · rw [mts_iff a l c m h1 h2]
      obtain ⟨l0, l1, a0, a1, -⟩ := rt_range h1
      obtain ⟨m0, m1, c0, c1, -⟩ := rt_range h2
      by_cases h3 : a ≤ c + sp m - 1
      · go_enter Try.func30, Try.ntmps30
        go_wp2
        refine wp_region_ws (w.heap.size + 1 + 1) (by kernel_rfl) (by kernel_rfl) ?_
        repeat (go_big_quiet_step (first | (go_at_call_of 28 a; exact Calls.in_ws (by simp) (h1 ▸ right_any a l _)) | (go_at_call_of 28 c; exact Calls.in_ws (by simp) (h2 ▸ right_any c m _)) | (go_at_call_of 32 a; exact Calls.in_ws (by simp) (last_any a l _ (by omega) (by omega) (by omega) (by omega))) | (go_at_call_of 32 c; exact Calls.in_ws (by simp) (last_any c m _ (by omega) (by omega) (by omega) (by omega)))))
        refine wpQuiet_nil ?_
        rintro _ ⟨u, rfl⟩
        have hu := (bl2 w _ _).trans (u.property.mono (by omega))
        go_wp2
        go_ret
        exact ⟨ret_bool (by rw [decide_eq_true h3]; rfl), hu⟩
      · have hd : decide (a ≤ c + sp m - 1) = false := by simpa using h3
        go_enter Try.func30, Try.ntmps30
        go_wp2
        refine wp_region_ws (w.heap.size + 1 + 1) (by kernel_rfl) (by kernel_rfl) ?_
        repeat (go_big_quiet_step (first | (go_at_call_of 28 a; exact Calls.in_ws (by simp) (h1 ▸ right_any a l _)) | (go_at_call_of 28 c; exact Calls.in_ws (by simp) (h2 ▸ right_any c m _)) | (go_at_call_of 32 c; exact Calls.in_ws (by simp) (last_any c m _ (by omega) (by omega) (by omega) (by omega)))))
        refine wpQuiet_nil ?_
        rintro _ ⟨u, rfl⟩
        have hu := (bl2 w _ _).trans (u.property.mono (by omega))
        go_wp2
        go_ret
        exact ⟨ret_bool (by first | (rw [hd]; rfl) | rfl), hu⟩
end Go.Proofs.Ytbnkgecblaffeaa
