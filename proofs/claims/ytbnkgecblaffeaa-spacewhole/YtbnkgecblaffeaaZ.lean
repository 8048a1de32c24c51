/- What must be in any case of spaces: spaceBegun answers true. -/
import Derived.Test.YtbnkgecblaffeaaO
namespace Go.Proofs.Ytbnkgecblaffeaa
open Go.RowKit Go.Shelf

theorem half_any (w : World) :
    Calls Try.prog 35 #[] w fun e w' => (∃ b, e = .returned (.agg #[.int .i64 256, .int .i64 8, .slice (some ⟨b, 0, none⟩) 1 1]) ∧ PS w' (some ⟨b, 0, none⟩) 1 [(320, 10)]) ∧ Below w.heap.size w w' := by
  go_enter Try.func35, Try.ntmps35
  go_wp2
  refine bodyPost_ret (v := .agg #[.int .i64 256, .int .i64 8, .slice (some ⟨w.heap.size + 1, 0, none⟩) 1 1]) (by simp [results, Try.results35, go_sem]) rfl ⟨⟨_, rfl, ?_⟩, ?_⟩
  · refine ⟨rfl, fun i hi => ?_⟩
    obtain rfl : i = 0 := by omega
    exact ⟨_, _, rfl, by simp [at0], by simp [at1]⟩
  · exact bl2 w _ _

theorem begun_chk : chkS 256 8 1 [(320, 10)] = 0 := by decide +kernel
theorem begun_fit : fitS 256 8 1 [(320, 10)] 9 = some 384 := by decide +kernel
theorem begun_fitE : fitE 256 8 1 [(320, 10)] 9 = 0 := by decide +kernel
theorem begun_hol : holS 256 8 1 [(320, 10)] = [(256, 10), (384, 9)] := by decide +kernel
theorem begun_claim : claimE 256 8 1 [(320, 10)] 256 16 = 0 := by decide +kernel
theorem begun_chk2 : chkS 256 8 2 [(256, 16), (320, 10)] = 0 := by decide +kernel
theorem begun_put {qs : List (Int × Int)} (h : PutAt [(320, 10)] 256 16 qs) : qs = [(256, 16), (320, 10)] := by
  obtain ⟨i, hi, h1, h2, rfl⟩ := h.ex
  rcases i with _ | _ | i
  · rfl
  · exact absurd (h1 0 (by omega)) (by decide)
  · simp at hi
theorem begun_eq : (∀ j, j < 2 → eqAt [(256, 16), (320, 10)] 320 10 j = false) → False := fun h => by
  have := h 1 (by omega)
  revert this
  decide

set_option maxRecDepth 100000 in
set_option maxHeartbeats 1600000 in
theorem begun_any (w : World) :
    Calls Try.prog 12 #[] w fun e w' => e = .returned (.bool true) ∧ Below w.heap.size w w' := by
  go_enter Try.func12, Try.ntmps12
  go_wp2_with fail
  refine (half_any _).mono ?_
  rintro e w1 ⟨⟨b1, rfl, hp1⟩, hb1⟩
  go_wp2_with fail
  have hf := fit_any 256 8 (some ⟨b1, 0, none⟩) 1 1 [(320, 10)] 9 w1 (fun _ => hp1)
  rw [begun_fit, begun_fitE] at hf
  refine hf.mono ?_
  rintro e w2 ⟨rfl, hb2⟩
  have hB2 := hb1.trans (hb2.mono hb1.size)
  simp only [fitV]
  clear hf hp1
  go_wp2_with fail
  refine (half_any _).mono ?_
  rintro e w3 ⟨⟨b3, rfl, hp3⟩, hb3⟩
  have q3 : w3.heap[w2.heap.size]? = some (.cells #[.int .i64 384, .int .i64 9] 23) := (hb3.block _ (by simp)).trans (heap_new _ rfl)
  have hB3 := hB2.trans (((bl1 w2 (.cells #[.int .i64 384, .int .i64 9] 23)).trans (hb3.mono (by simp))).mono hB2.size)
  clear hb3 hb2 hb1 hB2
  go_wp2_with fail
  have hh := holes_any 256 8 (some ⟨b3, 0, none⟩) 1 1 [(320, 10)] w3 (fun _ => hp3)
  rw [begun_hol, begun_chk, show ([(256, 10), (384, 9)] : List (Int × Int)).length = 2 from rfl] at hh
  refine hh.mono ?_
  rintro e w4 ⟨x4, c4, rfl, hb4, hp4⟩
  have q4 := (hb4.block _ (Array.getElem?_eq_some_iff.1 q3).1).trans q3
  have hB4 := hB3.trans (hb4.mono hB3.size)
  clear hh hp3 q3 hB3 hb4
  go_wp2_with fail
  refine (half_any _).mono ?_
  rintro e w5 ⟨⟨b5, rfl, hp5⟩, hb5⟩
  have q5 := (hb5.block _ (Array.getElem?_eq_some_iff.1 q4).1).trans q4
  have h45 := hp4.later hb5
  have hB5 := hB4.trans (hb5.mono hB4.size)
  clear hb5 q4 hp4 hB4
  go_wp2_with fail
  refine (claim_any 256 8 256 16 (some ⟨b5, 0, none⟩) 1 1 [(320, 10)] w5 (fun _ => hp5) (by omega) (by omega) (.inr (.inr ⟨b5, 0, rfl⟩))).mono ?_
  rintro e w6 ⟨hb6, (⟨hne, -⟩ | ⟨-, x6, c6, qs, rfl, hput, hp6, hc6, hc6', -⟩)⟩
  · exact absurd begun_claim hne
  obtain rfl := begun_put hput
  have q6 := (hb6.block _ (Array.getElem?_eq_some_iff.1 q5).1).trans q5
  have h46 := h45.later hb6
  have hB6 := hB5.trans (hb6.mono hB5.size)
  clear hb6 q5 h45 hB5 hput hp5
  go_wp2_with fail
  refine (free_any 256 8 320 10 x6 2 c6 [(256, 16), (320, 10)] _ (fun _ => hp6.later (bl1 w6 _)) hc6 hc6').mono ?_
  rintro e w7 ⟨hb7, (⟨hne, -⟩ | ⟨-, hno, -⟩ | ⟨-, i, hi, heq, -, x7, c7, rfl, hp7⟩)⟩
  · exact absurd begun_chk2 hne
  · exact (begun_eq hno).elim
  have s7 : w7.heap[w6.heap.size]? = some (.cells #[.int .i64 256, .int .i64 8, .slice x6 2 c6] 26) := (hb7.block _ (by simp)).trans (heap_new _ rfl)
  have hb67 : Below w6.heap.size w6 w7 := (bl1 w6 _).trans (hb7.mono (by simp))
  have q7 := (hb67.block _ (Array.getElem?_eq_some_iff.1 q6).1).trans q6
  have h47 := h46.later hb67
  have hB7 := hB6.trans (hb67.mono hB6.size)
  clear hb7 hb67 q6 h46 hB6 hp7
  obtain ⟨p0, p1, -, -⟩ := box2 q7
  have k0 : ∀ o, (w7.alloc o).cell? ⟨w2.heap.size, 0, none⟩ = some (.int .i64 384) := fun o => cell_later (bl1 w7 o) p0
  have k1 : ∀ o, (w7.alloc o).cell? ⟨w2.heap.size, 1, none⟩ = some (.int .i64 9) := fun o => cell_later (bl1 w7 o) p1
  go_wp2_with fail
  have hq : PS ((w7.alloc (.cells #[.int .i64 256, .int .i64 8, .slice x7 1 c7] 26)).alloc (.cells #[.int .i64 256, .int .i64 10, .int .i64 384, .int .i64 9] 23)) (some ⟨w7.heap.size + 1, 0, none⟩) 2 [(256, 10), (384, 9)] := ⟨rfl, fun i hi => by
    have h := heap_new (W := w7.alloc (.cells #[.int .i64 256, .int .i64 8, .slice x7 1 c7] 26)) (k := w7.heap.size + 1) (.cells #[.int .i64 256, .int .i64 10, .int .i64 384, .int .i64 9] 23) (by simp)
    rcases i with _ | _ | i
    · exact ⟨_, _, rfl, by simp only [World.cell?, h]; rfl, by simp only [World.cell?, h]; rfl⟩
    · exact ⟨_, _, rfl, by simp only [World.cell?, h]; rfl, by simp only [World.cell?, h]; rfl⟩
    · omega⟩
  have hs := samePrefixes_any x4 (some ⟨w7.heap.size + 1, 0, none⟩) 2 2 c4 2 [(256, 10), (384, 9)] [(256, 10), (384, 9)] _ (h47.later (bl2 w7 (.cells #[.int .i64 256, .int .i64 8, .slice x7 1 c7] 26) (.cells #[.int .i64 256, .int .i64 10, .int .i64 384, .int .i64 9] 23))) hq (by omega) (by omega)
  rw [decide_eq_true (rfl : ([(256, 10), (384, 9)] : List (Int × Int)) = [(256, 10), (384, 9)])] at hs
  refine hs.mono ?_
  rintro e w8 ⟨rfl, hb8⟩
  have t8 : w8.heap[w7.heap.size]? = some (.cells #[.int .i64 256, .int .i64 8, .slice x7 1 c7] 26) := (hb8.block _ (by simp; omega)).trans (heap_old _ (heap_new _ rfl))
  have hb78 : Below w7.heap.size w7 w8 := (bl2 w7 _ _).trans (hb8.mono (by simp; omega))
  have s8 := (hb78.block _ (Array.getElem?_eq_some_iff.1 s7).1).trans s7
  have hB8 := hB7.trans (hb78.mono hB7.size)
  obtain ⟨-, -, u0, -⟩ := box3 t8
  obtain ⟨-, -, u1, -⟩ := box3 s8
  clear hs hq hb8 k0 k1 p0 p1
  go_wp2
  go_ret
  exact ⟨rfl, hB8⟩
end Go.Proofs.Ytbnkgecblaffeaa
