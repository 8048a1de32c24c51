/- clear of what lies behind leases of the call's own. -/
import Derived.Test.YtpdoonkhnabfjaaGreatMO12
import Derived.Laws.CopyRow
namespace Go.Proofs.YtpdoonkhnabfjaaGreat
open Go.RowKit Go.Shelf

/-- The first i of them, in the same memory. -/
theorem OwnL.take {w : World} {base g n cap : Nat} {es : List Le} (h : OwnL w base (.slice (some ⟨g, 0, none⟩) n cap) es) (i : Nat) (hi : i ≤ es.length) : OwnL w base (.slice (some ⟨g, 0, none⟩) i cap) (es.take i) := by
  rcases h.2 with ⟨hv, -⟩ | ⟨g', cap', cur, hv, h1, h2, h3, h4, h5, h6⟩
  · simp at hv
  · simp only [Value.slice.injEq, Option.some.injEq, Addr.mk.injEq] at hv
    obtain ⟨⟨rfl, -⟩, rfl, rfl⟩ := hv
    have hl : (es.take i).length = i := by rw [List.length_take]; omega
    refine ⟨flatL_len _, .inr ⟨g, cap, cur, by rw [hl], h1, h2, by rw [hl]; omega, h4, h5, ?_⟩⟩
    have e : flatL es = flatL (es.take i) ++ flatL (es.drop i) := by rw [← flatL_app, List.take_append_drop]
    have e2 : (flatL (es.take i)).length = i * 5 := by rw [flatL_len, hl]
    rw [hl]
    have h7 : (cur.toList.take (es.length * 5)).take (i * 5) = (flatL es).take (i * 5) := by rw [h6]
    rw [List.take_take, show min (i * 5) (es.length * 5) = i * 5 by omega] at h7
    rw [h7]
    conv => lhs; rw [e]
    rw [← e2]
    exact List.take_left'  rfl
theorem zero_L (w : World) : (zeroValue 55).run Tryz.prog w = .ok (.agg #[.int .i64 0, .int .i64 0, .int .i64 0, .int .i64 0, .int .i64 0]) w := by
  obtain ⟨i0, hi, hz0, hz1, hz2⟩ := info_L'
  simp [zeroValue, typeInfo, hi, hz0]
theorem clearL_run {w : World} {base g m cap : Nat} {es : List Le} (hO : OwnL w base (.slice (some ⟨g, 0, none⟩) m cap) es) (n c : Nat) (hn : 0 < n) (hm : es.length + n ≤ cap) (ty : TypeId) :
    ∃ w', (Builtin.clear_ #[47] ty #[.slice (some ⟨g, es.length * 5, none⟩) n c]).run Tryz.prog w = .ok (.tuple #[]) w' ∧ OwnL w' base (.slice (some ⟨g, 0, none⟩) m cap) es ∧ w.grownBy w' (some g) := by
  rcases hO.2 with ⟨hv, -⟩ | ⟨g', cap', cur, hv, h1, h2, h3, h4, h5, h6⟩
  · simp at hv
  simp only [Value.slice.injEq, Option.some.injEq, Addr.mk.injEq] at hv
  obtain ⟨⟨rfl, -⟩, rfl, rfl⟩ := hv
  obtain ⟨zs, hzs⟩ : ∃ zs, zs = (Builtin.zeroCells (Value.agg #[.int .i64 0, .int .i64 0, .int .i64 0, .int .i64 0, .int .i64 0]).cells n).toList := ⟨_, rfl⟩
  have hzl : zs.length = n * 5 := by rw [hzs, Array.length_toList, size_zeroCells]; rfl
  have hz1 : ∀ v ∈ zs, v.oneCell' = true := by
    intro v hv
    rw [hzs] at hv
    simp [Builtin.zeroCells] at hv
    obtain ⟨j, -, rfl⟩ := hv
    have h8 : j % 5 < 5 := Nat.mod_lt _ (by decide)
    show (#[Value.int .i64 0, .int .i64 0, .int .i64 0, .int .i64 0, .int .i64 0][j % 5]!).oneCell' = true
    generalize j % 5 = q at h8
    rcases q with _ | _ | _ | _ | _ | q
    · rfl
    · rfl
    · rfl
    · rfl
    · rfl
    · exact absurd h8 (by omega)
  have h5' : cur.toList.length = cap * 5 := by simpa using h5
  have hst := run_storeCells_at (P := Tryz.prog) g (es.length * 5) 55 zs 0 cur w h2 (by rw [hzl]; omega) hz1
  simp only [Nat.add_zero] at hst
  have hls : (cur.toList.take (es.length * 5)).length = es.length * 5 := by rw [List.length_take, h5']; omega
  refine ⟨w.setRow g (cur.toList.take (es.length * 5) ++ zs ++ cur.toList.drop (es.length * 5 + zs.length)).toArray, ?_, ⟨flatL_len _, .inr ⟨g, cap, (cur.toList.take (es.length * 5) ++ zs ++ cur.toList.drop (es.length * 5 + zs.length)).toArray, rfl, h1, setRow_heap w g cur _ _ _ h2, h3, h4, ?_, ?_⟩⟩, ?_⟩
  · obtain ⟨k, rfl⟩ : ∃ k, n = k + 1 := ⟨n - 1, by omega⟩
    simp [Builtin.clear_, run_underlying under_L, ← hzs, hst]
  · simp only [List.size_toArray, List.length_append, hls, hzl, List.length_drop, h5']
    omega
  · rw [List.append_assoc, List.take_append_of_le_length (by rw [hls]; exact Nat.le_refl _), List.take_of_length_le (by rw [hls]; exact Nat.le_refl _)]
    exact h6
  · exact ⟨rfl, rfl, rfl, by simp, fun k _ hne => setRow_other w g k _ (fun e => hne (by rw [e]))⟩
end Go.Proofs.YtpdoonkhnabfjaaGreat
