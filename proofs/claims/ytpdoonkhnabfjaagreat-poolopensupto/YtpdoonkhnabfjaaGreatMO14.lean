/- slices.Delete of one lease. -/
import Derived.Test.YtpdoonkhnabfjaaGreatMO13
import Derived.Deep.DeepAppendRoom
import Derived.Laws.CopyRow
import Derived.Deep.RegionHeld3
namespace Go.Proofs.YtpdoonkhnabfjaaGreat
open Go.RowKit Go.Shelf

theorem OwnL.drew {w : World} {base : Nat} {v : Value} {es : List Le} (h : OwnL w base v es) : OwnL w.drew base v es := h.later (Below.refl _ _).drew
set_option maxRecDepth 20000 in
set_option maxHeartbeats 400000 in
theorem deleteL_any (base g k cap i j : Nat) (es : List Le) (w : World) (hO : OwnL w base (.slice (some ⟨g, 0, none⟩) (k + 1) cap) es) (hn : es.length = k + 1) (hi : i ≤ k) (hj : j = i + 1) (hn64 : k ≤ 64) (hnc : k + 1 ≤ cap) (hcm : cap ≤ 9223372036854775807) :
    Calls Tryz.prog 81 #[.slice (some ⟨g, 0, none⟩) (k + 1) cap, .int .i64 i, .int .i64 j] w fun e w' => e = .returned (.slice (some ⟨g, 0, none⟩) k cap) ∧ OwnL w' base (.slice (some ⟨g, 0, none⟩) k cap) (es.take i ++ es.drop j) ∧ w.grownBy w' (some g) := by
  obtain ⟨i0, hi0, hz0, hz1, hz2⟩ := info_L'
  have b1 : (0 : Int) ≤ i := by omega
  have b2 : (0 : Int) ≤ j := by omega
  have b3 : (i : Int) ≤ j := by omega
  have b4 : (j : Int) ≤ (k : Int) + 1 := by omega
  have b5 : (k : Int) + 1 ≤ cap := by omega
  have b6 : ¬ (i : Int) = j := by omega
  have b7 : (i : Int) ≤ cap := by omega
  have b8 : (k : Int) ≤ (k : Int) + 1 := by omega
  have c1 : i ≤ j := by omega
  have c2 : j ≤ k + 1 := by omega
  have c3 : i ≤ cap := by omega
  have c4 : ¬ i = j := by omega
  have c5 : ¬ cap = k := by omega
  have hlt : (es.take i).length = i := by rw [List.length_take]; omega
  have hld : (es.drop j).length = k + 1 - j := by rw [List.length_drop]; omega
  have hle : (es.take i ++ es.drop j).length = k := by rw [List.length_append, hlt, hld]; omega
  have hOi := (hO.take i (by omega)).drew
  unfold OwnL at hOi
  rw [hlt] at hOi
  have hrun := (hO.ls.1.run.later (Below.refl _ _).drew).drop (i := j) c2 hnc
  have hik : i + (k + 1 - j) = k := by omega
  have hfin : ∃ wa wb, (∀ q c', ((cap = j ∧ q = 0 ∧ c' = 0) ∨ (¬ cap = j ∧ q = j * 5 ∧ c' = cap - j)) → (Builtin.append_ #[47, 47] 47 #[.slice (some ⟨g, 0, none⟩) i cap, .slice (some ⟨g, q, none⟩) (k + 1 - j) c']).run Tryz.prog w.drew = .ok (.slice (some ⟨g, 0, none⟩) k cap) wa) ∧
      (∀ ty, (Builtin.clear_ #[47] ty #[.slice (some ⟨g, k * 5, none⟩) 1 (cap - k)]).run Tryz.prog wa = .ok (.tuple #[]) wb) ∧ OwnL wb base (.slice (some ⟨g, 0, none⟩) k cap) (es.take i ++ es.drop j) ∧ w.grownBy wb (some g) := by
    by_cases hcj : cap = j
    · rw [if_pos hcj] at hrun
      obtain ⟨wa, h1, h2, h3⟩ := run_append_own_spare (P := Tryz.prog) w.drew base 47 47 55 i0 5 under_L hi0 hz1 g i cap _ hOi ⟨g, 0, none⟩ (k + 1 - j) 0 (flatL (es.drop j)) (by rw [flatL_len, hld]) (hrun.2.2 _ rfl) (flatL_one _) (by omega)
      rw [hik] at h1 h2
      have hO2 : OwnL wa base (.slice (some ⟨g, 0, none⟩) k cap) (es.take i ++ es.drop j) := by unfold OwnL; rw [flatL_app, hle]; exact h2
      obtain ⟨wb, h4, h5, h6⟩ := clearL_run hO2 1 (cap - k) (by omega) (by omega) 0
      rw [hle] at h4
      refine ⟨wa, wb, fun q c' h => ?_, fun ty => h4, h5, ⟨h6.os.trans h3.os, h6.tape.trans h3.tape, h6.output.trans h3.output, Nat.le_trans h3.size h6.size, fun m hm hne => (h6.block m (Nat.lt_of_lt_of_le hm h3.size) hne).trans (h3.block m hm hne)⟩⟩
      rcases h with ⟨-, rfl, rfl⟩ | ⟨h, -⟩
      · exact h1
      · exact absurd hcj h
    · rw [if_neg hcj, Nat.zero_add] at hrun
      obtain ⟨wa, h1, h2, h3⟩ := run_append_own_spare (P := Tryz.prog) w.drew base 47 47 55 i0 5 under_L hi0 hz1 g i cap _ hOi ⟨g, j * 5, none⟩ (k + 1 - j) (cap - j) (flatL (es.drop j)) (by rw [flatL_len, hld]) (hrun.2.2 _ rfl) (flatL_one _) (by omega)
      rw [hik] at h1 h2
      have hO2 : OwnL wa base (.slice (some ⟨g, 0, none⟩) k cap) (es.take i ++ es.drop j) := by unfold OwnL; rw [flatL_app, hle]; exact h2
      obtain ⟨wb, h4, h5, h6⟩ := clearL_run hO2 1 (cap - k) (by omega) (by omega) 0
      rw [hle] at h4
      refine ⟨wa, wb, fun q c' h => ?_, fun ty => h4, h5, ⟨h6.os.trans h3.os, h6.tape.trans h3.tape, h6.output.trans h3.output, Nat.le_trans h3.size h6.size, fun m hm hne => (h6.block m (Nat.lt_of_lt_of_le hm h3.size) hne).trans (h3.block m hm hne)⟩⟩
      rcases h with ⟨h, -⟩ | ⟨-, rfl, rfl⟩
      · exact absurd h hcj
      · exact h1
  obtain ⟨wa, wb, hap, hcl, hOb, hgb⟩ := hfin
  have hij : Hid (j = i + 1) := hj
  clear hrun hOi hle hld hlt hik hn hO hz0 hz1 hz2 hi0 hj
  by_cases hcj : cap = j
  · have hap1 := hap 0 0 (.inl ⟨hcj, rfl, rfl⟩)
    clear hap
    obtain rfl : i = k := by have := hij.out; omega
    obtain rfl : cap = i + 1 := by have := hij.out; omega
    obtain rfl : j = i + 1 := hcj.symm
    clear hij hcj b1 b2 b3 b4 b5 b6 b7 b8 c1 c2 c3 c4 c5
    rw [show i + 1 - (i + 1) = 0 by omega] at hap1
    simp [go_sem] at hap1
    rw [show i + 1 - i = 1 by omega] at hcl
    subst hap1
    go_enter Tryz.func81, Tryz.ntmps81
    go_upto_region 5 with fail
    go_region_with fail
    all_goals go_wp2
    all_goals go_ret
    all_goals exact ⟨rfl, hOb, hgb⟩
  · have hap1 := hap _ _ (.inr ⟨hcj, rfl, rfl⟩)
    have hcj' : ¬ j = cap := fun h => hcj h.symm
    clear hap
    simp [go_sem] at hap1
    go_enter Tryz.func81, Tryz.ntmps81
    go_upto_region 5 with fail
    go_region_with fail
    all_goals go_wp2
    all_goals go_ret
    all_goals exact ⟨rfl, hOb, hgb⟩
end Go.Proofs.YtpdoonkhnabfjaaGreat
/- clear of what lies behind pools of the call's own. -/
namespace Go.Proofs.YtpdoonkhnabfjaaGreat
open Go.RowKit Go.Shelf

/-- The first i of them, in the same memory. -/
theorem OwnP.take {w : World} {base g n cap : Nat} {es : List Po} (h : OwnP w base (.slice (some ⟨g, 0, none⟩) n cap) es) (i : Nat) (hi : i ≤ es.length) : OwnP w base (.slice (some ⟨g, 0, none⟩) i cap) (es.take i) := by
  rcases h.2 with ⟨hv, -⟩ | ⟨g', cap', cur, hv, h1, h2, h3, h4, h5, h6⟩
  · simp at hv
  · simp only [Value.slice.injEq, Option.some.injEq, Addr.mk.injEq] at hv
    obtain ⟨⟨rfl, -⟩, rfl, rfl⟩ := hv
    have hl : (es.take i).length = i := by rw [List.length_take]; omega
    refine ⟨flatP_len _, .inr ⟨g, cap, cur, by rw [hl], h1, h2, by rw [hl]; omega, h4, h5, ?_⟩⟩
    have e : flatP es = flatP (es.take i) ++ flatP (es.drop i) := by rw [← flatP_app, List.take_append_drop]
    have e2 : (flatP (es.take i)).length = i * 9 := by rw [flatP_len, hl]
    rw [hl]
    have h7 : (cur.toList.take (es.length * 9)).take (i * 9) = (flatP es).take (i * 9) := by rw [h6]
    rw [List.take_take, show min (i * 9) (es.length * 9) = i * 9 by omega] at h7
    rw [h7]
    conv => lhs; rw [e]
    rw [← e2]
    exact List.take_left'  rfl
theorem zero_P (w : World) : (zeroValue 49).run Tryz.prog w = .ok (.agg #[.int .i64 0, .int .i64 0, .int .i64 0, .int .i64 0, .int .i64 0, .int .i64 0, .int .i64 0, .int .i64 0, .slice none 0 0]) w := by
  obtain ⟨i0, hi, hz0, hz1, hz2⟩ := info_P'
  simp [zeroValue, typeInfo, hi, hz0]
theorem clearP_run {w : World} {base g m cap : Nat} {es : List Po} (hO : OwnP w base (.slice (some ⟨g, 0, none⟩) m cap) es) (n c : Nat) (hn : 0 < n) (hm : es.length + n ≤ cap) (ty : TypeId) :
    ∃ w', (Builtin.clear_ #[22] ty #[.slice (some ⟨g, es.length * 9, none⟩) n c]).run Tryz.prog w = .ok (.tuple #[]) w' ∧ OwnP w' base (.slice (some ⟨g, 0, none⟩) m cap) es ∧ w.grownBy w' (some g) := by
  rcases hO.2 with ⟨hv, -⟩ | ⟨g', cap', cur, hv, h1, h2, h3, h4, h5, h6⟩
  · simp at hv
  simp only [Value.slice.injEq, Option.some.injEq, Addr.mk.injEq] at hv
  obtain ⟨⟨rfl, -⟩, rfl, rfl⟩ := hv
  obtain ⟨zs, hzs⟩ : ∃ zs, zs = (Builtin.zeroCells (Value.agg #[.int .i64 0, .int .i64 0, .int .i64 0, .int .i64 0, .int .i64 0, .int .i64 0, .int .i64 0, .int .i64 0, .slice none 0 0]).cells n).toList := ⟨_, rfl⟩
  have hzl : zs.length = n * 9 := by rw [hzs, Array.length_toList, size_zeroCells]; rfl
  have hz1 : ∀ v ∈ zs, v.oneCell' = true := by
    intro v hv
    rw [hzs] at hv
    simp [Builtin.zeroCells] at hv
    obtain ⟨j, -, rfl⟩ := hv
    have h8 : j % 9 < 9 := Nat.mod_lt _ (by decide)
    show (#[Value.int .i64 0, .int .i64 0, .int .i64 0, .int .i64 0, .int .i64 0, .int .i64 0, .int .i64 0, .int .i64 0, .slice none 0 0][j % 9]!).oneCell' = true
    generalize j % 9 = q at h8
    rcases q with _ | _ | _ | _ | _ | _ | _ | _ | _ | q
    · rfl
    · rfl
    · rfl
    · rfl
    · rfl
    · rfl
    · rfl
    · rfl
    · rfl
    · exact absurd h8 (by omega)
  have h5' : cur.toList.length = cap * 9 := by simpa using h5
  have hst := run_storeCells_at (P := Tryz.prog) g (es.length * 9) 49 zs 0 cur w h2 (by rw [hzl]; omega) hz1
  simp only [Nat.add_zero] at hst
  have hls : (cur.toList.take (es.length * 9)).length = es.length * 9 := by rw [List.length_take, h5']; omega
  refine ⟨w.setRow g (cur.toList.take (es.length * 9) ++ zs ++ cur.toList.drop (es.length * 9 + zs.length)).toArray, ?_, ⟨flatP_len _, .inr ⟨g, cap, (cur.toList.take (es.length * 9) ++ zs ++ cur.toList.drop (es.length * 9 + zs.length)).toArray, rfl, h1, setRow_heap w g cur _ _ _ h2, h3, h4, ?_, ?_⟩⟩, ?_⟩
  · obtain ⟨k, rfl⟩ : ∃ k, n = k + 1 := ⟨n - 1, by omega⟩
    simp [Builtin.clear_, run_underlying under_P, ← hzs, hst]
  · simp only [List.size_toArray, List.length_append, hls, hzl, List.length_drop, h5']
    omega
  · rw [List.append_assoc, List.take_append_of_le_length (by rw [hls]; exact Nat.le_refl _), List.take_of_length_le (by rw [hls]; exact Nat.le_refl _)]
    exact h6
  · exact ⟨rfl, rfl, rfl, by simp, fun k _ hne => setRow_other w g k _ (fun e => hne (by rw [e]))⟩
end Go.Proofs.YtpdoonkhnabfjaaGreat
/- slices.Delete of one pool. -/
namespace Go.Proofs.YtpdoonkhnabfjaaGreat
open Go.RowKit Go.Shelf

theorem OwnP.drew {w : World} {base : Nat} {v : Value} {es : List Po} (h : OwnP w base v es) : OwnP w.drew base v es := h.later (Below.refl _ _).drew
set_option maxRecDepth 20000 in
set_option maxHeartbeats 400000 in
theorem deleteP_any (base g k cap i j : Nat) (es : List Po) (w : World) (hO : OwnP w base (.slice (some ⟨g, 0, none⟩) (k + 1) cap) es) (hn : es.length = k + 1) (hi : i ≤ k) (hj : j = i + 1) (hn64 : k ≤ 64) (hnc : k + 1 ≤ cap) (hcm : cap ≤ 9223372036854775807) :
    Calls Tryz.prog 70 #[.slice (some ⟨g, 0, none⟩) (k + 1) cap, .int .i64 i, .int .i64 j] w fun e w' => e = .returned (.slice (some ⟨g, 0, none⟩) k cap) ∧ OwnP w' base (.slice (some ⟨g, 0, none⟩) k cap) (es.take i ++ es.drop j) ∧ w.grownBy w' (some g) := by
  obtain ⟨i0, hi0, hz0, hz1, hz2⟩ := info_P'
  have b1 : (0 : Int) ≤ i := by omega
  have b2 : (0 : Int) ≤ j := by omega
  have b3 : (i : Int) ≤ j := by omega
  have b4 : (j : Int) ≤ (k : Int) + 1 := by omega
  have b5 : (k : Int) + 1 ≤ cap := by omega
  have b6 : ¬ (i : Int) = j := by omega
  have b7 : (i : Int) ≤ cap := by omega
  have b8 : (k : Int) ≤ (k : Int) + 1 := by omega
  have c1 : i ≤ j := by omega
  have c2 : j ≤ k + 1 := by omega
  have c3 : i ≤ cap := by omega
  have c4 : ¬ i = j := by omega
  have c5 : ¬ cap = k := by omega
  have hlt : (es.take i).length = i := by rw [List.length_take]; omega
  have hld : (es.drop j).length = k + 1 - j := by rw [List.length_drop]; omega
  have hle : (es.take i ++ es.drop j).length = k := by rw [List.length_append, hlt, hld]; omega
  have hOi := (hO.take i (by omega)).drew
  unfold OwnP at hOi
  rw [hlt] at hOi
  have Run_P : RunP w (some ⟨g, 0, none⟩) (k + 1) es := ⟨hn, fun _ => by simp, fun ad hx q u hq => by cases hx; exact World.ownsRow.cells hO (g := g) rfl q u hq⟩
  have hrun := (Run_P.later (Below.refl _ _).drew).drop (i := j) c2 hnc
  have hik : i + (k + 1 - j) = k := by omega
  have hfin : ∃ wa wb, (∀ q c', ((cap = j ∧ q = 0 ∧ c' = 0) ∨ (¬ cap = j ∧ q = j * 9 ∧ c' = cap - j)) → (Builtin.append_ #[22, 22] 22 #[.slice (some ⟨g, 0, none⟩) i cap, .slice (some ⟨g, q, none⟩) (k + 1 - j) c']).run Tryz.prog w.drew = .ok (.slice (some ⟨g, 0, none⟩) k cap) wa) ∧
      (∀ ty, (Builtin.clear_ #[22] ty #[.slice (some ⟨g, k * 9, none⟩) 1 (cap - k)]).run Tryz.prog wa = .ok (.tuple #[]) wb) ∧ OwnP wb base (.slice (some ⟨g, 0, none⟩) k cap) (es.take i ++ es.drop j) ∧ w.grownBy wb (some g) := by
    by_cases hcj : cap = j
    · rw [if_pos hcj] at hrun
      obtain ⟨wa, h1, h2, h3⟩ := run_append_own_spare (P := Tryz.prog) w.drew base 22 22 49 i0 9 under_P hi0 hz1 g i cap _ hOi ⟨g, 0, none⟩ (k + 1 - j) 0 (flatP (es.drop j)) (by rw [flatP_len, hld]) (hrun.2.2 _ rfl) (flatP_one _) (by omega)
      rw [hik] at h1 h2
      have hO2 : OwnP wa base (.slice (some ⟨g, 0, none⟩) k cap) (es.take i ++ es.drop j) := by unfold OwnP; rw [flatP_app, hle]; exact h2
      obtain ⟨wb, h4, h5, h6⟩ := clearP_run hO2 1 (cap - k) (by omega) (by omega) 0
      rw [hle] at h4
      refine ⟨wa, wb, fun q c' h => ?_, fun ty => h4, h5, ⟨h6.os.trans h3.os, h6.tape.trans h3.tape, h6.output.trans h3.output, Nat.le_trans h3.size h6.size, fun m hm hne => (h6.block m (Nat.lt_of_lt_of_le hm h3.size) hne).trans (h3.block m hm hne)⟩⟩
      rcases h with ⟨-, rfl, rfl⟩ | ⟨h, -⟩
      · exact h1
      · exact absurd hcj h
    · rw [if_neg hcj, Nat.zero_add] at hrun
      obtain ⟨wa, h1, h2, h3⟩ := run_append_own_spare (P := Tryz.prog) w.drew base 22 22 49 i0 9 under_P hi0 hz1 g i cap _ hOi ⟨g, j * 9, none⟩ (k + 1 - j) (cap - j) (flatP (es.drop j)) (by rw [flatP_len, hld]) (hrun.2.2 _ rfl) (flatP_one _) (by omega)
      rw [hik] at h1 h2
      have hO2 : OwnP wa base (.slice (some ⟨g, 0, none⟩) k cap) (es.take i ++ es.drop j) := by unfold OwnP; rw [flatP_app, hle]; exact h2
      obtain ⟨wb, h4, h5, h6⟩ := clearP_run hO2 1 (cap - k) (by omega) (by omega) 0
      rw [hle] at h4
      refine ⟨wa, wb, fun q c' h => ?_, fun ty => h4, h5, ⟨h6.os.trans h3.os, h6.tape.trans h3.tape, h6.output.trans h3.output, Nat.le_trans h3.size h6.size, fun m hm hne => (h6.block m (Nat.lt_of_lt_of_le hm h3.size) hne).trans (h3.block m hm hne)⟩⟩
      rcases h with ⟨h, -⟩ | ⟨-, rfl, rfl⟩
      · exact absurd h hcj
      · exact h1
  obtain ⟨wa, wb, hap, hcl, hOb, hgb⟩ := hfin
  have hij : Hid (j = i + 1) := hj
  clear Run_P hrun hOi hle hld hlt hik hn hO hz0 hz1 hz2 hi0 hj
  by_cases hcj : cap = j
  · have hap1 := hap 0 0 (.inl ⟨hcj, rfl, rfl⟩)
    clear hap
    obtain rfl : i = k := by have := hij.out; omega
    obtain rfl : cap = i + 1 := by have := hij.out; omega
    obtain rfl : j = i + 1 := hcj.symm
    clear hij hcj b1 b2 b3 b4 b5 b6 b7 b8 c1 c2 c3 c4 c5
    rw [show i + 1 - (i + 1) = 0 by omega] at hap1
    simp [go_sem] at hap1
    rw [show i + 1 - i = 1 by omega] at hcl
    subst hap1
    go_enter Tryz.func70, Tryz.ntmps70
    go_upto_region 5 with fail
    go_region_with fail
    all_goals go_wp2
    all_goals go_ret
    all_goals exact ⟨rfl, hOb, hgb⟩
  · have hap1 := hap _ _ (.inr ⟨hcj, rfl, rfl⟩)
    have hcj' : ¬ j = cap := fun h => hcj h.symm
    clear hap
    simp [go_sem] at hap1
    go_enter Tryz.func70, Tryz.ntmps70
    go_upto_region 5 with fail
    go_region_with fail
    all_goals go_wp2
    all_goals go_ret
    all_goals exact ⟨rfl, hOb, hgb⟩
end Go.Proofs.YtpdoonkhnabfjaaGreat
/- What cool of package pool comes to. -/
namespace Go.Proofs.YtpdoonkhnabfjaaGreat
open Go.RowKit Go.Shelf

/-- Nothing but rows of pools and leases has changed, and of these nothing that lies below. -/
structure Kept (base : Nat) (w w' : World) : Prop where
  os : w'.os = w.os
  tape : w'.tape = w.tape
  output : w'.output = w.output
  size : w.heap.size ≤ w'.heap.size
  low : ∀ k, k < base → w'.heap[k]? = w.heap[k]?
  box : ∀ (k : Nat) (cs : Array Value) (t : TypeId), w.heap[k]? = some (.cells cs t) → t ≠ 49 → t ≠ 55 → w'.heap[k]? = some (.cells cs t)
theorem Kept.below {base : Nat} {w w' : World} (h : Kept base w w') : Below base w w' := ⟨h.os, h.tape, h.output, h.size, h.low⟩
theorem Kept.refl (base : Nat) (w : World) : Kept base w w := ⟨rfl, rfl, rfl, Nat.le_refl _, fun _ _ => rfl, fun _ _ _ h _ _ => h⟩
theorem Kept.trans {base : Nat} {w w' w'' : World} (h : Kept base w w') (h2 : Kept base w' w'') : Kept base w w'' :=
  ⟨h2.os.trans h.os, h2.tape.trans h.tape, h2.output.trans h.output, Nat.le_trans h.size h2.size, fun k hk => (h2.low k hk).trans (h.low k hk), fun k cs t hc h1 h3 => h2.box k cs t (h.box k cs t hc h1 h3) h1 h3⟩
theorem Kept.of_below {base : Nat} {w w' : World} (hb : Below w.heap.size w w') (hs : base ≤ w.heap.size) : Kept base w w' :=
  ⟨hb.os, hb.tape, hb.output, hb.size, fun k hk => hb.block k (Nat.lt_of_lt_of_le hk hs), fun _ _ _ h _ _ => heap_later hb h⟩
theorem Kept.of_grown {base g : Nat} {w w' : World} {cur : Array Value} {T : TypeId} (hg : w.grownBy w' (some g)) (hb : base ≤ g) (hs : base ≤ w.heap.size) (hc : w.heap[g]? = some (.cells cur T)) (hT : T = 49 ∨ T = 55) : Kept base w w' :=
  ⟨hg.os, hg.tape, hg.output, hg.size, fun k hk => hg.block k (Nat.lt_of_lt_of_le hk hs) (fun e => by simp only [Option.some.injEq] at e; omega), fun k cs t h h1 h2 => box_grown hg h (block_ne hc h (fun e => by rcases hT with rfl | rfl; exact h1 e.symm; exact h2 e.symm))⟩
theorem grown_trans {w w' w'' : World} {r : Option Nat} (h3 : w.grownBy w' r) (h6 : w'.grownBy w'' r) : w.grownBy w'' r :=
  ⟨h6.os.trans h3.os, h6.tape.trans h3.tape, h6.output.trans h3.output, Nat.le_trans h3.size h6.size, fun m hm hne => (h6.block m (Nat.lt_of_lt_of_le hm h3.size) hne).trans (h3.block m hm hne)⟩

theorem leAt_set {ps : List Le} {i j : Nat} {p : Le} (hi : i < ps.length) : leAt (ps.set i p) j = if i = j then p else leAt ps j := by
  unfold leAt
  rw [List.getD_eq_getElem?_getD, List.getD_eq_getElem?_getD, List.getElem?_set]
  by_cases h : i = j
  · subst h; rw [if_pos rfl, if_pos rfl, if_pos hi]; rfl
  · rw [if_neg h, if_neg h]
theorem flatL_set (es : List Le) (j : Nat) (e : Le) (hj : j < es.length) :
    (((((flatL es).set (j * 5) (.int .i64 e.a)).set (j * 5 + 1) (.int .i64 e.l)).set (j * 5 + 2) (.int .i64 e.kd)).set (j * 5 + 3) (.int .i64 e.ow)).set (j * 5 + 4) (.int .i64 e.un) = flatL (es.set j e) := by
  refine List.ext_getElem? fun q => ?_
  by_cases hq : q < es.length * 5
  · have hi : q / 5 < es.length := by omega
    have hr : q % 5 < 5 := by omega
    have e1 : q = (q / 5) * 5 + q % 5 := by omega
    rw [e1]
    generalize q / 5 = i at hi
    generalize q % 5 = r at hr
    clear hq e1
    rw [flatL_at _ _ _ (by rw [List.length_set]; exact hi) hr, leAt_set hj]
    simp only [List.getElem?_set, List.length_set, flatL_len]
    by_cases h1 : j = i
    · subst h1
      rw [if_pos rfl]
      rcases r with _ | _ | _ | _ | _ | r
      case succ.succ.succ.succ.succ => omega
      all_goals simp only [cL, List.getElem?_cons_zero, List.getElem?_cons_succ]
      all_goals repeat (first | rw [if_pos trivial] | rw [if_pos (by omega)] | rw [if_neg (by omega)])
    · rw [if_neg h1, if_neg (by omega), if_neg (by omega), if_neg (by omega), if_neg (by omega), if_neg (by omega), flatL_at _ _ _ hi hr]
  · rw [List.getElem?_eq_none (by simp only [List.length_set, flatL_len]; omega), List.getElem?_eq_none (by rw [flatL_len, List.length_set]; omega)]
theorem ownsRow_set {w : World} {base z g n cap m : Nat} {T : TypeId} {cs : List Value} (h : w.ownsRow base T z (.slice (some ⟨g, 0, none⟩) n cap) m cs) (k : Nat) (u : Value) (hk : k < m * z) :
    (w.setCell ⟨g, k, none⟩ u).ownsRow base T z (.slice (some ⟨g, 0, none⟩) n cap) m (cs.set k u) := by
  rcases h.2 with ⟨hv, -⟩ | ⟨g', cap', cur, hv, h1, h2, h3, h4, h5, h6⟩
  · simp at hv
  · simp only [Value.slice.injEq, Option.some.injEq, Addr.mk.injEq] at hv
    obtain ⟨⟨rfl, -⟩, rfl, rfl⟩ := hv
    refine ⟨by rw [List.length_set]; exact h.1, .inr ⟨g, cap, cur.setIfInBounds k u, rfl, h1, heap_setCell_same w g _ _ _ _ h2, h3, h4, by simpa using h5, ?_⟩⟩
    rw [Array.toList_setIfInBounds, List.take_set, h6]
theorem OwnL.set {w : World} {base g n cap : Nat} {es : List Le} (h : OwnL w base (.slice (some ⟨g, 0, none⟩) n cap) es) (j : Nat) (e : Le) (hj : j < es.length) :
    OwnL (((((w.setCell ⟨g, j * 5, none⟩ (.int .i64 e.a)).setCell ⟨g, j * 5 + 1, none⟩ (.int .i64 e.l)).setCell ⟨g, j * 5 + 2, none⟩ (.int .i64 e.kd)).setCell ⟨g, j * 5 + 3, none⟩ (.int .i64 e.ow)).setCell ⟨g, j * 5 + 4, none⟩ (.int .i64 e.un)) base (.slice (some ⟨g, 0, none⟩) n cap) (es.set j e) := by
  unfold OwnL at h ⊢
  rw [← flatL_set es j e hj, List.length_set]
  exact ownsRow_set (ownsRow_set (ownsRow_set (ownsRow_set (ownsRow_set h _ _ (by omega)) _ _ (by omega)) _ _ (by omega)) _ _ (by omega)) _ _ (by omega)
theorem set5_grown (w : World) (g o1 o2 o3 o4 o5 : Nat) (a b c d e : Value) : w.grownBy (((((w.setCell ⟨g, o1, none⟩ a).setCell ⟨g, o2, none⟩ b).setCell ⟨g, o3, none⟩ c).setCell ⟨g, o4, none⟩ d).setCell ⟨g, o5, none⟩ e) (some g) :=
  grown_trans (grown_trans (grown_trans (grown_trans (set_grown _ _ _ _) (set_grown _ _ _ _)) (set_grown _ _ _ _)) (set_grown _ _ _ _)) (set_grown _ _ _ _)
theorem OwnL.block {w : World} {base g n cap : Nat} {es : List Le} (h : OwnL w base (.slice (some ⟨g, 0, none⟩) n cap) es) : base ≤ g ∧ ∃ cur, w.heap[g]? = some (.cells cur 55) := by
  rcases h.2 with ⟨hv, -⟩ | ⟨g', cap', cur, hv, h1, h2, -⟩
  · simp at hv
  · simp only [Value.slice.injEq, Option.some.injEq, Addr.mk.injEq] at hv
    obtain ⟨⟨rfl, -⟩, -, rfl⟩ := hv
    exact ⟨h1, cur, h2⟩
theorem flatP_same (qs : List Po) (i : Nat) (hi : i < qs.length) (ls : List Le) : flatP (qs.set i (withL (poAt qs i) (poAt qs i).x (poAt qs i).n (poAt qs i).c ls)) = flatP qs := by
  refine List.ext_getElem? fun q => ?_
  by_cases hq : q < qs.length * 9
  · have e1 : q = (q / 9) * 9 + q % 9 := by omega
    rw [e1, flatP_at _ _ _ (by rw [List.length_set]; omega) (by omega), flatP_at _ _ _ (by omega) (by omega), poAt_set hi]
    by_cases h1 : i = q / 9
    · rw [if_pos h1, ← h1]; rfl
    · rw [if_neg h1]
  · rw [List.getElem?_eq_none (by rw [flatP_len, List.length_set]; omega), List.getElem?_eq_none (by rw [flatP_len]; omega)]
/-- Another row of leases in the memory that the pool's leases have. -/
theorem OBk.turned {W W1 : World} {base g g2 n cap : Nat} {qs : List Po} {i m c' : Nat} {ls : List Le} (h : OBk W base (.slice (some ⟨g, 0, none⟩) n cap) qs qs.length) (hi : i < qs.length) (hx : (poAt qs i).x = some ⟨g2, 0, none⟩) (hg : W.grownBy W1 (some g2)) (ho : OwnL W1 base (.slice (some ⟨g2, 0, none⟩) m c') ls) :
    OwnP W1 base (.slice (some ⟨g, 0, none⟩) n cap) qs ∧ g ≠ g2 ∧ (∀ j, j < qs.length → OwnL W1 base (.slice (poAt (qs.set i (withL (poAt qs i) (some ⟨g2, 0, none⟩) m c' ls)) j).x (poAt (qs.set i (withL (poAt qs i) (some ⟨g2, 0, none⟩) m c' ls)) j).n (poAt (qs.set i (withL (poAt qs i) (some ⟨g2, 0, none⟩) m c' ls)) j).c) (poAt (qs.set i (withL (poAt qs i) (some ⟨g2, 0, none⟩) m c' ls)) j).ls) ∧
      (∀ j k, j < qs.length → k < qs.length → j ≠ k → ∀ b, (Value.slice (poAt (qs.set i (withL (poAt qs i) (some ⟨g2, 0, none⟩) m c' ls)) j).x (poAt (qs.set i (withL (poAt qs i) (some ⟨g2, 0, none⟩) m c' ls)) j).n (poAt (qs.set i (withL (poAt qs i) (some ⟨g2, 0, none⟩) m c' ls)) j).c).ownBlock = some b → (Value.slice (poAt (qs.set i (withL (poAt qs i) (some ⟨g2, 0, none⟩) m c' ls)) k).x (poAt (qs.set i (withL (poAt qs i) (some ⟨g2, 0, none⟩) m c' ls)) k).n (poAt (qs.set i (withL (poAt qs i) (some ⟨g2, 0, none⟩) m c' ls)) k).c).ownBlock ≠ some b) := by
  obtain ⟨hbg, cur, hgc⟩ := h.row.block
  have hob : (Value.slice (poAt qs i).x (poAt qs i).n (poAt qs i).c).ownBlock = some g2 := by rw [hx]; rfl
  have hne : g ≠ g2 := fun e => (h.own i hi).ne hgc (by decide) (by rw [hob, e])
  refine ⟨h.row.kept hg (fun k hk => ?_), hne, fun j hj => ?_, fun j k hj hk hjk b hbj hbk => ?_⟩
  · simp only [Value.ownBlock, Option.some.injEq] at hk
    rw [← hk]
    exact hne
  · rw [poAt_set hi]
    by_cases e : i = j
    · rw [if_pos e]; exact ho
    · rw [if_neg e]
      exact (h.own j hj).kept hg (fun k hk e2 => h.apart j i hj hi (fun e3 => e e3.symm) k hk (by rw [hob, e2]))
  · rw [poAt_set hi] at hbj hbk
    by_cases e : i = j
    · rw [if_pos e] at hbj
      rw [if_neg (by omega)] at hbk
      have hb2 : some g2 = some b := hbj
      exact h.apart i k hi hk (by omega) b (by rw [hob, hb2]) hbk
    · rw [if_neg e] at hbj
      by_cases e2 : i = k
      · rw [if_pos e2] at hbk
        have hb2 : some g2 = some b := hbk
        exact h.apart j i hj hi (fun e3 => e e3.symm) b hbj (by rw [hob, hb2])
      · rw [if_neg e2] at hbk
        exact h.apart j k hj hk hjk b hbj hbk
theorem OBk.turn {W W1 : World} {base g g2 n cap : Nat} {qs : List Po} {i m c' : Nat} {ls : List Le} (h : OBk W base (.slice (some ⟨g, 0, none⟩) n cap) qs qs.length) (hi : i < qs.length) (hx : (poAt qs i).x = some ⟨g2, 0, none⟩) (hg : W.grownBy W1 (some g2)) (ho : OwnL W1 base (.slice (some ⟨g2, 0, none⟩) m c') ls) :
    OBk (W1.setCell ⟨g, i * 9 + 8, none⟩ (.slice (some ⟨g2, 0, none⟩) m c')) base (.slice (some ⟨g, 0, none⟩) n cap) (qs.set i (withL (poAt qs i) (some ⟨g2, 0, none⟩) m c' ls)) (qs.set i (withL (poAt qs i) (some ⟨g2, 0, none⟩) m c' ls)).length := by
  obtain ⟨hr, hne, hall, hap⟩ := h.turned hi hx hg ho
  obtain ⟨-, cur, hgc⟩ := hr.block
  have hlen : (qs.set i (withL (poAt qs i) (some ⟨g2, 0, none⟩) m c' ls)).length = qs.length := List.length_set
  exact ⟨hr.set i hi _ _ c' _, fun j hj => (hall j (by omega)).kept (set_grown _ _ _ _) (fun q hq e => by subst e; exact (hall j (by omega)).ne hgc (by decide) hq), fun j hj hj2 => by omega, fun j k hj hk => hap j k (by omega) (by omega)⟩
theorem OBk.turnIn {W W1 : World} {base g g2 n cap : Nat} {qs : List Po} {i : Nat} {ls : List Le} (h : OBk W base (.slice (some ⟨g, 0, none⟩) n cap) qs qs.length) (hi : i < qs.length) (hx : (poAt qs i).x = some ⟨g2, 0, none⟩) (hg : W.grownBy W1 (some g2)) (ho : OwnL W1 base (.slice (some ⟨g2, 0, none⟩) (poAt qs i).n (poAt qs i).c) ls) :
    OBk W1 base (.slice (some ⟨g, 0, none⟩) n cap) (qs.set i (withL (poAt qs i) (some ⟨g2, 0, none⟩) (poAt qs i).n (poAt qs i).c ls)) (qs.set i (withL (poAt qs i) (some ⟨g2, 0, none⟩) (poAt qs i).n (poAt qs i).c ls)).length := by
  obtain ⟨hr, hne, hall, hap⟩ := h.turned hi hx hg ho
  have hlen : (qs.set i (withL (poAt qs i) (some ⟨g2, 0, none⟩) (poAt qs i).n (poAt qs i).c ls)).length = qs.length := List.length_set
  refine ⟨?_, fun j hj => hall j (by omega), fun j hj hj2 => by omega, fun j k hj hk => hap j k (by omega) (by omega)⟩
  have e := flatP_same qs i hi ls
  rw [hx] at e
  unfold OwnP at hr ⊢
  rw [e, hlen]
  exact hr

theorem wrap_mid {v : Int} (h1 : -4611686018427387904 ≤ v) (h2 : v ≤ 4611686018427387904) : IntKind.i64.wrap v = v := by
  rw [IntKind.wrap_i64]
  omega
/-- The leases when the j-th one cools, or is taken away. -/
def coolL (p : Po) (j : Nat) (t : Int) : List Le := if p.co = 0 then p.ls.take j ++ p.ls.drop (j + 1) else p.ls.set j ⟨(leAt p.ls j).a, (leAt p.ls j).l, 3, 0, t + p.co⟩
def CoolPost (base g n cap : Nat) (qs : List Po) (i j : Nat) (t : Int) (w : World) (r : Ending) (w' : World) : Prop :=
  r = .returned (.tuple #[]) ∧ ∃ x' c', OBk w' base (.slice (some ⟨g, 0, none⟩) n cap) (qs.set i (withL (poAt qs i) x' (coolL (poAt qs i) j t).length c' (coolL (poAt qs i) j t))) (qs.set i (withL (poAt qs i) x' (coolL (poAt qs i) j t).length c' (coolL (poAt qs i) j t))).length ∧ Kept base w w'

set_option maxRecDepth 100000 in
set_option maxHeartbeats 800000 in
theorem cool_any (base g n cap : Nat) (qs : List Po) (i j : Nat) (t : Int) (w : World) (h : OBk w base (.slice (some ⟨g, 0, none⟩) n cap) qs qs.length) (hi : i < qs.length) (hj : j < (poAt qs i).n) (hn : (poAt qs i).n ≤ 32) (hwb : base ≤ w.heap.size) (ht0 : 0 ≤ t) (ht1 : t ≤ 1073741824) (hc0 : 0 ≤ (poAt qs i).co) (hc1 : (poAt qs i).co ≤ 1024) :
    Calls Tryz.prog 48 #[.pointer (some ⟨g, i * 9, none⟩), .int .i64 j, .int .i64 t] w (CoolPost base g n cap qs i j t w) := by
  obtain ⟨hbg, cur, hg⟩ := h.row.block
  obtain ⟨xv, cv, he2, -, -, -, hm⟩ := h.row.mem
  obtain ⟨b2, o2, he3, -, -, -, -, -, -, -, c7, c8⟩ := hm i hi
  simp only [Value.slice.injEq] at he2
  obtain ⟨hx2, -, -⟩ := he2
  rw [← hx2] at he3
  simp only [Option.some.injEq, Addr.mk.injEq] at he3
  obtain ⟨rfl, rfl, -⟩ := he3
  clear hx2 hm
  have hO := h.own i hi
  obtain ⟨hLS, hll, hnc, hc63⟩ := hO.ls
  obtain ⟨g2, hxs⟩ : ∃ g2, (poAt qs i).x = some ⟨g2, 0, none⟩ := by
    rcases hO.2 with ⟨hv, -⟩ | ⟨g2, cap2, cur2, hv, -⟩
    · simp only [Value.slice.injEq] at hv; omega
    · simp only [Value.slice.injEq] at hv; exact ⟨_, hv.1⟩
  rw [hxs] at c8 hO hLS
  obtain ⟨hb2, cur2, hg2⟩ := hO.block
  obtain ⟨b3, o3, hx3, d0, d1, d2, d3, d4⟩ := hLS.cells j hj
  simp only [Option.some.injEq, Addr.mk.injEq] at hx3
  obtain ⟨rfl, rfl, -⟩ := hx3
  have c7' : w.cell? ⟨g, i * 9 + 7, none⟩ = some (.int .i64 (poAt qs i).co) := by simpa using c7
  have c8' : w.cell? ⟨g, i * 9 + 8, none⟩ = some (.slice (some ⟨g2, 0, none⟩) (poAt qs i).n (poAt qs i).c) := by simpa using c8
  have d0' : w.cell? ⟨g2, j * 5, none⟩ = some (.int .i64 (leAt (poAt qs i).ls j).a) := by simpa using d0
  have d1' : w.cell? ⟨g2, j * 5 + 1, none⟩ = some (.int .i64 (leAt (poAt qs i).ls j).l) := by simpa using d1
  have d2' : w.cell? ⟨g2, j * 5 + 2, none⟩ = some (.int .i64 (leAt (poAt qs i).ls j).kd) := by simpa using d2
  have d3' : w.cell? ⟨g2, j * 5 + 3, none⟩ = some (.int .i64 (leAt (poAt qs i).ls j).ow) := by simpa using d3
  have d4' : w.cell? ⟨g2, j * 5 + 4, none⟩ = some (.int .i64 (leAt (poAt qs i).ls j).un) := by simpa using d4
  clear c7 c8 d0 d1 d2 d3 d4
  by_cases hco : (poAt qs i).co = 0
  · obtain ⟨k, hk⟩ : ∃ k, (poAt qs i).n = k + 1 := ⟨(poAt qs i).n - 1, by omega⟩
    rw [hk] at hO hll hnc c8'
    have hdel := deleteL_any base g2 k (poAt qs i).c j (j + 1) (poAt qs i).ls w hO hll (by omega) rfl (by omega) hnc hc63
    rw [show ((j + 1 : Nat) : Int) = (j : Int) + 1 by omega] at hdel
    have hcl : Hid (coolL (poAt qs i) j t = (poAt qs i).ls.take j ++ (poAt qs i).ls.drop (j + 1)) := if_pos hco
    have hlen : (coolL (poAt qs i) j t).length = k := by rw [hcl.out]; simp; omega
    rw [hco] at c7'
    have hjk : (j : Int) ≤ 32 := by omega
    have hj0 : (0 : Int) ≤ j := by omega
    go_enter Tryz.func48, Tryz.ntmps48
    go_wp2_with fail
    refine hdel.mono ?_
    rintro e w1 ⟨rfl, hO1, hg1⟩
    rw [← hcl.out] at hO1
    have hk1 := Kept.of_grown hg1 hb2 hwb hg2 (.inr rfl)
    obtain ⟨hr1, hne, -, -⟩ := h.turned hi hxs hg1 hO1
    obtain ⟨-, cur1, hgc1⟩ := hr1.block
    have f8 := (box_cells hgc1).2 (i * 9 + 8)
    obtain ⟨xw, cw, he4, -, -, -, hm4⟩ := hr1.mem
    obtain ⟨b4, o4, he5, -, -, -, -, -, -, -, -, k8⟩ := hm4 i hi
    simp only [Value.slice.injEq] at he4
    rw [← he4.1] at he5
    simp only [Option.some.injEq, Addr.mk.injEq] at he5
    obtain ⟨rfl, rfl, -⟩ := he5
    simp only [Nat.zero_add] at k8
    clear hm4 he4 c7' c8'
    have hOB := h.turn hi hxs hg1 hO1
    go_wp2
    refine bodyPost_end (results_none Tryz.results48 _ _ _) rfl ?_
    refine ⟨rfl, some ⟨g2, 0, none⟩, (poAt qs i).c, by rw [hlen]; exact hOB, hk1.trans (Kept.of_grown (set_grown _ _ _ _) hbg (Nat.le_trans hwb hk1.size) hgc1 (.inl rfl))⟩
  · have hcl : Hid (coolL (poAt qs i) j t = (poAt qs i).ls.set j ⟨(leAt (poAt qs i).ls j).a, (leAt (poAt qs i).ls j).l, 3, 0, t + (poAt qs i).co⟩) := if_neg hco
    have hlen : (coolL (poAt qs i) j t).length = (poAt qs i).n := by rw [hcl.out, List.length_set]; exact hll
    have hj0 : (0 : Int) ≤ j := by omega
    have hjn : (j : Int) < (poAt qs i).n := by omega
    have z0 := (box_cells hg2).2
    have hO1 := hO.set j ⟨(leAt (poAt qs i).ls j).a, (leAt (poAt qs i).ls j).l, 3, 0, t + (poAt qs i).co⟩ (by omega)
    rw [← hcl.out] at hO1
    have hgr := set5_grown w g2 (j * 5) (j * 5 + 1) (j * 5 + 2) (j * 5 + 3) (j * 5 + 4) (.int .i64 (leAt (poAt qs i).ls j).a) (.int .i64 (leAt (poAt qs i).ls j).l) (.int .i64 3) (.int .i64 0) (.int .i64 (t + (poAt qs i).co))
    have hOB := (h.turnIn hi hxs hgr hO1).later (Below.refl _ _).drew
    rw [← hlen] at hOB
    have hKe : Kept base w _ := (Kept.of_grown hgr hb2 hwb hg2 (.inr rfl)).trans (Kept.of_below (Below.refl _ _).drew (Nat.le_trans hwb hgr.size))
    have hwr : Hid (IntKind.i64.wrap (t + (poAt qs i).co) = t + (poAt qs i).co) := wrap_mid (by omega) (by omega)
    go_enter Tryz.func48, Tryz.ntmps48
    go_upto_region 2 with fail
    go_region_with fail
    all_goals refine bodyPost_end (results_none Tryz.results48 _ _ _) rfl ?_
    all_goals rw [hwr.out]
    all_goals exact ⟨rfl, some ⟨g2, 0, none⟩, (poAt qs i).c, hOB, hKe⟩
end Go.Proofs.YtpdoonkhnabfjaaGreat
/- What Give of package pool comes to. -/
namespace Go.Proofs.YtpdoonkhnabfjaaGreat
open Go.RowKit Go.Shelf

/-- What an operation hands back: a book of the call's own, and an error. -/
def BkPost (E : Int) (R : Int → List Po → Prop) (w : World) (r : Ending) (w' : World) : Prop :=
  ∃ v rs t', r = .returned (.tuple #[.agg #[.int .i64 t', v], .int .i64 E]) ∧ Below w.heap.size w w' ∧ OBk w' w.heap.size v rs rs.length ∧ (E ≠ 0 → t' = 0 ∧ rs = [] ∧ v = .slice none 0 0) ∧ (E = 0 → R t' rs)
theorem BkPost.err {E E' : Int} {R : Int → List Po → Prop} {w w' : World} (hE : E' = E ∧ E ≠ 0) (hb : Below w.heap.size w w') :
    BkPost E' R w (.returned (.tuple #[.agg #[.int .i64 0, .slice none 0 0], .int .i64 E])) w' :=
  ⟨_, [], 0, by rw [hE.1], hb, OBk.nil _ _, fun _ => ⟨rfl, rfl, rfl⟩, fun h => absurd (hE.1.symm.trans h) hE.2⟩
theorem chk_ok {t : Int} {ps : List Po} (h : chkB t ps = 0) : ps.length ≤ 8 ∧ (0 ≤ t ∧ t ≤ 1073741824) ∧ idsB ps.length ps = true ∧ topsB ps = true ∧ ∀ i, i < ps.length → poolB t ps ps.length (poAt ps i) = true := by
  refine ⟨chk_len h, ?_⟩
  unfold chkB at h
  rw [if_neg (by have := chk_len h; omega)] at h
  split at h
  · rename_i h2
    simp only [Bool.and_eq_true] at h2
    obtain ⟨h3, h4, h5, h6⟩ := h2
    refine ⟨by unfold wth at h3; simpa using h3, h4, h5, fun i hi => ?_⟩
    unfold poolsB at h6
    rw [List.all_eq_true] at h6
    exact h6 i (by simpa using hi)
  · cases h
theorem pool_ok {t : Int} {ps : List Po} {n : Nat} {p : Po} (h : poolB t ps n p = true) : chkS p.a p.l p.n (lp p.ls) = 0 ∧ ruleB p.mn p.mx p.us p.co p.l = true ∧ upB ps n p = true ∧ lesB t ps p = true := by
  unfold poolB at h
  simp only [Bool.and_eq_true] at h
  obtain ⟨h1, h2, h3, h4⟩ := h
  exact ⟨by simpa using h1, h2, h3, h4⟩
theorem rule_ok {mn mx us co l : Int} (h : ruleB mn mx us co l = true) : l ≤ mn ∧ mn ≤ us ∧ us ≤ mx ∧ mx ≤ 16 ∧ 0 ≤ co ∧ co ≤ 1024 := by
  unfold ruleB wth at h
  simp only [Bool.and_eq_true, decide_eq_true_eq] at h
  omega
theorem chk_pool {t : Int} {ps : List Po} (h : chkB t ps = 0) (i : Nat) (hi : i < ps.length) : (poAt ps i).n ≤ 32 ∧ 0 ≤ (poAt ps i).co ∧ (poAt ps i).co ≤ 1024 := by
  obtain ⟨-, -, -, -, hp⟩ := chk_ok h
  obtain ⟨h1, h2, -, -⟩ := pool_ok (hp i hi)
  exact ⟨(chkS_ok h1).1, (rule_ok h2).2.2.2.2⟩
/-- Is the lease that user's part? -/
def useB (ls : List Le) (a l : Int) (i : Nat) : Bool := ((leAt ls i).kd == 1) && (decide ((leAt ls i).a = a) && decide ((leAt ls i).l = l))
set_option maxRecDepth 20000 in
theorem give1_any (a l : Int) (p : Le) (b : Nat) (w : World) (h0 : w.cell? ⟨b, 0, none⟩ = some (.int .i64 a)) (h1 : w.cell? ⟨b, 1, none⟩ = some (.int .i64 l)) :
    Calls Tryz.prog 47 #[.agg #[.int .i64 p.a, .int .i64 p.l, .int .i64 p.kd, .int .i64 p.ow, .int .i64 p.un], .pointer (some ⟨b, 0, none⟩)] w fun e w' => e = .returned (.bool ((p.kd == 1) && (decide (p.a = a) && decide (p.l = l)))) ∧ Below w.heap.size w w' := by
  have k0 : ∀ q, (w.alloc q).cell? ⟨b, 0, none⟩ = some (.int .i64 a) := fun q => cell_later (bl1 w q) h0
  have k1 : ∀ q, (w.alloc q).cell? ⟨b, 1, none⟩ = some (.int .i64 l) := fun q => cell_later_add (bl1 w q) h1
  cases hk : (p.kd == 1)
  · go_enter Tryz.func47, Tryz.ntmps47
    go_wp2
    go_ret
    exact ⟨rfl, bl1 w _⟩
  · go_enter Tryz.func47, Tryz.ntmps47
    go_wp2
    all_goals go_ret
    all_goals first | exact ⟨rfl, bl1 w _⟩ | exact ⟨by simp_all, bl1 w _⟩
theorem call_give1 (args : Array Value) (W : World) : (callFunc 47 args).run Tryz.prog W = .ok (.enter 47 args) W := by simp [go_sem]
theorem give_fn (a l : Int) (b n : Nat) (ls : List Le) (w : World) (h0 : w.cell? ⟨b, 0, none⟩ = some (.int .i64 a)) (h1 : w.cell? ⟨b, 1, none⟩ = some (.int .i64 l)) :
    FnLeAt 47 #[.pointer (some ⟨b, 0, none⟩)] n ls (useB ls a l) w := fun i _ W hW => give1_any a l (leAt ls i) b W (cell_later hW h0) (cell_later_add hW h1)
theorem indexFuncLe_is (g : Nat) (cap : Array Value) (x : Option Addr) (n c : Nat) (ps : List Le) (f : Nat → Bool) (w : World) (hp : LS w x n ps) (hn : n ≤ 1048576) (hF : FnLeAt g cap n ps f w)
    (hg : ∀ args W, (callFunc g args).run Tryz.prog W = .ok (.enter g args) W) :
    Calls Tryz.prog 46 #[.slice x n c, .func (.func g) #[] cap] w fun e w' => e = .returned (.int .i64 (firstAt n f)) ∧ Below w.heap.size w w' := by
  refine (indexFuncLe_any g cap x n c ps f w hp hn hF hg).mono ?_
  rintro e w' ⟨⟨r, rfl, hr⟩, hb⟩
  rcases hr with ⟨i, hi, h1, h2, rfl⟩ | ⟨h1, rfl⟩
  · exact ⟨by rw [firstAt_yes hi h1 h2], hb⟩
  · exact ⟨by rw [firstAt_no h1], hb⟩
/-- A book, a prefix, and room for a book, at the end of the memory that was. -/
structure TG (w W : World) (t a l : Int) (v : Value) : Prop where
  hb : W.heap[w.heap.size]? = some (bkV t v)
  hp : W.heap[w.heap.size + 1]? = some (.cells #[.int .i64 a, .int .i64 l] 26)
  hs : W.heap[w.heap.size + 2]? = some (bkV 0 (.slice none 0 0))
  below : Below w.heap.size w W
theorem TG.later {w W W' : World} {t a l : Int} {v : Value} (h : TG w W t a l v) (hb : Below W.heap.size W W') : TG w W' t a l v :=
  ⟨heap_later hb h.hb, heap_later hb h.hp, heap_later hb h.hs, h.below.trans (hb.mono h.below.size)⟩
theorem TG.kept {w W W' : World} {t a l : Int} {v : Value} {base : Nat} (h : TG w W t a l v) (hk : Kept base W W') (hb : w.heap.size ≤ base) : TG w W' t a l v :=
  ⟨hk.box _ _ _ h.hb (by decide) (by decide), hk.box _ _ _ h.hp (by decide) (by decide), hk.box _ _ _ h.hs (by decide) (by decide), h.below.trans (hk.below.mono hb)⟩
def giveE (t : Int) (ps : List Po) (id a l : Int) : Int :=
  if chkB t ps ≠ 0 then chkB t ps else if atId ps id < 0 then 5 else if firstAt (poAt ps (atId ps id).toNat).n (useB (poAt ps (atId ps id).toNat).ls a l) < 0 then 5 else 0
/-- The pool i of ps with the lease j cooling from t on. -/
def CoolAt (ps : List Po) (i j : Nat) (t : Int) (rs : List Po) : Prop := ∃ qs x' c', sameB ps qs ∧ rs = qs.set i (withL (poAt qs i) x' (coolL (poAt ps i) j t).length c' (coolL (poAt ps i) j t))
def GiveR (t : Int) (ps : List Po) (id a l : Int) (t' : Int) (rs : List Po) : Prop :=
  t' = t ∧ CoolAt ps (atId ps id).toNat (firstAt (poAt ps (atId ps id).toNat).n (useB (poAt ps (atId ps id).toNat).ls a l)).toNat t rs
def GivePost (t : Int) (ps : List Po) (id a l : Int) (w : World) : Ending → World → Prop := BkPost (giveE t ps id a l) (GiveR t ps id a l) w
theorem coolL_same {p q : Po} (h : sameP p q) (j : Nat) (t : Int) : coolL q j t = coolL p j t := by
  obtain ⟨-, -, -, -, -, -, -, h1, -, h2⟩ := h
  unfold coolL
  rw [h1, h2]
theorem firstAt_range {n : Nat} {f : Nat → Bool} (h : ¬ firstAt n f < 0) : ∃ i : Nat, i < n ∧ firstAt n f = i ∧ f i = true := by
  rcases firstAt_any (n := n) (f := f) with ⟨-, i, h1, h2, -, h3⟩ | ⟨-, -, h3⟩
  · exact ⟨i, h1, h3, h2⟩
  · rw [h3] at h; exact absurd (by decide) h

set_option maxRecDepth 100000 in
set_option maxHeartbeats 1600000 in
theorem give_any (t : Int) (x : Option Addr) (n c : Nat) (ps : List Po) (id a l : Int) (w : World) (hk : Bk w x n c ps) :
    Calls Tryz.prog 14 #[.agg #[.int .i64 t, .slice x n c], .int .i64 id, .agg #[.int .i64 a, .int .i64 l]] w (GivePost t ps id a l w) := by
  have hpl : Hid (ps.length = n) := hk.ps.len
  go_enter Tryz.func14, Tryz.ntmps14
  go_upto_region 1 with fail
  obtain ⟨w0, hw0⟩ : ∃ w0, w0 = ((w.alloc (bkV t (.slice x n c))).alloc (.cells #[.int .i64 a, .int .i64 l] 26)).alloc (bkV 0 (.slice none 0 0)) := ⟨_, rfl⟩
  rw [← hw0]
  have hT0 : TG w w0 t a l (.slice x n c) := by
    rw [hw0]
    exact ⟨heap_old _ (heap_old _ (heap_new _ rfl)), heap_old _ (heap_new _ (by simp)), heap_new _ (by simp), (bl2 w _ _).alloc (by simp; omega) _⟩
  clear hw0
  have b0 : w0.cell? ⟨w.heap.size, 0, none⟩ = some (.int .i64 t) := (box_cells hT0.hb).1 0
  have b1 : w0.cell? ⟨w.heap.size, 1, none⟩ = some (.slice x n c) := (box_cells hT0.hb).1 1
  have a0 : w0.cell? ⟨w.heap.size + 1, 0, none⟩ = some (.int .i64 a) := (box_cells hT0.hp).1 0
  have a1 : w0.cell? ⟨w.heap.size + 1, 1, none⟩ = some (.int .i64 l) := (box_cells hT0.hp).1 1
  have s0 : w0.cell? ⟨w.heap.size + 2, 0, none⟩ = some (.int .i64 0) := (box_cells hT0.hs).1 0
  have s1 : w0.cell? ⟨w.heap.size + 2, 1, none⟩ = some (.slice none 0 0) := (box_cells hT0.hs).1 1
  have zs0 : w0.frozen? ⟨w.heap.size + 2, 0, none⟩ = false := (box_cells hT0.hs).2 0
  have zs1 : w0.frozen? ⟨w.heap.size + 2, 1, none⟩ = false := (box_cells hT0.hs).2 1
  have hck := checkB_any t x n c ps w0 (hk.later hT0.below)
  by_cases hc0 : chkB t ps = 0
  · rw [hc0] at hck
    go_wp2_with fail
    refine hck.mono ?_
    rintro e w1 ⟨rfl, hb1⟩
    have hT1 := hT0.later hb1
    obtain ⟨hn8, ⟨ht0, ht1⟩, -⟩ := chk_ok hc0
    rw [hpl.out] at hn8
    clear b0 b1 a0 a1 s0 s1 zs0 zs1 hb1 hck
    have b0 : w1.cell? ⟨w.heap.size, 0, none⟩ = some (.int .i64 t) := (box_cells hT1.hb).1 0
    have b1 : w1.cell? ⟨w.heap.size, 1, none⟩ = some (.slice x n c) := (box_cells hT1.hb).1 1
    have a0 : w1.cell? ⟨w.heap.size + 1, 0, none⟩ = some (.int .i64 a) := (box_cells hT1.hp).1 0
    have a1 : w1.cell? ⟨w.heap.size + 1, 1, none⟩ = some (.int .i64 l) := (box_cells hT1.hp).1 1
    have s0 : w1.cell? ⟨w.heap.size + 2, 0, none⟩ = some (.int .i64 0) := (box_cells hT1.hs).1 0
    have s1 : w1.cell? ⟨w.heap.size + 2, 1, none⟩ = some (.slice none 0 0) := (box_cells hT1.hs).1 1
    have zs0 : w1.frozen? ⟨w.heap.size + 2, 0, none⟩ = false := (box_cells hT1.hs).2 0
    have zs1 : w1.frozen? ⟨w.heap.size + 2, 1, none⟩ = false := (box_cells hT1.hs).2 1
    have hpc := place_any t id x n c ps w1 (hk.later hT1.below).ps (by omega)
    have hE1 : Hid (giveE t ps id a l = if atId ps id < 0 then 5 else if firstAt (poAt ps (atId ps id).toNat).n (useB (poAt ps (atId ps id).toNat).ls a l) < 0 then 5 else 0) := if_neg (c := chkB t ps ≠ 0) (by simp [hc0])
    by_cases hat : atId ps id < 0
    · have hne : giveE t ps id a l = 5 ∧ (5 : Int) ≠ 0 := ⟨hE1.out.trans (if_pos hat), by decide⟩
      go_wp2_with fail
      refine hpc.mono ?_
      rintro e w2 ⟨rfl, hb2⟩
      have hT2 := hT1.later hb2
      clear b0 b1 a0 a1 s0 s1 zs0 zs1 hb2 hE1
      have b0 : w2.cell? ⟨w.heap.size, 0, none⟩ = some (.int .i64 t) := (box_cells hT2.hb).1 0
      have b1 : w2.cell? ⟨w.heap.size, 1, none⟩ = some (.slice x n c) := (box_cells hT2.hb).1 1
      have a0 : w2.cell? ⟨w.heap.size + 1, 0, none⟩ = some (.int .i64 a) := (box_cells hT2.hp).1 0
      have a1 : w2.cell? ⟨w.heap.size + 1, 1, none⟩ = some (.int .i64 l) := (box_cells hT2.hp).1 1
      have s0 : w2.cell? ⟨w.heap.size + 2, 0, none⟩ = some (.int .i64 0) := (box_cells hT2.hs).1 0
      have s1 : w2.cell? ⟨w.heap.size + 2, 1, none⟩ = some (.slice none 0 0) := (box_cells hT2.hs).1 1
      have zs0 : w2.frozen? ⟨w.heap.size + 2, 0, none⟩ = false := (box_cells hT2.hs).2 0
      have zs1 : w2.frozen? ⟨w.heap.size + 2, 1, none⟩ = false := (box_cells hT2.hs).2 1
      go_wp2
      refine bodyPost_ret (v := .tuple #[.agg #[.int .i64 0, .slice none 0 0], .int .i64 5]) (by simp [results, Tryz.results14, go_sem, s0, s1]) rfl ?_
      exact BkPost.err hne ((hT2.below.setCell (p := ⟨w.heap.size + 2, 0, none⟩) (Nat.le_add_right _ _) _).setCell (p := ⟨w.heap.size + 2, 1, none⟩) (Nat.le_add_right _ _) _)
    · obtain ⟨i, hi, hati, -⟩ := atId_range hat
      have hcp := chk_pool hc0 i hi
      rw [hpl.out] at hi
      have hto : (atId ps id).toNat = i := by rw [hati]; rfl
      have hR : Hid (∀ j t' rs, firstAt (poAt ps i).n (useB (poAt ps i).ls a l) = ((j : Nat) : Int) → t' = t → CoolAt ps i j t rs → GiveR t ps id a l t' rs) := fun j t' rs h1 h2 h3 => ⟨h2, by rw [hto, h1]; exact h3⟩
      have hE2 : Hid (giveE t ps id a l = if firstAt (poAt ps i).n (useB (poAt ps i).ls a l) < 0 then 5 else 0) := by
        have h := hE1.out
        rw [if_neg hat, hto] at h
        exact h
      rw [hati] at hpc
      clear hat hati hto hE1
      go_wp2_with fail
      refine hpc.mono ?_
      rintro e w2 ⟨rfl, hb2⟩
      have hT2 := hT1.later hb2
      have hi0 : (0 : Int) ≤ i := by omega
      clear b0 b1 a0 a1 s0 s1 zs0 zs1 hb2 hpc
      have b0 : w2.cell? ⟨w.heap.size, 0, none⟩ = some (.int .i64 t) := (box_cells hT2.hb).1 0
      have b1 : w2.cell? ⟨w.heap.size, 1, none⟩ = some (.slice x n c) := (box_cells hT2.hb).1 1
      have a0 : w2.cell? ⟨w.heap.size + 1, 0, none⟩ = some (.int .i64 a) := (box_cells hT2.hp).1 0
      have a1 : w2.cell? ⟨w.heap.size + 1, 1, none⟩ = some (.int .i64 l) := (box_cells hT2.hp).1 1
      have s0 : w2.cell? ⟨w.heap.size + 2, 0, none⟩ = some (.int .i64 0) := (box_cells hT2.hs).1 0
      have s1 : w2.cell? ⟨w.heap.size + 2, 1, none⟩ = some (.slice none 0 0) := (box_cells hT2.hs).1 1
      have zs0 : w2.frozen? ⟨w.heap.size + 2, 0, none⟩ = false := (box_cells hT2.hs).2 0
      have zs1 : w2.frozen? ⟨w.heap.size + 2, 1, none⟩ = false := (box_cells hT2.hs).2 1
      have hk2 := hk.later hT2.below
      obtain ⟨b, o, rfl, c0, c1, c2, c3, c4, c5, c6, c7, c8⟩ := hk2.ps.cells i hi
      obtain ⟨hlc, hlm, hLS⟩ := hk2.ps.leases i hi
      have hin : (i : Int) < n := by omega
      have hix := indexFuncLe_is 47 #[.pointer (some ⟨w.heap.size + 1, 0, none⟩)] (poAt ps i).x (poAt ps i).n (poAt ps i).c (poAt ps i).ls (useB (poAt ps i).ls a l) w2 hLS hlm (give_fn a l (w.heap.size + 1) _ _ w2 a0 a1) call_give1
      by_cases hfi : firstAt (poAt ps i).n (useB (poAt ps i).ls a l) < 0
      · have hne : giveE t ps id a l = 5 ∧ (5 : Int) ≠ 0 := ⟨hE2.out.trans (if_pos hfi), by decide⟩
        clear hR hE2
        go_wp2_with fail
        refine hix.mono ?_
        rintro e w3 ⟨rfl, hb3⟩
        have hT3 := hT2.later hb3
        clear b0 b1 a0 a1 s0 s1 zs0 zs1 hb3 c0 c1 c2 c3 c4 c5 c6 c7 c8
        have b0 : w3.cell? ⟨w.heap.size, 0, none⟩ = some (.int .i64 t) := (box_cells hT3.hb).1 0
        have b1 : w3.cell? ⟨w.heap.size, 1, none⟩ = some (.slice (some ⟨b, o, none⟩) n c) := (box_cells hT3.hb).1 1
        have a0 : w3.cell? ⟨w.heap.size + 1, 0, none⟩ = some (.int .i64 a) := (box_cells hT3.hp).1 0
        have a1 : w3.cell? ⟨w.heap.size + 1, 1, none⟩ = some (.int .i64 l) := (box_cells hT3.hp).1 1
        have s0 : w3.cell? ⟨w.heap.size + 2, 0, none⟩ = some (.int .i64 0) := (box_cells hT3.hs).1 0
        have s1 : w3.cell? ⟨w.heap.size + 2, 1, none⟩ = some (.slice none 0 0) := (box_cells hT3.hs).1 1
        have zs0 : w3.frozen? ⟨w.heap.size + 2, 0, none⟩ = false := (box_cells hT3.hs).2 0
        have zs1 : w3.frozen? ⟨w.heap.size + 2, 1, none⟩ = false := (box_cells hT3.hs).2 1
        go_wp2
        refine bodyPost_ret (v := .tuple #[.agg #[.int .i64 0, .slice none 0 0], .int .i64 5]) (by simp [results, Tryz.results14, go_sem, s0, s1]) rfl ?_
        exact BkPost.err hne ((hT3.below.setCell (p := ⟨w.heap.size + 2, 0, none⟩) (Nat.le_add_right _ _) _).setCell (p := ⟨w.heap.size + 2, 1, none⟩) (Nat.le_add_right _ _) _)
      · have hE0 : Hid (giveE t ps id a l = 0) := hE2.out.trans (if_neg hfi)
        obtain ⟨j, hj, hfj, -⟩ := firstAt_range hfi
        rw [hfj] at hix
        have hR2 : Hid (∀ t' rs, t' = t → CoolAt ps i j t rs → GiveR t ps id a l t' rs) := fun t' rs => hR.out j t' rs hfj
        clear hfi hfj hE2 hR
        go_wp2_with fail
        refine hix.mono ?_
        rintro e w3 ⟨rfl, hb3⟩
        have hT3 := hT2.later hb3
        have hj0 : (0 : Int) ≤ j := by omega
        clear b0 b1 a0 a1 s0 s1 zs0 zs1 hb3 c0 c1 c2 c3 c4 c5 c6 c7 c8 hix
        have b0 : w3.cell? ⟨w.heap.size, 0, none⟩ = some (.int .i64 t) := (box_cells hT3.hb).1 0
        have b1 : w3.cell? ⟨w.heap.size, 1, none⟩ = some (.slice (some ⟨b, o, none⟩) n c) := (box_cells hT3.hb).1 1
        have a0 : w3.cell? ⟨w.heap.size + 1, 0, none⟩ = some (.int .i64 a) := (box_cells hT3.hp).1 0
        have a1 : w3.cell? ⟨w.heap.size + 1, 1, none⟩ = some (.int .i64 l) := (box_cells hT3.hp).1 1
        have s0 : w3.cell? ⟨w.heap.size + 2, 0, none⟩ = some (.int .i64 0) := (box_cells hT3.hs).1 0
        have s1 : w3.cell? ⟨w.heap.size + 2, 1, none⟩ = some (.slice none 0 0) := (box_cells hT3.hs).1 1
        have zs0 : w3.frozen? ⟨w.heap.size + 2, 0, none⟩ = false := (box_cells hT3.hs).2 0
        have zs1 : w3.frozen? ⟨w.heap.size + 2, 1, none⟩ = false := (box_cells hT3.hs).2 1
        go_wp2_with fail
        refine (freshBook_any t (some ⟨b, o, none⟩) n c ps w3 (hk.later hT3.below) (by omega)).mono ?_
        rintro e w5 ⟨v5, qs, rfl, hs, hOB, hb5⟩
        have hql : i < qs.length := by rw [← hs.1, hpl.out]; exact hi
        rcases hOB.row.2 with ⟨-, h0⟩ | ⟨g, cap, cur, rfl, hg1, hg2, -⟩
        · omega
        clear b0 b1 a0 a1 s0 s1 zs0 zs1
        go_upto_region 11 with fail
        obtain ⟨w6, hw6⟩ : ∃ w6, w6 = w5.alloc (bkV t (.slice (some ⟨g, 0, none⟩) qs.length cap)) := ⟨_, rfl⟩
        rw [← hw6]
        have hT6 : TG w w6 t a l (.slice (some ⟨b, o, none⟩) n c) := by rw [hw6]; exact (hT3.later hb5).later (bl1 _ _)
        have hn6 : w6.heap[w5.heap.size]? = some (bkV t (.slice (some ⟨g, 0, none⟩) qs.length cap)) := by rw [hw6]; exact heap_new _ rfl
        have hOB6 : OBk w6.drew w3.heap.size (.slice (some ⟨g, 0, none⟩) qs.length cap) qs qs.length := by
          rw [hw6]
          exact hOB.later (bl1 _ _).drew
        have hs6 : w3.heap.size ≤ w6.drew.heap.size := by rw [hw6]; have := hb5.size; simp; omega
        clear hw6 hOB hb5 hg2
        have hsp := hs.2 i (by rw [hpl.out]; exact hi)
        have hsp2 := hsp
        obtain ⟨-, -, -, -, -, -, -, hqc, hqn, -⟩ := hsp2
        have hql2 : (i : Int) < qs.length := by omega
        have m0 : w6.cell? ⟨w5.heap.size, 0, none⟩ = some (.int .i64 t) := (box_cells hn6).1 0
        have m1 : w6.cell? ⟨w5.heap.size, 1, none⟩ = some (.slice (some ⟨g, 0, none⟩) qs.length cap) := (box_cells hn6).1 1
        have hcool := cool_any w3.heap.size g qs.length cap qs i j t w6.drew hOB6 hql (by rw [← hqn]; exact hj) (by rw [← hqn]; exact hcp.1) hs6 ht0 ht1 (by rw [← hqc]; exact hcp.2.1) (by rw [← hqc]; exact hcp.2.2)
        go_region_with (go_at_call 48; refine hcool.mono ?_; rintro e w7 ⟨rfl, x', c', hOB7, hK7⟩)
        all_goals have hK : Kept w3.heap.size w6 w7 := ⟨hK7.os, hK7.tape, hK7.output, hK7.size, hK7.low, hK7.box⟩
        all_goals have hT7 := hT6.kept hK hT3.below.size
        all_goals have hn7 := hK.box _ _ _ hn6 (by decide) (by decide)
        all_goals clear m0 m1 hcool
        all_goals have m0 : w7.cell? ⟨w5.heap.size, 0, none⟩ = some (.int .i64 t) := (box_cells hn7).1 0
        all_goals have m1 : w7.cell? ⟨w5.heap.size, 1, none⟩ = some (.slice (some ⟨g, 0, none⟩) qs.length cap) := (box_cells hn7).1 1
        all_goals have s0 : w7.cell? ⟨w.heap.size + 2, 0, none⟩ = some (.int .i64 0) := (box_cells hT7.hs).1 0
        all_goals have s1 : w7.cell? ⟨w.heap.size + 2, 1, none⟩ = some (.slice none 0 0) := (box_cells hT7.hs).1 1
        all_goals have zs0 : w7.frozen? ⟨w.heap.size + 2, 0, none⟩ = false := (box_cells hT7.hs).2 0
        all_goals have zs1 : w7.frozen? ⟨w.heap.size + 2, 1, none⟩ = false := (box_cells hT7.hs).2 1
        all_goals have hsz : w.heap.size + 2 < w3.heap.size := (Array.getElem?_eq_some_iff.1 hT3.hs).1
        all_goals go_wp2
        all_goals refine bodyPost_ret (v := .tuple #[.agg #[.int .i64 t, .slice (some ⟨g, 0, none⟩) qs.length cap], .int .i64 0]) (by simp [results, Tryz.results14, go_sem, s0, s1]) rfl ?_
        all_goals have hfin := (hT7.below.setCell (p := ⟨w.heap.size + 2, 0, none⟩) (Nat.le_add_right _ _) (.int .i64 t)).setCell (p := ⟨w.heap.size + 2, 1, none⟩) (Nat.le_add_right _ _) (.slice (some ⟨g, 0, none⟩) qs.length cap)
        all_goals have hob := ((hOB7.put (o := 0) (u := .int .i64 t) hsz).put (o := 1) (u := .slice (some ⟨g, 0, none⟩) qs.length cap) hsz).low hT3.below.size
        all_goals exact ⟨_, _, t, by rw [hE0.out], hfin, hob, fun h => absurd hE0.out h, fun _ => hR2.out t _ rfl ⟨qs, x', c', hs, by rw [coolL_same hsp]⟩⟩
  · have hne : giveE t ps id a l = chkB t ps ∧ chkB t ps ≠ 0 := ⟨if_pos hc0, hc0⟩
    go_wp2_with fail
    refine hck.mono ?_
    rintro e w1 ⟨rfl, hb1⟩
    have hT1 := hT0.later hb1
    clear b0 b1 a0 a1 s0 s1 zs0 zs1 hck hb1
    have b0 : w1.cell? ⟨w.heap.size, 0, none⟩ = some (.int .i64 t) := (box_cells hT1.hb).1 0
    have b1 : w1.cell? ⟨w.heap.size, 1, none⟩ = some (.slice x n c) := (box_cells hT1.hb).1 1
    have a0 : w1.cell? ⟨w.heap.size + 1, 0, none⟩ = some (.int .i64 a) := (box_cells hT1.hp).1 0
    have a1 : w1.cell? ⟨w.heap.size + 1, 1, none⟩ = some (.int .i64 l) := (box_cells hT1.hp).1 1
    have s0 : w1.cell? ⟨w.heap.size + 2, 0, none⟩ = some (.int .i64 0) := (box_cells hT1.hs).1 0
    have s1 : w1.cell? ⟨w.heap.size + 2, 1, none⟩ = some (.slice none 0 0) := (box_cells hT1.hs).1 1
    have zs0 : w1.frozen? ⟨w.heap.size + 2, 0, none⟩ = false := (box_cells hT1.hs).2 0
    have zs1 : w1.frozen? ⟨w.heap.size + 2, 1, none⟩ = false := (box_cells hT1.hs).2 1
    go_wp2
    refine bodyPost_ret (v := .tuple #[.agg #[.int .i64 0, .slice none 0 0], .int .i64 (chkB t ps)]) (by simp [results, Tryz.results14, go_sem, s0, s1]) rfl ?_
    exact BkPost.err hne ((hT1.below.setCell (p := ⟨w.heap.size + 2, 0, none⟩) (Nat.le_add_right _ _) _).setCell (p := ⟨w.heap.size + 2, 1, none⟩) (Nat.le_add_right _ _) _)
end Go.Proofs.YtpdoonkhnabfjaaGreat
/- What slices.DeleteFunc of leases comes to. -/
namespace Go.Proofs.YtpdoonkhnabfjaaGreat
open Go.RowKit Go.Shelf

/-- What the function value answers at each lease, in every world in which nothing but rows of pools and leases has changed. -/
def FnLeKept (gf : Nat) (cp : Array Value) (es : List Le) (d : Le → Bool) (base : Nat) (w : World) : Prop :=
  ∀ i, i < es.length → ∀ W, Kept base w W → Calls Tryz.prog gf (#[.agg #[.int .i64 (leAt es i).a, .int .i64 (leAt es i).l, .int .i64 (leAt es i).kd, .int .i64 (leAt es i).ow, .int .i64 (leAt es i).un]] ++ cp) W fun e W' => e = .returned (.bool (d (leAt es i))) ∧ Below W.heap.size W W'
theorem take_step {es : List Le} {k : Nat} (hk : k < es.length) : es.take (k + 1) = es.take k ++ [leAt es k] := by
  rw [List.take_add_one, leAt, List.getD_eq_getElem?_getD, List.getElem?_eq_getElem hk]
  rfl
theorem filter_first {es : List Le} {d : Le → Bool} {k : Nat} (hk : k ≤ es.length) (h : ∀ j, j < k → d (leAt es j) = false) : (es.take k).filter (fun e => !d e) = es.take k := by
  rw [List.filter_eq_self]
  intro e he
  obtain ⟨j, hj, rfl⟩ := List.mem_iff_getElem.1 he
  have hj2 : j < k := by rw [List.length_take] at hj; omega
  have h2 := h j hj2
  rw [leAt, List.getD_eq_getElem?_getD, List.getElem?_eq_getElem (by omega), Option.getD_some] at h2
  rw [List.getElem_take, h2]
  rfl
theorem list_of_leAt {cs es : List Le} (hl : cs.length = es.length) (h : ∀ q, q < es.length → leAt cs q = leAt es q) : cs = es := by
  refine List.ext_getElem hl fun i h1 h2 => ?_
  have := h i h2
  rw [leAt, leAt, List.getD_eq_getElem?_getD, List.getD_eq_getElem?_getD, List.getElem?_eq_getElem h1, List.getElem?_eq_getElem h2] at this
  exact this
theorem take_set {cs : List Le} {a : Nat} {e : Le} (ha : a < cs.length) : (cs.set a e).take (a + 1) = cs.take a ++ [e] := by
  rw [take_step (by rw [List.length_set]; exact ha), leAt_set ha, if_pos rfl, List.take_set_of_le (Nat.le_refl _)]
/-- What the loop keeps: the first a are what stays of the first k; behind k nothing has changed. -/
structure DelInv (w wr : World) (base g2 n c : Nat) (es : List Le) (d : Le → Bool) (a k : Nat) : Prop where
  ak : a < k
  kn : k ≤ n
  row : ∃ cs, OwnL wr base (.slice (some ⟨g2, 0, none⟩) n c) cs ∧ cs.length = n ∧ cs.take a = (es.take k).filter (fun e => !d e) ∧ ∀ q, k ≤ q → q < n → leAt cs q = leAt es q
  kept : w.grownBy wr (some g2)
set_option maxRecDepth 20000 in
set_option maxHeartbeats 1600000 in
theorem deleteFuncL_any (gf : Nat) (cp : Array Value) (base : Nat) (x : Option Addr) (n c : Nat) (es : List Le) (d : Le → Bool) (w : World) (hO : OwnL w base (.slice x n c) es) (hn : n ≤ 64) (hbs : base ≤ w.heap.size) (hF : FnLeKept gf cp es d base w)
    (hgf : ∀ args W, (callFunc gf args).run Tryz.prog W = .ok (.enter gf args) W) :
    Calls Tryz.prog 65 #[.slice x n c, .func (.func gf) #[] cp] w fun e w' => e = .returned (.slice x (es.filter (fun e => !d e)).length c) ∧ OwnL w' base (.slice x (es.filter (fun e => !d e)).length c) (es.filter (fun e => !d e)) ∧ ((x = none ∧ Below w.heap.size w w') ∨ ∃ g2, x = some ⟨g2, 0, none⟩ ∧ w.grownBy w' (some g2)) := by
  have HF : Hid (FnLeKept gf cp es d base w) := hF
  clear hF
  obtain ⟨hLS, hll, hnc, hc63⟩ := hO.ls
  have hll' : Hid (es.length = n) := hll
  have hix := indexFuncLe_is gf cp x n c es (fun i => d (leAt es i)) w hLS (by omega) (fun i hi W hW => HF.out i (by omega) W (Kept.of_below hW hbs)) hgf
  by_cases hfi : firstAt n (fun i => d (leAt es i)) < 0
  · have hno : ∀ j, j < n → d (leAt es j) = false := by
      rcases firstAt_any (n := n) (f := fun i => d (leAt es i)) with ⟨-, i, -, -, -, h3⟩ | ⟨-, h2, h3⟩
      · omega
      · exact h2
    have hm1 : firstAt n (fun i => d (leAt es i)) = -1 := by
      rcases firstAt_any (n := n) (f := fun i => d (leAt es i)) with ⟨-, i, -, -, -, h3⟩ | ⟨-, h2, h3⟩
      · omega
      · exact h3
    have hfe : Hid (es.filter (fun e => !d e) = es) := by
      have := filter_first (es := es) (d := d) (k := n) (by omega) hno
      rw [List.take_of_length_le (by omega)] at this
      exact this
    rw [hm1] at hix
    clear hno hm1 hfi hll
    go_enter Tryz.func65, Tryz.ntmps65
    go_wp2_with fail
    refine hix.mono ?_
    rintro e w1 ⟨rfl, hb1⟩
    have hO1 := hO.later hb1
    go_wp2
    go_ret
    rw [hfe.out, hll'.out]
    refine ⟨rfl, hO1, ?_⟩
    rcases hO.2 with ⟨hv, -⟩ | ⟨g2, cap2, cur2, hv, -⟩
    · simp only [Value.slice.injEq] at hv; exact .inl ⟨hv.1, hb1⟩
    · simp only [Value.slice.injEq] at hv; exact .inr ⟨g2, hv.1, hb1.os, hb1.tape, hb1.output, hb1.size, fun k hk _ => hb1.block k hk⟩
  · obtain ⟨i, hi, hfe, hdi⟩ := firstAt_range hfi
    have hno : ∀ j, j < i → d (leAt es j) = false := by
      rcases firstAt_any (n := n) (f := fun i => d (leAt es i)) with ⟨-, i2, -, -, h2, h3⟩ | ⟨-, -, h3⟩
      · have : i2 = i := by omega
        subst this
        exact h2
      · omega
    obtain ⟨g2, rfl⟩ : ∃ g2, x = some ⟨g2, 0, none⟩ := by
      rcases hO.2 with ⟨hv, -⟩ | ⟨g2, cap2, cur2, hv, -⟩
      · simp only [Value.slice.injEq] at hv; omega
      · simp only [Value.slice.injEq] at hv; exact ⟨_, hv.1⟩
    obtain ⟨hb2, cur2, hg2⟩ := hO.block
    have hst : Hid (∀ w1, Below w.heap.size w w1 → DelInv w w1 base g2 n c es d i (i + 1)) := fun w1 hb1 => ⟨by omega, by omega, ⟨es, hO.later hb1, hll'.out, by rw [take_step (by omega), List.filter_append, filter_first (by omega) hno]; simp [hdi], fun _ _ _ => rfl⟩, hb1.os, hb1.tape, hb1.output, hb1.size, fun k hk _ => hb1.block k hk⟩
    rw [hfe] at hix
    have hi0 : (0 : Int) ≤ i := by omega
    have hi64 : (i : Int) < 64 := by omega
    have him : ¬ (i : Int) = -1 := by omega
    have hiz : i < n := hi
    clear hno hfi hfe hdi hLS hll hi hO
    go_enter Tryz.func65, Tryz.ntmps65
    go_wp2_with fail
    refine hix.mono ?_
    rintro e w1 ⟨rfl, hb1⟩
    have hI1 := hst.out w1 hb1
    clear hix hst hb1
    go_wp2
    go_loopw [5, 6] (fun p q wr => ∃ a k : Nat, p = .int .i64 a ∧ q = .int .i64 k ∧ DelInv w wr base g2 n c es d a k) (fun _ q _ => n - (intOf q).toNat)
    case atStart => exact ⟨i, i + 1, rfl, by go_num, hI1⟩
    case round =>
      obtain ⟨a, k, rfl, rfl, hI⟩ := hrel
      obtain ⟨hak, hkn, ⟨cs, hOc, hcl, hct, hcr⟩, hgr⟩ := hI
      have hct' : Hid (cs.take a = (es.take k).filter (fun e => !d e)) := hct
      have hcr' : Hid (∀ q, k ≤ q → q < n → leAt cs q = leAt es q) := hcr
      clear hct hcr
      by_cases hlt : k < n
      · obtain ⟨b3, o3, hx3, c0, c1, c2, c3, c4⟩ := hOc.ls.1.cells k hlt
        simp only [Option.some.injEq, Addr.mk.injEq] at hx3
        obtain ⟨rfl, rfl, -⟩ := hx3
        rw [hcr'.out k (Nat.le_refl _) hlt] at c0 c1 c2 c3 c4
        simp only [Nat.zero_add] at c0 c1 c2 c3 c4
        go_upto_region 8 with fail
        obtain ⟨w2, hw2⟩ : ∃ w2, w2 = wr.alloc (.cells #[.int .i64 (leAt es k).a, .int .i64 (leAt es k).l, .int .i64 (leAt es k).kd, .int .i64 (leAt es k).ow, .int .i64 (leAt es k).un] 55) := ⟨_, rfl⟩
        rw [← hw2]
        have hB2 : Below wr.heap.size wr w2 := by rw [hw2]; exact bl1 _ _
        have hv2 : w2.heap[wr.heap.size]? = some (.cells #[.int .i64 (leAt es k).a, .int .i64 (leAt es k).l, .int .i64 (leAt es k).kd, .int .i64 (leAt es k).ow, .int .i64 (leAt es k).un] 55) := by rw [hw2]; exact heap_new _ rfl
        clear hw2 c0 c1 c2 c3 c4
        have v0 : w2.cell? ⟨wr.heap.size, 0, none⟩ = some (.int .i64 (leAt es k).a) := (box_cells hv2).1 0
        have v1 : w2.cell? ⟨wr.heap.size, 1, none⟩ = some (.int .i64 (leAt es k).l) := (box_cells hv2).1 1
        have v2 : w2.cell? ⟨wr.heap.size, 2, none⟩ = some (.int .i64 (leAt es k).kd) := (box_cells hv2).1 2
        have v3 : w2.cell? ⟨wr.heap.size, 3, none⟩ = some (.int .i64 (leAt es k).ow) := (box_cells hv2).1 3
        have v4 : w2.cell? ⟨wr.heap.size, 4, none⟩ = some (.int .i64 (leAt es k).un) := (box_cells hv2).1 4
        have hK2 : Kept base w w2 := (Kept.of_grown hgr hb2 hbs hg2 (.inr rfl)).trans (Kept.of_below hB2 (Nat.le_trans hbs hgr.size))
        have hcall := HF.out k (by rw [hll'.out]; exact hlt) w2 hK2
        go_wp2_with fail
        refine hcall.mono ?_
        rintro e w3 ⟨rfl, hb3⟩
        have hB3 : Below wr.heap.size wr w3 := hB2.trans (hb3.mono hB2.size)
        have hv3 := heap_later hb3 hv2
        clear v0 v1 v2 v3 v4 hcall hb3 hB2 hv2 hK2
        have hO3 := hOc.later hB3
        have hg3 : w.grownBy w3 (some g2) := grown_trans hgr ⟨hB3.os, hB3.tape, hB3.output, hB3.size, fun k hk _ => hB3.block k hk⟩
        cases hd : d (leAt es k)
        · have v0 : w3.cell? ⟨wr.heap.size, 0, none⟩ = some (.int .i64 (leAt es k).a) := (box_cells hv3).1 0
          have v1 : w3.cell? ⟨wr.heap.size, 1, none⟩ = some (.int .i64 (leAt es k).l) := (box_cells hv3).1 1
          have v2 : w3.cell? ⟨wr.heap.size, 2, none⟩ = some (.int .i64 (leAt es k).kd) := (box_cells hv3).1 2
          have v3 : w3.cell? ⟨wr.heap.size, 3, none⟩ = some (.int .i64 (leAt es k).ow) := (box_cells hv3).1 3
          have v4 : w3.cell? ⟨wr.heap.size, 4, none⟩ = some (.int .i64 (leAt es k).un) := (box_cells hv3).1 4
          obtain ⟨-, cur3, hg23⟩ := hO3.block
          have z0 := (box_cells hg23).2
          obtain ⟨b4, o4, hx4, y0, y1, y2, y3, y4⟩ := hO3.ls.1.cells a (by omega)
          simp only [Option.some.injEq, Addr.mk.injEq] at hx4
          obtain ⟨rfl, rfl, -⟩ := hx4
          simp only [Nat.zero_add] at y0 y1 y2 y3 y4
          have han : (a : Int) < n := by omega
          have ha0 : (0 : Int) ≤ a := by omega
          have hS := hO3.set a (leAt es k) (by rw [hcl]; omega)
          have hgS : w.grownBy _ (some g2) := grown_trans hg3 (set5_grown w3 g2 (a * 5) (a * 5 + 1) (a * 5 + 2) (a * 5 + 3) (a * 5 + 4) (.int .i64 (leAt es k).a) (.int .i64 (leAt es k).l) (.int .i64 (leAt es k).kd) (.int .i64 (leAt es k).ow) (.int .i64 (leAt es k).un))
          go_wp2
          go_roundw
          case rel =>
            refine ⟨_, _, _, _, _, _, _, _, _, _, _, _, _, _, _, _, _, _, _, _, _, _, _, ?_, rfl⟩
            refine ⟨a + 1, k + 1, by go_num, by go_num, by omega, by omega, ⟨_, hS, by rw [List.length_set]; exact hcl, ?_, fun q hq hqn => ?_⟩, hgS⟩
            · rw [take_set (by rw [hcl]; omega), take_step (by rw [hll'.out]; exact hlt), List.filter_append, hct'.out]
              simp [hd]
            · rw [leAt_set (by rw [hcl]; omega), if_neg (by omega)]
              exact hcr'.out q (by omega) hqn
          case measure => simp [intOf]; omega
        · go_wp2
          go_roundw
          case rel =>
            refine ⟨_, _, _, _, _, _, _, _, _, _, _, _, _, _, _, _, _, _, _, _, _, _, _, ?_, rfl⟩
            refine ⟨a, k + 1, rfl, by go_num, by omega, by omega, ⟨cs, hO3, hcl, ?_, fun q hq hqn => hcr'.out q (by omega) hqn⟩, hg3⟩
            rw [take_step (by rw [hll'.out]; exact hlt), List.filter_append, hct'.out]
            simp [hd]
          case measure => simp [intOf]; omega
      · have hkn2 : k = n := by omega
        have hfl : Hid (cs.take a = es.filter (fun e => !d e)) := by
          have h1 := hct'.out
          rw [hkn2, List.take_of_length_le (l := es) (by rw [hll'.out]; exact Nat.le_refl _)] at h1
          exact h1
        have hla : (es.filter (fun e => !d e)).length = a := by rw [← hfl.out, List.length_take, hcl]; omega
        have hOa := hOc.take a (by rw [hcl]; omega)
        have hlt2 : (cs.take a).length = a := by rw [List.length_take, hcl]; omega
        obtain ⟨wb, h4, h5, h6⟩ := clearL_run hOa (n - a) (c - a) (by omega) (by rw [hlt2]; omega) 0
        rw [hlt2] at h4
        rw [hfl.out] at h5
        clear hfl
        have hcl2 : ∀ ty, (Builtin.clear_ #[47] ty #[.slice (some ⟨g2, a * 5, none⟩) (n - a) (c - a)]).run Tryz.prog wr = .ok (.tuple #[]) wb := fun ty => h4
        have e1 : a ≤ n := by omega
        have e2 : a ≤ c := by omega
        have e3 : ¬ c = a := by omega
        have e4 : (a : Int) ≤ n := by omega
        have e5 : (a : Int) ≤ c := by omega
        have e6 : (0 : Int) ≤ a := by omega
        have hne : ¬ (k : Int) < n := by omega
        clear h4 hlt2 hOa hct' hcr' hkn2 hlt
        go_wp2
        go_ret
        exact ⟨rfl, h5, grown_trans hgr h6⟩
end Go.Proofs.YtpdoonkhnabfjaaGreat
/- What Pass of package pool comes to. -/
namespace Go.Proofs.YtpdoonkhnabfjaaGreat
open Go.RowKit Go.Shelf

/-- Has the lease cooled at that tick? -/
def cooled (T : Int) (e : Le) : Bool := (e.kd == 3) && decide (e.un ≤ T)
set_option maxRecDepth 20000 in
theorem pass1_any (T : Int) (p : Le) (b : Nat) (w : World) (h0 : w.cell? ⟨b, 0, none⟩ = some (.int .i64 T)) :
    Calls Tryz.prog 66 #[.agg #[.int .i64 p.a, .int .i64 p.l, .int .i64 p.kd, .int .i64 p.ow, .int .i64 p.un], .pointer (some ⟨b, 0, none⟩)] w fun e w' => e = .returned (.bool (cooled T p)) ∧ Below w.heap.size w w' := by
  have k0 : ∀ q, (w.alloc q).cell? ⟨b, 0, none⟩ = some (.int .i64 T) := fun q => cell_later (bl1 w q) h0
  unfold cooled
  cases hk : (p.kd == 3)
  · go_enter Tryz.func66, Tryz.ntmps66
    go_wp2
    go_ret
    exact ⟨rfl, bl1 w _⟩
  · go_enter Tryz.func66, Tryz.ntmps66
    go_wp2
    all_goals go_ret
    all_goals first | exact ⟨rfl, bl1 w _⟩ | exact ⟨by simp_all, bl1 w _⟩
theorem call_pass1 (args : Array Value) (W : World) : (callFunc 66 args).run Tryz.prog W = .ok (.enter 66 args) W := by simp [go_sem]
theorem pass_fn (T : Int) (v : Value) (b base : Nat) (es : List Le) (w : World) (h0 : w.heap[b]? = some (bkV T v)) :
    FnLeKept 66 #[.pointer (some ⟨b, 0, none⟩)] es (cooled T) base w := fun i _ W hW => pass1_any T (leAt es i) b W ((box_cells (hW.box _ _ _ h0 (by decide) (by decide))).1 0)
/-- A row of leases that has come out of the pool's own. -/
theorem OBk.sifted {W W1 : World} {base g n cap : Nat} {qs : List Po} {i m c' : Nat} {ls : List Le} (h : OBk W base (.slice (some ⟨g, 0, none⟩) n cap) qs qs.length) (hi : i < qs.length) (hbs : base ≤ W.heap.size) (ho : OwnL W1 base (.slice (poAt qs i).x m c') ls)
    (hx : ((poAt qs i).x = none ∧ Below W.heap.size W W1) ∨ ∃ g2, (poAt qs i).x = some ⟨g2, 0, none⟩ ∧ W.grownBy W1 (some g2)) :
    Kept base W W1 ∧ OwnP W1 base (.slice (some ⟨g, 0, none⟩) n cap) qs ∧ OBk (W1.setCell ⟨g, i * 9 + 8, none⟩ (.slice (poAt qs i).x m c')) base (.slice (some ⟨g, 0, none⟩) n cap) (qs.set i (withL (poAt qs i) (poAt qs i).x m c' ls)) (qs.set i (withL (poAt qs i) (poAt qs i).x m c' ls)).length := by
  rcases hx with ⟨hx, hb⟩ | ⟨g2, hx, hg⟩
  · rw [hx] at ho ⊢
    have ho2 : OwnL W1 W.heap.size (.slice none m c') ls := by
      refine ⟨ho.1, ?_⟩
      rcases ho.2 with h1 | ⟨g2, cap2, cur2, hv, -⟩
      · exact .inl h1
      · simp at hv
    exact ⟨Kept.of_below hb hbs, h.row.later hb, h.swap hi hb ho2 hbs⟩
  · rw [hx] at ho ⊢
    have hOi := h.own i hi
    rw [hx] at hOi
    obtain ⟨hb2, cur2, hg2⟩ := hOi.block
    exact ⟨Kept.of_grown hg hb2 hbs hg2 (.inr rfl), (h.turned hi hx hg ho).1, h.turn hi hx hg ho⟩
theorem OwnP.cell8 {w : World} {base g n cap : Nat} {ps : List Po} (h : OwnP w base (.slice (some ⟨g, 0, none⟩) n cap) ps) (i : Nat) (hi : i < ps.length) : w.cell? ⟨g, i * 9 + 8, none⟩ = some (.slice (poAt ps i).x (poAt ps i).n (poAt ps i).c) ∧ w.frozen? ⟨g, i * 9 + 8, none⟩ = false := by
  obtain ⟨xw, cw, he4, -, -, -, hm4⟩ := h.mem
  obtain ⟨b4, o4, he5, -, -, -, -, -, -, -, -, k8⟩ := hm4 i hi
  simp only [Value.slice.injEq] at he4
  rw [← he4.1] at he5
  simp only [Option.some.injEq, Addr.mk.injEq] at he5
  obtain ⟨rfl, rfl, -⟩ := he5
  simp only [Nat.zero_add] at k8
  obtain ⟨-, cur, hg⟩ := h.block
  exact ⟨k8, (box_cells hg).2 _⟩
/-- A book, and room for a book, at the end of the memory that was. -/
structure TC (w W : World) (t : Int) (v : Value) : Prop where
  hb : W.heap[w.heap.size]? = some (bkV t v)
  hs : W.heap[w.heap.size + 1]? = some (bkV 0 (.slice none 0 0))
  below : Below w.heap.size w W
theorem TC.later {w W W' : World} {t : Int} {v : Value} (h : TC w W t v) (hb : Below W.heap.size W W') : TC w W' t v :=
  ⟨heap_later hb h.hb, heap_later hb h.hs, h.below.trans (hb.mono h.below.size)⟩
theorem TC.kept {w W W' : World} {t : Int} {v : Value} {base : Nat} (h : TC w W t v) (hk : Kept base W W') (hb : w.heap.size ≤ base) : TC w W' t v :=
  ⟨hk.box _ _ _ h.hb (by decide) (by decide), hk.box _ _ _ h.hs (by decide) (by decide), h.below.trans (hk.below.mono hb)⟩
theorem TC.put {w W : World} {t : Int} {v u : Value} {b o : Nat} (h : TC w W t v) (hb : w.heap.size + 1 < b) : TC w (W.setCell ⟨b, o, none⟩ u) t v :=
  ⟨(heap_setCell_other W ⟨b, o, none⟩ _ u (by show w.heap.size ≠ b; omega)).trans h.hb, (heap_setCell_other W ⟨b, o, none⟩ _ u (by show w.heap.size + 1 ≠ b; omega)).trans h.hs, h.below.setCell (p := ⟨b, o, none⟩) (by show w.heap.size ≤ b; omega) u⟩
def passE (t : Int) (ps : List Po) (m : Int) : Int := if chkB t ps ≠ 0 then chkB t ps else if m < 1 ∨ 1073741824 - t < m then 3 else 0
def passL (T : Int) (ls : List Le) : List Le := ls.filter (fun e => !cooled T e)
/-- Of the first k pools the leases that have cooled are gone. -/
def PassTo (T : Int) (qs : List Po) (k : Nat) (rs : List Po) : Prop :=
  rs.length = qs.length ∧ ∀ j, j < qs.length → (j < k → ∃ x c, poAt rs j = withL (poAt qs j) x (passL T (poAt qs j).ls).length c (passL T (poAt qs j).ls)) ∧ (k ≤ j → poAt rs j = poAt qs j)
def PassR (t : Int) (ps : List Po) (m : Int) (t' : Int) (rs : List Po) : Prop := t' = t + m ∧ ∃ qs, sameB ps qs ∧ PassTo (t + m) qs qs.length rs
def PassPost (t : Int) (ps : List Po) (m : Int) (w : World) : Ending → World → Prop := BkPost (passE t ps m) (PassR t ps m) w
theorem PassTo.step {T : Int} {qs rs : List Po} {k c : Nat} {x : Option Addr} (h : PassTo T qs k rs) (hk : k < rs.length) : PassTo T qs (k + 1) (rs.set k (withL (poAt rs k) x (passL T (poAt rs k).ls).length c (passL T (poAt rs k).ls))) := by
  refine ⟨by rw [List.length_set]; exact h.1, fun j hj => ?_⟩
  have hkq : k < qs.length := by rw [← h.1]; exact hk
  obtain ⟨h1, h2⟩ := h.2 j hj
  rw [poAt_set hk]
  refine ⟨fun hjk => ?_, fun hjk => ?_⟩
  · by_cases e : k = j
    · rw [if_pos e, e, h2 (by omega)]
      exact ⟨_, _, rfl⟩
    · rw [if_neg e]
      exact h1 (by omega)
  · rw [if_neg (by omega)]
    exact h2 (by omega)
/-- What the loop keeps. -/
structure PassInv (w wr : World) (t T : Int) (v : Value) (base nb : Nat) (xq : Option Addr) (capq : Nat) (qs : List Po) (k : Nat) : Prop where
  kn : k ≤ qs.length
  tc : TC w wr t v
  nx : wr.heap[nb]? = some (bkV T (.slice xq qs.length capq))
  size : base ≤ wr.heap.size
  rs : ∃ rs, OBk wr base (.slice xq qs.length capq) rs rs.length ∧ PassTo T qs k rs

set_option maxRecDepth 100000 in
set_option maxHeartbeats 1600000 in
theorem pass_any (t : Int) (x : Option Addr) (n c : Nat) (ps : List Po) (m : Int) (w : World) (hk : Bk w x n c ps) :
    Calls Tryz.prog 35 #[.agg #[.int .i64 t, .slice x n c], .int .i64 m] w (PassPost t ps m w) := by
  have hpl : Hid (ps.length = n) := hk.ps.len
  go_enter Tryz.func35, Tryz.ntmps35
  go_upto_region 1 with fail
  obtain ⟨w0, hw0⟩ : ∃ w0, w0 = (w.alloc (bkV t (.slice x n c))).alloc (bkV 0 (.slice none 0 0)) := ⟨_, rfl⟩
  rw [← hw0]
  have hT0 : TC w w0 t (.slice x n c) := by
    rw [hw0]
    exact ⟨heap_old _ (heap_new _ rfl), heap_new _ (by simp), bl2 w _ _⟩
  clear hw0
  have b0 : w0.cell? ⟨w.heap.size, 0, none⟩ = some (.int .i64 t) := (box_cells hT0.hb).1 0
  have b1 : w0.cell? ⟨w.heap.size, 1, none⟩ = some (.slice x n c) := (box_cells hT0.hb).1 1
  have s0 : w0.cell? ⟨w.heap.size + 1, 0, none⟩ = some (.int .i64 0) := (box_cells hT0.hs).1 0
  have s1 : w0.cell? ⟨w.heap.size + 1, 1, none⟩ = some (.slice none 0 0) := (box_cells hT0.hs).1 1
  have zs0 : w0.frozen? ⟨w.heap.size + 1, 0, none⟩ = false := (box_cells hT0.hs).2 0
  have zs1 : w0.frozen? ⟨w.heap.size + 1, 1, none⟩ = false := (box_cells hT0.hs).2 1
  have hck := checkB_any t x n c ps w0 (hk.later hT0.below)
  by_cases hc0 : chkB t ps = 0
  · rw [hc0] at hck
    obtain ⟨hn8, ⟨ht0, ht1⟩, -⟩ := chk_ok hc0
    rw [hpl.out] at hn8
    have hE1 : Hid (passE t ps m = if m < 1 ∨ 1073741824 - t < m then 3 else 0) := if_neg (c := chkB t ps ≠ 0) (by simp [hc0])
    by_cases hr1 : m < 1
    · have hne : Hid (passE t ps m = 3 ∧ (3 : Int) ≠ 0) := ⟨hE1.out.trans (if_pos (.inl hr1)), by decide⟩
      go_wp2_with fail
      refine hck.mono ?_
      rintro e w1 ⟨rfl, hb1⟩
      have hT1 := hT0.later hb1
      clear b0 b1 s0 s1 zs0 zs1 hb1 hck hE1
      have b0 : w1.cell? ⟨w.heap.size, 0, none⟩ = some (.int .i64 t) := (box_cells hT1.hb).1 0
      have b1 : w1.cell? ⟨w.heap.size, 1, none⟩ = some (.slice x n c) := (box_cells hT1.hb).1 1
      have s0 : w1.cell? ⟨w.heap.size + 1, 0, none⟩ = some (.int .i64 0) := (box_cells hT1.hs).1 0
      have s1 : w1.cell? ⟨w.heap.size + 1, 1, none⟩ = some (.slice none 0 0) := (box_cells hT1.hs).1 1
      have zs0 : w1.frozen? ⟨w.heap.size + 1, 0, none⟩ = false := (box_cells hT1.hs).2 0
      have zs1 : w1.frozen? ⟨w.heap.size + 1, 1, none⟩ = false := (box_cells hT1.hs).2 1
      go_wp2
      refine bodyPost_ret (v := .tuple #[.agg #[.int .i64 0, .slice none 0 0], .int .i64 3]) (by simp [results, Tryz.results35, go_sem, s0, s1]) rfl ?_
      exact BkPost.err hne.out ((hT1.below.setCell (p := ⟨w.heap.size + 1, 0, none⟩) (Nat.le_add_right _ _) _).setCell (p := ⟨w.heap.size + 1, 1, none⟩) (Nat.le_add_right _ _) _)
    by_cases hr2 : 1073741824 - t < m
    · have hne : Hid (passE t ps m = 3 ∧ (3 : Int) ≠ 0) := ⟨hE1.out.trans (if_pos (.inr hr2)), by decide⟩
      go_wp2_with fail
      refine hck.mono ?_
      rintro e w1 ⟨rfl, hb1⟩
      have hT1 := hT0.later hb1
      clear b0 b1 s0 s1 zs0 zs1 hb1 hck hE1
      have b0 : w1.cell? ⟨w.heap.size, 0, none⟩ = some (.int .i64 t) := (box_cells hT1.hb).1 0
      have b1 : w1.cell? ⟨w.heap.size, 1, none⟩ = some (.slice x n c) := (box_cells hT1.hb).1 1
      have s0 : w1.cell? ⟨w.heap.size + 1, 0, none⟩ = some (.int .i64 0) := (box_cells hT1.hs).1 0
      have s1 : w1.cell? ⟨w.heap.size + 1, 1, none⟩ = some (.slice none 0 0) := (box_cells hT1.hs).1 1
      have zs0 : w1.frozen? ⟨w.heap.size + 1, 0, none⟩ = false := (box_cells hT1.hs).2 0
      have zs1 : w1.frozen? ⟨w.heap.size + 1, 1, none⟩ = false := (box_cells hT1.hs).2 1
      go_wp2
      refine bodyPost_ret (v := .tuple #[.agg #[.int .i64 0, .slice none 0 0], .int .i64 3]) (by simp [results, Tryz.results35, go_sem, s0, s1]) rfl ?_
      exact BkPost.err hne.out ((hT1.below.setCell (p := ⟨w.heap.size + 1, 0, none⟩) (Nat.le_add_right _ _) _).setCell (p := ⟨w.heap.size + 1, 1, none⟩) (Nat.le_add_right _ _) _)
    have hE0 : Hid (passE t ps m = 0) := hE1.out.trans (if_neg (by omega))
    have hm0 : 1 ≤ m := by omega
    have hm1 : ¬ 1073741824 - t < m := hr2
    have hm2 : t + m ≤ 1073741824 := by omega
    have hm3 : 0 ≤ t + m := by omega
    go_wp2_with fail
    refine hck.mono ?_
    rintro e w1 ⟨rfl, hb1⟩
    have hT1 := hT0.later hb1
    clear b0 b1 s0 s1 zs0 zs1 hb1 hck hE1
    have b0 : w1.cell? ⟨w.heap.size, 0, none⟩ = some (.int .i64 t) := (box_cells hT1.hb).1 0
    have b1 : w1.cell? ⟨w.heap.size, 1, none⟩ = some (.slice x n c) := (box_cells hT1.hb).1 1
    have s0 : w1.cell? ⟨w.heap.size + 1, 0, none⟩ = some (.int .i64 0) := (box_cells hT1.hs).1 0
    have s1 : w1.cell? ⟨w.heap.size + 1, 1, none⟩ = some (.slice none 0 0) := (box_cells hT1.hs).1 1
    have zs0 : w1.frozen? ⟨w.heap.size + 1, 0, none⟩ = false := (box_cells hT1.hs).2 0
    have zs1 : w1.frozen? ⟨w.heap.size + 1, 1, none⟩ = false := (box_cells hT1.hs).2 1
    go_wp2_with fail
    refine (freshBook_any t x n c ps w1 (hk.later hT1.below) (by omega)).mono ?_
    rintro e w5 ⟨v5, qs, rfl, hs, hOB, hb5⟩
    have hql : Hid (qs.length = n) := hs.1.symm.trans hpl.out
    obtain ⟨xq, capq, rfl, hq1, hq2, -, -⟩ := hOB.row.mem
    clear b0 b1 s0 s1 zs0 zs1
    go_upto_region 7 with fail
    obtain ⟨w6, hw6⟩ : ∃ w6, w6 = w5.alloc (bkV t (.slice xq qs.length capq)) := ⟨_, rfl⟩
    rw [← hw6]
    have hT6 : TC w w6 t (.slice x n c) := by rw [hw6]; exact (hT1.later hb5).later (bl1 _ _)
    have hn6 : w6.heap[w5.heap.size]? = some (bkV t (.slice xq qs.length capq)) := by rw [hw6]; exact heap_new _ rfl
    have hOB6 : OBk w6 w1.heap.size (.slice xq qs.length capq) qs qs.length := by
      rw [hw6]
      exact hOB.later (bl1 _ _)
    have hs6 : w1.heap.size ≤ w6.heap.size := by rw [hw6]; have := hb5.size; simp; omega
    have hsz1 : w.heap.size + 1 < w1.heap.size := (Array.getElem?_eq_some_iff.1 hT1.hs).1
    have hnb : w.heap.size + 1 < w5.heap.size := by have := hb5.size; omega
    clear hw6 hOB hb5
    have m0 : w6.cell? ⟨w5.heap.size, 0, none⟩ = some (.int .i64 t) := (box_cells hn6).1 0
    have zm0 : w6.frozen? ⟨w5.heap.size, 0, none⟩ = false := (box_cells hn6).2 0
    go_upto_region 8 with fail
    obtain ⟨w7, hw7⟩ : ∃ w7, w7 = w6.setCell ⟨w5.heap.size, 0, none⟩ (.int .i64 (t + m)) := ⟨_, rfl⟩
    rw [← hw7]
    have hI0 : PassInv w w7 t (t + m) (.slice x n c) w1.heap.size w5.heap.size xq capq qs 0 := by
      rw [hw7]
      refine ⟨by omega, hT6.put hnb, ?_, by simpa using hs6, qs, hOB6.putBox hn6 (by decide) (by decide), rfl, fun j hj => ⟨fun h => by omega, fun _ => rfl⟩⟩
      have := heap_setCell_same w6 w5.heap.size 0 _ _ (.int .i64 (t + m)) hn6
      simpa [bkV] using this
    clear hw7 m0 zm0 hT6 hn6 hOB6 hs6
    have m1 : w7.cell? ⟨w5.heap.size, 1, none⟩ = some (.slice xq qs.length capq) := (box_cells hI0.nx).1 1
    have hq8 : qs.length ≤ 8 := by rw [hql.out]; exact hn8
    go_wp2
    go_loopw [36] (fun i wr => ∃ k : Nat, i = .int .i64 k ∧ PassInv w wr t (t + m) (.slice x n c) w1.heap.size w5.heap.size xq capq qs k) (fun i _ => qs.length - (intOf i).toNat)
    case atStart => exact ⟨0, rfl, hI0⟩
    case round =>
      obtain ⟨k, rfl, hI⟩ := hrel
      clear m1 hI0
      have hkn := hI.kn
      have hT7 := hI.tc
      have hs7 := hI.size
      obtain ⟨rs, hOBr, hpt⟩ := hI.rs
      have m0 : wr.cell? ⟨w5.heap.size, 0, none⟩ = some (.int .i64 (t + m)) := (box_cells hI.nx).1 0
      have m1 : wr.cell? ⟨w5.heap.size, 1, none⟩ = some (.slice xq qs.length capq) := (box_cells hI.nx).1 1
      by_cases hlt : k < qs.length
      · have hkr : k < rs.length := by rw [hpt.1]; exact hlt
        obtain ⟨g, rfl⟩ : ∃ g, xq = some ⟨g, 0, none⟩ := by
          rcases hOBr.row.2 with ⟨hv, h0⟩ | ⟨g, cap, cur, hv, -⟩
          · simp only [Value.slice.injEq] at hv; omega
          · simp only [Value.slice.injEq] at hv; exact ⟨g, hv.1⟩
        have hrq := (hpt.2 k hlt).2 (Nat.le_refl _)
        have hcp := chk_pool hc0 k (by rw [hs.1]; exact hlt)
        have hsp := hs.2 k (by rw [hs.1]; exact hlt)
        have hrn : (poAt rs k).n ≤ 64 := by rw [hrq, ← hsp.2.2.2.2.2.2.2.2.1]; omega
        have hdf := deleteFuncL_any 66 #[.pointer (some ⟨w5.heap.size, 0, none⟩)] w1.heap.size (poAt rs k).x (poAt rs k).n (poAt rs k).c (poAt rs k).ls (cooled (t + m)) wr (hOBr.own k hkr) hrn hs7 (pass_fn (t + m) _ w5.heap.size _ _ wr hI.nx) call_pass1
        obtain ⟨c8, -⟩ := hOBr.row.cell8 k hkr
        have hkn2 : (k : Int) < qs.length := by omega
        have hk0 : (0 : Int) ≤ k := by omega
        have hk8 : (k : Int) < 8 := by omega
        have hnx := hI.nx
        have hHs : Hid (PassTo (t + m) qs k rs) := hpt
        clear hrq hsp hcp hI hpt
        go_wp2_with fail
        refine hdf.mono ?_
        rintro e w8 ⟨rfl, hO8, hx8⟩
        have hstep : PassTo (t + m) qs (k + 1) _ := PassTo.step (x := (poAt rs k).x) (c := (poAt rs k).c) hHs.out hkr
        have hsift : Kept w1.heap.size wr w8 ∧ OwnP w8 w1.heap.size (.slice (some ⟨g, 0, none⟩) qs.length capq) rs ∧ OBk (w8.setCell ⟨g, k * 9 + 8, none⟩ (.slice (poAt rs k).x (passL (t + m) (poAt rs k).ls).length (poAt rs k).c)) w1.heap.size (.slice (some ⟨g, 0, none⟩) qs.length capq) (rs.set k (withL (poAt rs k) (poAt rs k).x (passL (t + m) (poAt rs k).ls).length (poAt rs k).c (passL (t + m) (poAt rs k).ls))) (rs.set k (withL (poAt rs k) (poAt rs k).x (passL (t + m) (poAt rs k).ls).length (poAt rs k).c (passL (t + m) (poAt rs k).ls))).length := hOBr.sifted hkr hs7 hO8 hx8
        obtain ⟨hK8, hr8, hOB8⟩ := hsift
        obtain ⟨d8, f8⟩ := hr8.cell8 k hkr
        obtain ⟨hbg, cur8, hg8⟩ := hr8.block
        have hK9 : Kept w1.heap.size wr (w8.setCell ⟨g, k * 9 + 8, none⟩ (.slice (poAt rs k).x (passL (t + m) (poAt rs k).ls).length (poAt rs k).c)) := hK8.trans (Kept.of_grown (set_grown _ _ _ _) hbg (Nat.le_trans hs7 hK8.size) hg8 (.inl rfl))
        have hI9 : PassInv w (w8.setCell ⟨g, k * 9 + 8, none⟩ (.slice (poAt rs k).x (passL (t + m) (poAt rs k).ls).length (poAt rs k).c)) t (t + m) (.slice x n c) w1.heap.size w5.heap.size (some ⟨g, 0, none⟩) capq qs (k + 1) :=
          ⟨hlt, hT7.kept hK9 hT1.below.size, hK9.box _ _ _ hnx (by decide) (by decide), Nat.le_trans hs7 hK9.size, _, hOB8, hstep⟩
        clear c8 m0 m1 hdf hO8 hx8 hOB8 hstep hK8 hr8
        go_wp2
        go_roundw
        case rel => exact ⟨k + 1, by go_num, hI9⟩
        case measure => simp [intOf]; omega
      · have hne : ¬ (k : Int) < qs.length := by omega
        have hkq : Hid (k = qs.length) := by unfold Hid; omega
        have s0 : wr.cell? ⟨w.heap.size + 1, 0, none⟩ = some (.int .i64 0) := (box_cells hT7.hs).1 0
        have s1 : wr.cell? ⟨w.heap.size + 1, 1, none⟩ = some (.slice none 0 0) := (box_cells hT7.hs).1 1
        have zs0 : wr.frozen? ⟨w.heap.size + 1, 0, none⟩ = false := (box_cells hT7.hs).2 0
        have zs1 : wr.frozen? ⟨w.heap.size + 1, 1, none⟩ = false := (box_cells hT7.hs).2 1
        have hp2 : Hid (PassTo (t + m) qs qs.length rs) := by
          have := hpt
          rw [hkq.out] at this
          exact this
        clear hpt hI
        go_wp2
        refine bodyPost_ret (v := .tuple #[.agg #[.int .i64 (t + m), .slice xq qs.length capq], .int .i64 0]) (by simp [results, Tryz.results35, go_sem, s0, s1]) rfl ?_
        have hfin := (hT7.below.setCell (p := ⟨w.heap.size + 1, 0, none⟩) (Nat.le_add_right _ _) (.int .i64 (t + m))).setCell (p := ⟨w.heap.size + 1, 1, none⟩) (Nat.le_add_right _ _) (.slice xq qs.length capq)
        have hob := ((hOBr.put (o := 0) (u := .int .i64 (t + m)) hsz1).put (o := 1) (u := .slice xq qs.length capq) hsz1).low hT1.below.size
        exact ⟨_, _, t + m, by rw [hE0.out], hfin, hob, fun h => absurd hE0.out h, fun _ => ⟨rfl, qs, hs, hp2.out⟩⟩
  · have hne : Hid (passE t ps m = chkB t ps ∧ chkB t ps ≠ 0) := ⟨if_pos hc0, hc0⟩
    go_wp2_with fail
    refine hck.mono ?_
    rintro e w1 ⟨rfl, hb1⟩
    have hT1 := hT0.later hb1
    clear b0 b1 s0 s1 zs0 zs1 hck hb1
    have b0 : w1.cell? ⟨w.heap.size, 0, none⟩ = some (.int .i64 t) := (box_cells hT1.hb).1 0
    have b1 : w1.cell? ⟨w.heap.size, 1, none⟩ = some (.slice x n c) := (box_cells hT1.hb).1 1
    have s0 : w1.cell? ⟨w.heap.size + 1, 0, none⟩ = some (.int .i64 0) := (box_cells hT1.hs).1 0
    have s1 : w1.cell? ⟨w.heap.size + 1, 1, none⟩ = some (.slice none 0 0) := (box_cells hT1.hs).1 1
    have zs0 : w1.frozen? ⟨w.heap.size + 1, 0, none⟩ = false := (box_cells hT1.hs).2 0
    have zs1 : w1.frozen? ⟨w.heap.size + 1, 1, none⟩ = false := (box_cells hT1.hs).2 1
    go_wp2
    refine bodyPost_ret (v := .tuple #[.agg #[.int .i64 0, .slice none 0 0], .int .i64 (chkB t ps)]) (by simp [results, Tryz.results35, go_sem, s0, s1]) rfl ?_
    exact BkPost.err hne.out ((hT1.below.setCell (p := ⟨w.heap.size + 1, 0, none⟩) (Nat.le_add_right _ _) _).setCell (p := ⟨w.heap.size + 1, 1, none⟩) (Nat.le_add_right _ _) _)
end Go.Proofs.YtpdoonkhnabfjaaGreat
