/- slices.Delete of one element, at ranges, subnets and faces. -/
import Derived.Test.YtlalgkjollgcbaaGreatMN09
import Derived.Deep.DeepAppendRoom
import Derived.Laws.CopyRow
namespace Go.Proofs.YtlalgkjollgcbaaGreat
open Go.RowKit Go.Shelf

/-- The first i of them, in the same memory. -/
theorem OwnR.take {w : World} {base g n cap : Nat} {es : List Rg} (h : OwnR w base (.slice (some ⟨g, 0, none⟩) n cap) es) (i : Nat) (hi : i ≤ es.length) : OwnR w base (.slice (some ⟨g, 0, none⟩) i cap) (es.take i) := by
  rcases h.2 with ⟨hv, -⟩ | ⟨g', cap', cur, hv, h1, h2, h3, h4, h5, h6⟩
  · simp at hv
  · simp only [Value.slice.injEq, Option.some.injEq, Addr.mk.injEq] at hv
    obtain ⟨⟨rfl, -⟩, rfl, rfl⟩ := hv
    have hl : (es.take i).length = i := by rw [List.length_take]; omega
    refine ⟨flatR_len _, .inr ⟨g, cap, cur, by rw [hl], h1, h2, by rw [hl]; omega, h4, h5, ?_⟩⟩
    have e : flatR es = flatR (es.take i) ++ flatR (es.drop i) := by rw [← flatR_app, List.take_append_drop]
    have e2 : (flatR (es.take i)).length = i * 3 := by rw [flatR_len, hl]
    rw [hl]
    have h7 : (cur.toList.take (es.length * 3)).take (i * 3) = (flatR es).take (i * 3) := by rw [h6]
    rw [List.take_take, show min (i * 3) (es.length * 3) = i * 3 by omega] at h7
    rw [h7]
    conv => lhs; rw [e]
    rw [← e2]
    exact List.take_left'  rfl
theorem zero_R (w : World) : (zeroValue 29).run Tryz.prog w = .ok (.agg #[.int .i64 0, .int .i64 0, .int .i64 0]) w := by
  obtain ⟨i0, hi, hz0, hz1, hz2⟩ := info_R'
  simp [zeroValue, typeInfo, hi, hz0]
theorem clearR_run {w : World} {base g m cap : Nat} {es : List Rg} (hO : OwnR w base (.slice (some ⟨g, 0, none⟩) m cap) es) (n c : Nat) (hn : 0 < n) (hm : es.length + n ≤ cap) (ty : TypeId) :
    ∃ w', (Builtin.clear_ #[49] ty #[.slice (some ⟨g, es.length * 3, none⟩) n c]).run Tryz.prog w = .ok (.tuple #[]) w' ∧ OwnR w' base (.slice (some ⟨g, 0, none⟩) m cap) es ∧ w.grownBy w' (some g) := by
  rcases hO.2 with ⟨hv, -⟩ | ⟨g', cap', cur, hv, h1, h2, h3, h4, h5, h6⟩
  · simp at hv
  simp only [Value.slice.injEq, Option.some.injEq, Addr.mk.injEq] at hv
  obtain ⟨⟨rfl, -⟩, rfl, rfl⟩ := hv
  obtain ⟨zs, hzs⟩ : ∃ zs, zs = (Builtin.zeroCells (Value.agg #[.int .i64 0, .int .i64 0, .int .i64 0]).cells n).toList := ⟨_, rfl⟩
  have hzl : zs.length = n * 3 := by rw [hzs, Array.length_toList, size_zeroCells]; rfl
  have hz1 : ∀ v ∈ zs, v.oneCell' = true := by
    intro v hv
    rw [hzs] at hv
    simp [Builtin.zeroCells] at hv
    obtain ⟨j, -, rfl⟩ := hv
    have h8 : j % 3 < 3 := Nat.mod_lt _ (by decide)
    show (#[Value.int .i64 0, .int .i64 0, .int .i64 0][j % 3]!).oneCell' = true
    generalize j % 3 = q at h8
    rcases q with _ | _ | _ | q
    · rfl
    · rfl
    · rfl
    · exact absurd h8 (by omega)
  have h5' : cur.toList.length = cap * 3 := by simpa using h5
  have hst := run_storeCells_at (P := Tryz.prog) g (es.length * 3) 29 zs 0 cur w h2 (by rw [hzl]; omega) hz1
  simp only [Nat.add_zero] at hst
  have hls : (cur.toList.take (es.length * 3)).length = es.length * 3 := by rw [List.length_take, h5']; omega
  refine ⟨w.setRow g (cur.toList.take (es.length * 3) ++ zs ++ cur.toList.drop (es.length * 3 + zs.length)).toArray, ?_, ⟨flatR_len _, .inr ⟨g, cap, (cur.toList.take (es.length * 3) ++ zs ++ cur.toList.drop (es.length * 3 + zs.length)).toArray, rfl, h1, setRow_heap w g cur _ _ _ h2, h3, h4, ?_, ?_⟩⟩, ?_⟩
  · obtain ⟨k, rfl⟩ : ∃ k, n = k + 1 := ⟨n - 1, by omega⟩
    simp [Builtin.clear_, run_underlying under_R, ← hzs, hst]
  · simp only [List.size_toArray, List.length_append, hls, hzl, List.length_drop, h5']
    omega
  · rw [List.append_assoc, List.take_append_of_le_length (by rw [hls]; exact Nat.le_refl _), List.take_of_length_le (by rw [hls]; exact Nat.le_refl _)]
    exact h6
  · exact ⟨rfl, rfl, rfl, by simp, fun k _ hne => setRow_other w g k _ (fun e => hne (by rw [e]))⟩

theorem OwnR.drew {w : World} {base : Nat} {v : Value} {es : List Rg} (h : OwnR w base v es) : OwnR w.drew base v es := h.later (Below.refl _ _).drew
/-- The first i of them, in the same memory. -/
theorem OwnS.take {w : World} {base g n cap : Nat} {es : List Sb} (h : OwnS w base (.slice (some ⟨g, 0, none⟩) n cap) es) (i : Nat) (hi : i ≤ es.length) : OwnS w base (.slice (some ⟨g, 0, none⟩) i cap) (es.take i) := by
  rcases h.2 with ⟨hv, -⟩ | ⟨g', cap', cur, hv, h1, h2, h3, h4, h5, h6⟩
  · simp at hv
  · simp only [Value.slice.injEq, Option.some.injEq, Addr.mk.injEq] at hv
    obtain ⟨⟨rfl, -⟩, rfl, rfl⟩ := hv
    have hl : (es.take i).length = i := by rw [List.length_take]; omega
    refine ⟨flatS_len _, .inr ⟨g, cap, cur, by rw [hl], h1, h2, by rw [hl]; omega, h4, h5, ?_⟩⟩
    have e : flatS es = flatS (es.take i) ++ flatS (es.drop i) := by rw [← flatS_app, List.take_append_drop]
    have e2 : (flatS (es.take i)).length = i * 4 := by rw [flatS_len, hl]
    rw [hl]
    have h7 : (cur.toList.take (es.length * 4)).take (i * 4) = (flatS es).take (i * 4) := by rw [h6]
    rw [List.take_take, show min (i * 4) (es.length * 4) = i * 4 by omega] at h7
    rw [h7]
    conv => lhs; rw [e]
    rw [← e2]
    exact List.take_left'  rfl
theorem zero_S (w : World) : (zeroValue 90).run Tryz.prog w = .ok (.agg #[.int .i64 0, .int .i64 0, .int .i64 0, .slice none 0 0]) w := by
  obtain ⟨i0, hi, hz0, hz1, hz2⟩ := info_S'
  simp [zeroValue, typeInfo, hi, hz0]
theorem clearS_run {w : World} {base g m cap : Nat} {es : List Sb} (hO : OwnS w base (.slice (some ⟨g, 0, none⟩) m cap) es) (n c : Nat) (hn : 0 < n) (hm : es.length + n ≤ cap) (ty : TypeId) :
    ∃ w', (Builtin.clear_ #[50] ty #[.slice (some ⟨g, es.length * 4, none⟩) n c]).run Tryz.prog w = .ok (.tuple #[]) w' ∧ OwnS w' base (.slice (some ⟨g, 0, none⟩) m cap) es ∧ w.grownBy w' (some g) := by
  rcases hO.2 with ⟨hv, -⟩ | ⟨g', cap', cur, hv, h1, h2, h3, h4, h5, h6⟩
  · simp at hv
  simp only [Value.slice.injEq, Option.some.injEq, Addr.mk.injEq] at hv
  obtain ⟨⟨rfl, -⟩, rfl, rfl⟩ := hv
  obtain ⟨zs, hzs⟩ : ∃ zs, zs = (Builtin.zeroCells (Value.agg #[.int .i64 0, .int .i64 0, .int .i64 0, .slice none 0 0]).cells n).toList := ⟨_, rfl⟩
  have hzl : zs.length = n * 4 := by rw [hzs, Array.length_toList, size_zeroCells]; rfl
  have hz1 : ∀ v ∈ zs, v.oneCell' = true := by
    intro v hv
    rw [hzs] at hv
    simp [Builtin.zeroCells] at hv
    obtain ⟨j, -, rfl⟩ := hv
    have h8 : j % 4 < 4 := Nat.mod_lt _ (by decide)
    show (#[Value.int .i64 0, .int .i64 0, .int .i64 0, .slice none 0 0][j % 4]!).oneCell' = true
    generalize j % 4 = q at h8
    rcases q with _ | _ | _ | _ | q
    · rfl
    · rfl
    · rfl
    · rfl
    · exact absurd h8 (by omega)
  have h5' : cur.toList.length = cap * 4 := by simpa using h5
  have hst := run_storeCells_at (P := Tryz.prog) g (es.length * 4) 90 zs 0 cur w h2 (by rw [hzl]; omega) hz1
  simp only [Nat.add_zero] at hst
  have hls : (cur.toList.take (es.length * 4)).length = es.length * 4 := by rw [List.length_take, h5']; omega
  refine ⟨w.setRow g (cur.toList.take (es.length * 4) ++ zs ++ cur.toList.drop (es.length * 4 + zs.length)).toArray, ?_, ⟨flatS_len _, .inr ⟨g, cap, (cur.toList.take (es.length * 4) ++ zs ++ cur.toList.drop (es.length * 4 + zs.length)).toArray, rfl, h1, setRow_heap w g cur _ _ _ h2, h3, h4, ?_, ?_⟩⟩, ?_⟩
  · obtain ⟨k, rfl⟩ : ∃ k, n = k + 1 := ⟨n - 1, by omega⟩
    simp [Builtin.clear_, run_underlying under_S, ← hzs, hst]
  · simp only [List.size_toArray, List.length_append, hls, hzl, List.length_drop, h5']
    omega
  · rw [List.append_assoc, List.take_append_of_le_length (by rw [hls]; exact Nat.le_refl _), List.take_of_length_le (by rw [hls]; exact Nat.le_refl _)]
    exact h6
  · exact ⟨rfl, rfl, rfl, by simp, fun k _ hne => setRow_other w g k _ (fun e => hne (by rw [e]))⟩

theorem OwnS.drew {w : World} {base : Nat} {v : Value} {es : List Sb} (h : OwnS w base v es) : OwnS w.drew base v es := h.later (Below.refl _ _).drew
/-- The first i of them, in the same memory. -/
theorem OwnF.take {w : World} {base g n cap : Nat} {es : List Fc} (h : OwnF w base (.slice (some ⟨g, 0, none⟩) n cap) es) (i : Nat) (hi : i ≤ es.length) : OwnF w base (.slice (some ⟨g, 0, none⟩) i cap) (es.take i) := by
  rcases h.2 with ⟨hv, -⟩ | ⟨g', cap', cur, hv, h1, h2, h3, h4, h5, h6⟩
  · simp at hv
  · simp only [Value.slice.injEq, Option.some.injEq, Addr.mk.injEq] at hv
    obtain ⟨⟨rfl, -⟩, rfl, rfl⟩ := hv
    have hl : (es.take i).length = i := by rw [List.length_take]; omega
    refine ⟨flatF_len _, .inr ⟨g, cap, cur, by rw [hl], h1, h2, by rw [hl]; omega, h4, h5, ?_⟩⟩
    have e : flatF es = flatF (es.take i) ++ flatF (es.drop i) := by rw [← flatF_app, List.take_append_drop]
    have e2 : (flatF (es.take i)).length = i * 2 := by rw [flatF_len, hl]
    rw [hl]
    have h7 : (cur.toList.take (es.length * 2)).take (i * 2) = (flatF es).take (i * 2) := by rw [h6]
    rw [List.take_take, show min (i * 2) (es.length * 2) = i * 2 by omega] at h7
    rw [h7]
    conv => lhs; rw [e]
    rw [← e2]
    exact List.take_left'  rfl
theorem zero_F (w : World) : (zeroValue 99).run Tryz.prog w = .ok (.agg #[.int .i64 0, .slice none 0 0]) w := by
  obtain ⟨i0, hi, hz0, hz1, hz2⟩ := info_F'
  simp [zeroValue, typeInfo, hi, hz0]
theorem clearF_run {w : World} {base g m cap : Nat} {es : List Fc} (hO : OwnF w base (.slice (some ⟨g, 0, none⟩) m cap) es) (n c : Nat) (hn : 0 < n) (hm : es.length + n ≤ cap) (ty : TypeId) :
    ∃ w', (Builtin.clear_ #[88] ty #[.slice (some ⟨g, es.length * 2, none⟩) n c]).run Tryz.prog w = .ok (.tuple #[]) w' ∧ OwnF w' base (.slice (some ⟨g, 0, none⟩) m cap) es ∧ w.grownBy w' (some g) := by
  rcases hO.2 with ⟨hv, -⟩ | ⟨g', cap', cur, hv, h1, h2, h3, h4, h5, h6⟩
  · simp at hv
  simp only [Value.slice.injEq, Option.some.injEq, Addr.mk.injEq] at hv
  obtain ⟨⟨rfl, -⟩, rfl, rfl⟩ := hv
  obtain ⟨zs, hzs⟩ : ∃ zs, zs = (Builtin.zeroCells (Value.agg #[.int .i64 0, .slice none 0 0]).cells n).toList := ⟨_, rfl⟩
  have hzl : zs.length = n * 2 := by rw [hzs, Array.length_toList, size_zeroCells]; rfl
  have hz1 : ∀ v ∈ zs, v.oneCell' = true := by
    intro v hv
    rw [hzs] at hv
    simp [Builtin.zeroCells] at hv
    obtain ⟨j, -, rfl⟩ := hv
    have h8 : j % 2 < 2 := Nat.mod_lt _ (by decide)
    show (#[Value.int .i64 0, .slice none 0 0][j % 2]!).oneCell' = true
    generalize j % 2 = q at h8
    rcases q with _ | _ | q
    · rfl
    · rfl
    · exact absurd h8 (by omega)
  have h5' : cur.toList.length = cap * 2 := by simpa using h5
  have hst := run_storeCells_at (P := Tryz.prog) g (es.length * 2) 99 zs 0 cur w h2 (by rw [hzl]; omega) hz1
  simp only [Nat.add_zero] at hst
  have hls : (cur.toList.take (es.length * 2)).length = es.length * 2 := by rw [List.length_take, h5']; omega
  refine ⟨w.setRow g (cur.toList.take (es.length * 2) ++ zs ++ cur.toList.drop (es.length * 2 + zs.length)).toArray, ?_, ⟨flatF_len _, .inr ⟨g, cap, (cur.toList.take (es.length * 2) ++ zs ++ cur.toList.drop (es.length * 2 + zs.length)).toArray, rfl, h1, setRow_heap w g cur _ _ _ h2, h3, h4, ?_, ?_⟩⟩, ?_⟩
  · obtain ⟨k, rfl⟩ : ∃ k, n = k + 1 := ⟨n - 1, by omega⟩
    simp [Builtin.clear_, run_underlying under_F, ← hzs, hst]
  · simp only [List.size_toArray, List.length_append, hls, hzl, List.length_drop, h5']
    omega
  · rw [List.append_assoc, List.take_append_of_le_length (by rw [hls]; exact Nat.le_refl _), List.take_of_length_le (by rw [hls]; exact Nat.le_refl _)]
    exact h6
  · exact ⟨rfl, rfl, rfl, by simp, fun k _ hne => setRow_other w g k _ (fun e => hne (by rw [e]))⟩

theorem OwnF.drew {w : World} {base : Nat} {v : Value} {es : List Fc} (h : OwnF w base v es) : OwnF w.drew base v es := h.later (Below.refl _ _).drew
end Go.Proofs.YtlalgkjollgcbaaGreat
/- Rise of package order at ranges, subnets, faces and numbers. -/
namespace Go.Proofs.YtlalgkjollgcbaaGreat
open Go.RowKit Go.Shelf

/-- They rise. -/
def riseRAt (ps : List Rg) (i : Nat) : Bool := i == 0 || decide ((rgAt ps (i - 1)).a < (rgAt ps i).a)
def riseRB (ps : List Rg) : Bool := (List.range ps.length).all (riseRAt ps)
theorem riseR_no {ps : List Rg} {k : Nat} (hk : k < ps.length) (h : riseRAt ps k = false) : riseRB ps = false := by
  unfold riseRB
  rw [List.all_eq_false]
  exact ⟨k, by simpa using hk, by simp [h]⟩
theorem riseR_yes {ps : List Rg} (h : ∀ j, j < ps.length → riseRAt ps j = true) : riseRB ps = true := by
  unfold riseRB
  rw [List.all_eq_true]
  intro j hj
  exact h j (by simpa using hj)

set_option maxRecDepth 100000 in
set_option maxHeartbeats 1600000 in
theorem riseR_any (x : Option Addr) (n c : Nat) (ps : List Rg) (bb kk : Nat) (w : World) (hp : RS w x n ps) (hn : n ≤ 64) (hby : w.cell? ⟨bb, 0, none⟩ = some (.func (.func 59) #[] #[])) :
    Calls Tryz.prog 105 #[.slice x n c, .slice (some ⟨bb, 0, none⟩) 1 kk] w fun e w' => e = .returned (.bool (riseRB ps)) ∧ Below w.heap.size w w' := by
  go_enter Tryz.func105, Tryz.ntmps105
  go_wp2
  go_loopw [5] (fun i wr => ∃ j : Nat, 1 ≤ j ∧ j ≤ n + 1 ∧ i = .int .i64 j ∧ Below w.heap.size w wr ∧ (∀ i, i < j → i < n → riseRAt ps i = true)) (fun i _ => n + 1 - (intOf i).toNat)
  case atStart => exact ⟨1, by omega, by omega, rfl, Below.refl _ _, fun i hi _ => by
    obtain rfl : i = 0 := by omega
    rfl⟩
  case round =>
    obtain ⟨j, hj1, hjn, rfl, hB, hok⟩ := hrel
    have hz := hB.size
    have hpl := hp.len
    by_cases hlt : j < n
    · obtain ⟨i, rfl⟩ : ∃ i, j = i + 1 := ⟨j - 1, by omega⟩
      have hp2 := hp.later hB
      obtain ⟨b, o, rfl, c0, c1, c2⟩ := hp2.cells i (by omega)
      obtain ⟨b2, o2, hbo, d0, d1, d2⟩ := hp2.cells (i + 1) (by omega)
      simp only [Option.some.injEq, Addr.mk.injEq, and_true] at hbo
      obtain ⟨rfl, rfl⟩ := hbo
      have hby' := cell_later hB hby
      have hlt' := hlt
      have g0 := Ws.here c0
      have k0 := Ws.here d0
      have g1 := Ws.here c1
      have k1 := Ws.here d1
      have g2 := Ws.here c2
      have k2 := Ws.here d2
      have g9 := Ws.here hby'
      have hv : ∃ v, Cmp ((rgAt ps i).a) ((rgAt ps (i + 1)).a) v ∧ (decide ((rgAt ps i).a < (rgAt ps (i + 1)).a) = !(decide (0 ≤ v))) := by
        rcases Int.lt_trichotomy ((rgAt ps i).a) ((rgAt ps (i + 1)).a) with h | h | h
        · exact ⟨-1, .inl ⟨h, rfl⟩, by simp [h]⟩
        · exact ⟨0, .inr (.inl ⟨h, rfl⟩), by simp [h]⟩
        · exact ⟨1, .inr (.inr ⟨h, rfl⟩), by simp; omega⟩
      obtain ⟨v, hv, hd⟩ := hv
      go_upto_region 4 with fail
      clear c0 d0 c1 d1 c2 d2
      first | refine wp_region_ws wr.heap.size (by kernel_rfl) (by kernel_rfl) ?_ | refine wp_region_wf wr.heap.size ?_
      cases hg : decide (0 ≤ v)
      all_goals rw [hg] at hd
      all_goals have hge : decide (v ≥ 0) = _ := hg
      all_goals repeat (go_big_quiet_step ((go_at_call 91; exact Calls.in_ws (Nat.le_refl _) (compareR_is (rgAt ps i) (rgAt ps (i + 1)) _ hv _ _ _ (g9 _)))))
      all_goals refine wpQuiet_nil ?_
      all_goals rintro _ ⟨u, rfl⟩
      all_goals have hu := hB.trans (u.property.mono hz)
      all_goals generalize u.val = wu at hu ⊢
      all_goals clear u g9 g0 k0 g1 k1 g2 k2
      all_goals go_wp2
      · go_roundw
        case rel => exact ⟨i + 1 + 1, by omega, by omega, by go_num, hu, fun q hq hqn => by
          by_cases hq2 : q < i + 1
          · exact hok q hq2 hqn
          · obtain rfl : q = i + 1 := by omega
            simp only [riseRAt, Nat.add_sub_cancel, hd]
            simp⟩
        case measure => simp [intOf]; omega
      · go_ret
        exact ⟨ret_bool (riseR_no (k := i + 1) (by omega) (by simp only [riseRAt, Nat.add_sub_cancel, hd]; simp)).symm, hu⟩
    · go_wp2
      go_ret
      exact ⟨ret_bool (riseR_yes (fun i hi => hok i (by omega) (by omega))).symm, hB⟩
/-- They rise. -/
def riseSAt (ps : List Sb) (i : Nat) : Bool := i == 0 || decide ((sbAt ps (i - 1)).id < (sbAt ps i).id)
def riseSB (ps : List Sb) : Bool := (List.range ps.length).all (riseSAt ps)
theorem riseS_no {ps : List Sb} {k : Nat} (hk : k < ps.length) (h : riseSAt ps k = false) : riseSB ps = false := by
  unfold riseSB
  rw [List.all_eq_false]
  exact ⟨k, by simpa using hk, by simp [h]⟩
theorem riseS_yes {ps : List Sb} (h : ∀ j, j < ps.length → riseSAt ps j = true) : riseSB ps = true := by
  unfold riseSB
  rw [List.all_eq_true]
  intro j hj
  exact h j (by simpa using hj)

set_option maxRecDepth 100000 in
set_option maxHeartbeats 1600000 in
theorem riseS_any (x : Option Addr) (n c : Nat) (ps : List Sb) (bb kk : Nat) (w : World) (hp : SS w x n ps) (hn : n ≤ 64) (hby : w.cell? ⟨bb, 0, none⟩ = some (.func (.func 110) #[] #[])) :
    Calls Tryz.prog 109 #[.slice x n c, .slice (some ⟨bb, 0, none⟩) 1 kk] w fun e w' => e = .returned (.bool (riseSB ps)) ∧ Below w.heap.size w w' := by
  go_enter Tryz.func109, Tryz.ntmps109
  go_wp2
  go_loopw [5] (fun i wr => ∃ j : Nat, 1 ≤ j ∧ j ≤ n + 1 ∧ i = .int .i64 j ∧ Below w.heap.size w wr ∧ (∀ i, i < j → i < n → riseSAt ps i = true)) (fun i _ => n + 1 - (intOf i).toNat)
  case atStart => exact ⟨1, by omega, by omega, rfl, Below.refl _ _, fun i hi _ => by
    obtain rfl : i = 0 := by omega
    rfl⟩
  case round =>
    obtain ⟨j, hj1, hjn, rfl, hB, hok⟩ := hrel
    have hz := hB.size
    have hpl := hp.len
    by_cases hlt : j < n
    · obtain ⟨i, rfl⟩ : ∃ i, j = i + 1 := ⟨j - 1, by omega⟩
      have hp2 := hp.later hB
      obtain ⟨b, o, rfl, c0, c1, c2, c3⟩ := hp2.cells i (by omega)
      obtain ⟨b2, o2, hbo, d0, d1, d2, d3⟩ := hp2.cells (i + 1) (by omega)
      simp only [Option.some.injEq, Addr.mk.injEq, and_true] at hbo
      obtain ⟨rfl, rfl⟩ := hbo
      have hby' := cell_later hB hby
      have hlt' := hlt
      have g0 := Ws.here c0
      have k0 := Ws.here d0
      have g1 := Ws.here c1
      have k1 := Ws.here d1
      have g2 := Ws.here c2
      have k2 := Ws.here d2
      have g3 := Ws.here c3
      have k3 := Ws.here d3
      have g9 := Ws.here hby'
      have hv : ∃ v, Cmp ((sbAt ps i).id) ((sbAt ps (i + 1)).id) v ∧ (decide ((sbAt ps i).id < (sbAt ps (i + 1)).id) = !(decide (0 ≤ v))) := by
        rcases Int.lt_trichotomy ((sbAt ps i).id) ((sbAt ps (i + 1)).id) with h | h | h
        · exact ⟨-1, .inl ⟨h, rfl⟩, by simp [h]⟩
        · exact ⟨0, .inr (.inl ⟨h, rfl⟩), by simp [h]⟩
        · exact ⟨1, .inr (.inr ⟨h, rfl⟩), by simp; omega⟩
      obtain ⟨v, hv, hd⟩ := hv
      go_upto_region 4 with fail
      clear c0 d0 c1 d1 c2 d2 c3 d3
      first | refine wp_region_ws wr.heap.size (by kernel_rfl) (by kernel_rfl) ?_ | refine wp_region_wf wr.heap.size ?_
      cases hg : decide (0 ≤ v)
      all_goals rw [hg] at hd
      all_goals have hge : decide (v ≥ 0) = _ := hg
      all_goals repeat (go_big_quiet_step ((go_at_call 126; exact Calls.in_ws (Nat.le_refl _) (compareS_is (sbAt ps i) (sbAt ps (i + 1)) _ hv _ _ _ (g9 _)))))
      all_goals refine wpQuiet_nil ?_
      all_goals rintro _ ⟨u, rfl⟩
      all_goals have hu := hB.trans (u.property.mono hz)
      all_goals generalize u.val = wu at hu ⊢
      all_goals clear u g9 g0 k0 g1 k1 g2 k2 g3 k3
      all_goals go_wp2
      · go_roundw
        case rel => exact ⟨i + 1 + 1, by omega, by omega, by go_num, hu, fun q hq hqn => by
          by_cases hq2 : q < i + 1
          · exact hok q hq2 hqn
          · obtain rfl : q = i + 1 := by omega
            simp only [riseSAt, Nat.add_sub_cancel, hd]
            simp⟩
        case measure => simp [intOf]; omega
      · go_ret
        exact ⟨ret_bool (riseS_no (k := i + 1) (by omega) (by simp only [riseSAt, Nat.add_sub_cancel, hd]; simp)).symm, hu⟩
    · go_wp2
      go_ret
      exact ⟨ret_bool (riseS_yes (fun i hi => hok i (by omega) (by omega))).symm, hB⟩
/-- They rise. -/
def riseFAt (ps : List Fc) (i : Nat) : Bool := i == 0 || decide ((fcAt ps (i - 1)).id < (fcAt ps i).id)
def riseFB (ps : List Fc) : Bool := (List.range ps.length).all (riseFAt ps)
theorem riseF_no {ps : List Fc} {k : Nat} (hk : k < ps.length) (h : riseFAt ps k = false) : riseFB ps = false := by
  unfold riseFB
  rw [List.all_eq_false]
  exact ⟨k, by simpa using hk, by simp [h]⟩
theorem riseF_yes {ps : List Fc} (h : ∀ j, j < ps.length → riseFAt ps j = true) : riseFB ps = true := by
  unfold riseFB
  rw [List.all_eq_true]
  intro j hj
  exact h j (by simpa using hj)

set_option maxRecDepth 100000 in
set_option maxHeartbeats 1600000 in
theorem riseF_any (x : Option Addr) (n c : Nat) (ps : List Fc) (bb kk : Nat) (w : World) (hp : FcS w x n ps) (hn : n ≤ 64) (hby : w.cell? ⟨bb, 0, none⟩ = some (.func (.func 123) #[] #[])) :
    Calls Tryz.prog 122 #[.slice x n c, .slice (some ⟨bb, 0, none⟩) 1 kk] w fun e w' => e = .returned (.bool (riseFB ps)) ∧ Below w.heap.size w w' := by
  go_enter Tryz.func122, Tryz.ntmps122
  go_wp2
  go_loopw [5] (fun i wr => ∃ j : Nat, 1 ≤ j ∧ j ≤ n + 1 ∧ i = .int .i64 j ∧ Below w.heap.size w wr ∧ (∀ i, i < j → i < n → riseFAt ps i = true)) (fun i _ => n + 1 - (intOf i).toNat)
  case atStart => exact ⟨1, by omega, by omega, rfl, Below.refl _ _, fun i hi _ => by
    obtain rfl : i = 0 := by omega
    rfl⟩
  case round =>
    obtain ⟨j, hj1, hjn, rfl, hB, hok⟩ := hrel
    have hz := hB.size
    have hpl := hp.len
    by_cases hlt : j < n
    · obtain ⟨i, rfl⟩ : ∃ i, j = i + 1 := ⟨j - 1, by omega⟩
      have hp2 := hp.later hB
      obtain ⟨b, o, rfl, c0, c1⟩ := hp2.cells i (by omega)
      obtain ⟨b2, o2, hbo, d0, d1⟩ := hp2.cells (i + 1) (by omega)
      simp only [Option.some.injEq, Addr.mk.injEq, and_true] at hbo
      obtain ⟨rfl, rfl⟩ := hbo
      have hby' := cell_later hB hby
      have hlt' := hlt
      have g0 := Ws.here c0
      have k0 := Ws.here d0
      have g1 := Ws.here c1
      have k1 := Ws.here d1
      have g9 := Ws.here hby'
      have hv : ∃ v, Cmp ((fcAt ps i).id) ((fcAt ps (i + 1)).id) v ∧ (decide ((fcAt ps i).id < (fcAt ps (i + 1)).id) = !(decide (0 ≤ v))) := by
        rcases Int.lt_trichotomy ((fcAt ps i).id) ((fcAt ps (i + 1)).id) with h | h | h
        · exact ⟨-1, .inl ⟨h, rfl⟩, by simp [h]⟩
        · exact ⟨0, .inr (.inl ⟨h, rfl⟩), by simp [h]⟩
        · exact ⟨1, .inr (.inr ⟨h, rfl⟩), by simp; omega⟩
      obtain ⟨v, hv, hd⟩ := hv
      go_upto_region 4 with fail
      clear c0 d0 c1 d1
      first | refine wp_region_ws wr.heap.size (by kernel_rfl) (by kernel_rfl) ?_ | refine wp_region_wf wr.heap.size ?_
      cases hg : decide (0 ≤ v)
      all_goals rw [hg] at hd
      all_goals have hge : decide (v ≥ 0) = _ := hg
      all_goals repeat (go_big_quiet_step ((go_at_call 135; exact Calls.in_ws (Nat.le_refl _) (compareF_is (fcAt ps i) (fcAt ps (i + 1)) _ hv _ _ _ (g9 _)))))
      all_goals refine wpQuiet_nil ?_
      all_goals rintro _ ⟨u, rfl⟩
      all_goals have hu := hB.trans (u.property.mono hz)
      all_goals generalize u.val = wu at hu ⊢
      all_goals clear u g9 g0 k0 g1 k1
      all_goals go_wp2
      · go_roundw
        case rel => exact ⟨i + 1 + 1, by omega, by omega, by go_num, hu, fun q hq hqn => by
          by_cases hq2 : q < i + 1
          · exact hok q hq2 hqn
          · obtain rfl : q = i + 1 := by omega
            simp only [riseFAt, Nat.add_sub_cancel, hd]
            simp⟩
        case measure => simp [intOf]; omega
      · go_ret
        exact ⟨ret_bool (riseF_no (k := i + 1) (by omega) (by simp only [riseFAt, Nat.add_sub_cancel, hd]; simp)).symm, hu⟩
    · go_wp2
      go_ret
      exact ⟨ret_bool (riseF_yes (fun i hi => hok i (by omega) (by omega))).symm, hB⟩

theorem addrAt_any (a : Int) (w : World) :
    Calls Tryz.prog 131 #[.int .i64 a] w fun e w' => e = .returned (.int .i64 a) ∧ Below w.heap.size w w' := by
  go_enter Tryz.func131, Tryz.ntmps131
  go_wp2
  go_ret
  exact ⟨rfl, Below.refl _ _⟩
theorem call_addrAt (args : Array Value) (W : World) : (callFunc 131 args).run Tryz.prog W = .ok (.enter 131 args) W := by simp [go_sem]

set_option maxRecDepth 100000 in
set_option maxHeartbeats 1600000 in
theorem compareI_is (p r v : Int) (hv : Cmp p r v) (bb kk : Nat) (w : World) (hby : w.cell? ⟨bb, 0, none⟩ = some (.func (.func 131) #[] #[])) :
    Calls Tryz.prog 136 #[.int .i64 p, .int .i64 r, .slice (some ⟨bb, 0, none⟩) 1 kk] w fun e w' => e = .returned (.int .i64 v) ∧ Below w.heap.size w w' := by
  have hcall := call_addrAt
  go_enter Tryz.func136, Tryz.ntmps136
  go_wp2
  go_loopw [12] (fun i wr => ∃ j : Nat, (j = 0 ∨ (j = 1 ∧ v = 0)) ∧ i = .int .i64 j ∧ Below w.heap.size w wr) (fun i _ => 1 - (intOf i).toNat)
  case atStart => exact ⟨0, .inl rfl, rfl, Below.refl _ _⟩
  case round =>
    obtain ⟨j, hj, rfl, hB⟩ := hrel
    rcases hj with rfl | ⟨rfl, hv0⟩
    · have hz := hB.size
      have e9 : wr.cell? ⟨bb, 0, none⟩ = some (.func (.func 131) #[] #[]) := cell_later hB hby
      go_upto_region 4 with fail
      clear e9
      first | refine wp_region_ws wr.heap.size (by kernel_rfl) (by kernel_rfl) ?_ | refine wp_region_wf wr.heap.size ?_
      repeat (go_big_quiet_step (first | (go_at_call 131; exact Calls.in_ws (Nat.le_refl _) (addrAt_any _ _)) | (go_at_call 80; exact Calls.in_ws_same (cmp_is _ _ _ hv _))))
      refine wpQuiet_nil ?_
      rintro _ ⟨u, rfl⟩
      have hu := hB.trans (u.property.mono hz)
      generalize u.val = wu at hu ⊢
      clear u
      rcases hv with ⟨h, rfl⟩ | ⟨h, rfl⟩ | ⟨h, rfl⟩
      · go_wp2
        go_ret
        exact ⟨rfl, hu⟩
      · go_wp2
        go_roundw
        case rel => exact ⟨1, .inr ⟨rfl, trivial⟩, by go_num, hu⟩
        case measure => simp [intOf]
      · go_wp2
        go_ret
        exact ⟨rfl, hu⟩
    · subst hv0
      go_wp2
      go_ret
      exact ⟨rfl, hB⟩
/-- They rise. -/
def riseIAt (ps : List Int) (i : Nat) : Bool := i == 0 || decide ((inAt ps (i - 1)) < (inAt ps i))
def riseIB (ps : List Int) : Bool := (List.range ps.length).all (riseIAt ps)
theorem riseI_no {ps : List Int} {k : Nat} (hk : k < ps.length) (h : riseIAt ps k = false) : riseIB ps = false := by
  unfold riseIB
  rw [List.all_eq_false]
  exact ⟨k, by simpa using hk, by simp [h]⟩
theorem riseI_yes {ps : List Int} (h : ∀ j, j < ps.length → riseIAt ps j = true) : riseIB ps = true := by
  unfold riseIB
  rw [List.all_eq_true]
  intro j hj
  exact h j (by simpa using hj)

set_option maxRecDepth 100000 in
set_option maxHeartbeats 1600000 in
theorem riseI_any (x : Option Addr) (n c : Nat) (ps : List Int) (bb kk : Nat) (w : World) (hp : IS w x n ps) (hn : n ≤ 64) (hby : w.cell? ⟨bb, 0, none⟩ = some (.func (.func 131) #[] #[])) :
    Calls Tryz.prog 130 #[.slice x n c, .slice (some ⟨bb, 0, none⟩) 1 kk] w fun e w' => e = .returned (.bool (riseIB ps)) ∧ Below w.heap.size w w' := by
  go_enter Tryz.func130, Tryz.ntmps130
  go_wp2
  go_loopw [5] (fun i wr => ∃ j : Nat, 1 ≤ j ∧ j ≤ n + 1 ∧ i = .int .i64 j ∧ Below w.heap.size w wr ∧ (∀ i, i < j → i < n → riseIAt ps i = true)) (fun i _ => n + 1 - (intOf i).toNat)
  case atStart => exact ⟨1, by omega, by omega, rfl, Below.refl _ _, fun i hi _ => by
    obtain rfl : i = 0 := by omega
    rfl⟩
  case round =>
    obtain ⟨j, hj1, hjn, rfl, hB, hok⟩ := hrel
    have hz := hB.size
    have hpl := hp.len
    by_cases hlt : j < n
    · obtain ⟨i, rfl⟩ : ∃ i, j = i + 1 := ⟨j - 1, by omega⟩
      have hp2 := hp.later hB
      obtain ⟨b, o, rfl, c0⟩ := hp2.cells i (by omega)
      obtain ⟨b2, o2, hbo, d0⟩ := hp2.cells (i + 1) (by omega)
      simp only [Option.some.injEq, Addr.mk.injEq, and_true] at hbo
      obtain ⟨rfl, rfl⟩ := hbo
      have hby' := cell_later hB hby
      have hlt' := hlt
      have g0 := Ws.here c0
      have k0 := Ws.here d0
      have g9 := Ws.here hby'
      have hv : ∃ v, Cmp ((inAt ps i)) ((inAt ps (i + 1))) v ∧ (decide ((inAt ps i) < (inAt ps (i + 1))) = !(decide (0 ≤ v))) := by
        rcases Int.lt_trichotomy ((inAt ps i)) ((inAt ps (i + 1))) with h | h | h
        · exact ⟨-1, .inl ⟨h, rfl⟩, by simp [h]⟩
        · exact ⟨0, .inr (.inl ⟨h, rfl⟩), by simp [h]⟩
        · exact ⟨1, .inr (.inr ⟨h, rfl⟩), by simp; omega⟩
      obtain ⟨v, hv, hd⟩ := hv
      go_upto_region 4 with fail
      clear c0 d0
      first | refine wp_region_ws wr.heap.size (by kernel_rfl) (by kernel_rfl) ?_ | refine wp_region_wf wr.heap.size ?_
      cases hg : decide (0 ≤ v)
      all_goals rw [hg] at hd
      all_goals have hge : decide (v ≥ 0) = _ := hg
      all_goals repeat (go_big_quiet_step ((go_at_call 136; exact Calls.in_ws (Nat.le_refl _) (compareI_is (inAt ps i) (inAt ps (i + 1)) _ hv _ _ _ (g9 _)))))
      all_goals refine wpQuiet_nil ?_
      all_goals rintro _ ⟨u, rfl⟩
      all_goals have hu := hB.trans (u.property.mono hz)
      all_goals generalize u.val = wu at hu ⊢
      all_goals clear u g9 g0 k0
      all_goals go_wp2
      · go_roundw
        case rel => exact ⟨i + 1 + 1, by omega, by omega, by go_num, hu, fun q hq hqn => by
          by_cases hq2 : q < i + 1
          · exact hok q hq2 hqn
          · obtain rfl : q = i + 1 := by omega
            simp only [riseIAt, Nat.add_sub_cancel, hd]
            simp⟩
        case measure => simp [intOf]; omega
      · go_ret
        exact ⟨ret_bool (riseI_no (k := i + 1) (by omega) (by simp only [riseIAt, Nat.add_sub_cancel, hd]; simp)).symm, hu⟩
    · go_wp2
      go_ret
      exact ⟨ret_bool (riseI_yes (fun i hi => hok i (by omega) (by omega))).symm, hB⟩
end Go.Proofs.YtlalgkjollgcbaaGreat
/- The small questions of package vpc's check.go: ranges, subnets, addresses. -/
namespace Go.Proofs.YtlalgkjollgcbaaGreat
open Go.RowKit Go.Shelf

set_option maxHeartbeats 400000 in
theorem isId_any (v : Int) (w : World) : Calls Tryz.prog 25 #[.int .i64 v] w fun e w' => e = .returned (.bool (wth v 1 65536)) ∧ w' = w := by
  unfold wth
  by_cases h : 1 ≤ v
  · have hd : decide (1 ≤ v) = true := by simpa using h
    go_enter Tryz.func25, Tryz.ntmps25
    go_wp2
    go_ret
    exact ⟨by first | rfl | (rw [hd]; rfl), rfl⟩
  · have hd : decide (1 ≤ v) = false := by simpa using h
    go_enter Tryz.func25, Tryz.ntmps25
    go_wp2
    go_ret
    exact ⟨by first | rfl | (rw [hd]; rfl), rfl⟩
theorem isId_is (v : Int) (t : Bool) (h : wth v 1 65536 = t) (w : World) : Calls Tryz.prog 25 #[.int .i64 v] w fun e w' => e = .returned (.bool t) ∧ w' = w := by
  subst h
  exact isId_any v w
theorem check_at (a l : Int) (t : Int) (h : chk a l = t) (w : World) : Calls Tryz.prog 85 #[.agg #[.int .i64 a, .int .i64 l]] w fun e w' => e = .returned (.int .i64 t) ∧ Below w.heap.size w w' := by
  subst h
  exact check_any a l w

/-- Is it a range that a network may have? -/
def rgB (r : Rg) : Bool := rt r.a r.l && wth r.p 1 65536
set_option maxRecDepth 20000 in
set_option maxHeartbeats 800000 in
theorem rangeRight_any (r : Rg) (w : World) :
    Calls Tryz.prog 56 #[.agg #[.int .i64 r.a, .int .i64 r.l, .int .i64 r.p]] w fun e w' => e = .returned (.bool (rgB r)) ∧ Below w.heap.size w w' := by
  have hc := check_any r.a r.l
  by_cases h : chk r.a r.l = 0
  · have hr : rgB r = wth r.p 1 65536 := by unfold rgB rt; rw [h]; simp
    rw [hr]
    go_enter Tryz.func56, Tryz.ntmps56
    go_wp2_with fail
    refine (check_at _ _ _ h _).mono ?_
    rintro e w1 ⟨rfl, hb1⟩
    have c2 : w1.cell? ⟨w.heap.size, 2, none⟩ = some (.int .i64 r.p) := cell_later hb1 (by simp)
    go_wp2_with (go_at_call 25; refine (isId_any _ _).mono ?_; rintro e w2 ⟨rfl, rfl⟩)
    go_ret
    exact ⟨rfl, (bl1 w _).trans (hb1.mono (by simp))⟩
  · have hr : rgB r = false := by unfold rgB rt; simp [h]
    have h2 : (chk r.a r.l == 0) = false := by simpa using h
    rw [hr]
    go_enter Tryz.func56, Tryz.ntmps56
    go_wp2_with (go_at_call 85; refine (check_any _ _ _).mono ?_; rintro e w1 ⟨rfl, hb1⟩)
    go_ret
    exact ⟨rfl, (bl1 w _).trans (hb1.mono (by simp))⟩
theorem rangeRight_is (r : Rg) (t : Bool) (h : rgB r = t) (w : World) :
    Calls Tryz.prog 56 #[.agg #[.int .i64 r.a, .int .i64 r.l, .int .i64 r.p]] w fun e w' => e = .returned (.bool t) ∧ Below w.heap.size w w' := by
  subst h
  exact rangeRight_any r w

/-- Does the i-th range meet that prefix? -/
def rmB (rs : List Rg) (c m : Int) (i : Nat) : Bool := mts (rgAt rs i).a (rgAt rs i).l c m
set_option maxRecDepth 20000 in
set_option maxHeartbeats 800000 in
theorem meetsRange1_any (c m : Int) (p : Rg) (b : Nat) (w : World) (h0 : w.cell? ⟨b, 0, none⟩ = some (.int .i64 c)) (h1 : w.cell? ⟨b, 1, none⟩ = some (.int .i64 m)) :
    Calls Tryz.prog 87 #[.agg #[.int .i64 p.a, .int .i64 p.l, .int .i64 p.p], .pointer (some ⟨b, 0, none⟩)] w fun e w' => e = .returned (.bool (mts p.a p.l c m)) ∧ Below w.heap.size w w' := by
  have k0 : ∀ q, (w.alloc q).cell? ⟨b, 0, none⟩ = some (.int .i64 c) := fun q => cell_later (bl1 w q) h0
  have k1 : ∀ q, (w.alloc q).cell? ⟨b, 1, none⟩ = some (.int .i64 m) := fun q => cell_later (bl1 w q) h1
  go_enter Tryz.func87, Tryz.ntmps87
  go_wp2_with (go_at_call 88; refine (meets_any _ _ _ _ _).mono ?_; rintro e w1 ⟨rfl, hb1⟩)
  go_ret
  exact ⟨rfl, (bl1 w _).trans (hb1.mono (by simp))⟩
theorem call_meetsRange1 (args : Array Value) (W : World) : (callFunc 87 args).run Tryz.prog W = .ok (.enter 87 args) W := by simp [go_sem]
theorem meetsRange_fn (c m : Int) (b n : Nat) (rs : List Rg) (w : World) (h0 : w.cell? ⟨b, 0, none⟩ = some (.int .i64 c)) (h1 : w.cell? ⟨b, 1, none⟩ = some (.int .i64 m)) :
    FnRgAt 87 #[.pointer (some ⟨b, 0, none⟩)] n rs (rmB rs c m) w := fun i _ W hW => meetsRange1_any c m (rgAt rs i) b W (cell_later hW h0) (cell_later hW h1)
set_option maxRecDepth 20000 in
theorem meetsRange_any (c m : Int) (x : Option Addr) (n k : Nat) (rs : List Rg) (w : World) (hp : RS w x n rs) (hn : n ≤ 64) :
    Calls Tryz.prog 57 #[.slice x n k, .agg #[.int .i64 c, .int .i64 m]] w fun e w' => e = .returned (.bool (anyAt n (rmB rs c m))) ∧ Below w.heap.size w w' := by
  go_enter Tryz.func57, Tryz.ntmps57
  go_wp2_with fail
  refine (containsFuncRg_any 87 _ x n k rs _ _ (hp.later (bl1 w _)) (by omega) (meetsRange_fn c m w.heap.size n rs _ (by simp) (by simp)) call_meetsRange1).mono ?_
  rintro e w1 ⟨rfl, hb1⟩
  go_wp2
  go_ret
  exact ⟨rfl, (bl1 w _).trans (hb1.mono (by simp))⟩

/-- Does the i-th subnet meet that prefix? -/
def smB (ss : List Sb) (c m : Int) (i : Nat) : Bool := mts (sbAt ss i).a (sbAt ss i).l c m
set_option maxRecDepth 20000 in
set_option maxHeartbeats 800000 in
theorem meetsSub1_any (c m : Int) (p : Sb) (b : Nat) (w : World) (h0 : w.cell? ⟨b, 0, none⟩ = some (.int .i64 c)) (h1 : w.cell? ⟨b, 1, none⟩ = some (.int .i64 m)) :
    Calls Tryz.prog 120 #[.agg #[.int .i64 p.id, .int .i64 p.a, .int .i64 p.l, .slice p.x p.n p.c], .pointer (some ⟨b, 0, none⟩)] w fun e w' => e = .returned (.bool (mts p.a p.l c m)) ∧ Below w.heap.size w w' := by
  have k0 : ∀ q, (w.alloc q).cell? ⟨b, 0, none⟩ = some (.int .i64 c) := fun q => cell_later (bl1 w q) h0
  have k1 : ∀ q, (w.alloc q).cell? ⟨b, 1, none⟩ = some (.int .i64 m) := fun q => cell_later (bl1 w q) h1
  go_enter Tryz.func120, Tryz.ntmps120
  go_wp2_with (go_at_call 88; refine (meets_any _ _ _ _ _).mono ?_; rintro e w1 ⟨rfl, hb1⟩)
  go_ret
  exact ⟨rfl, (bl1 w _).trans (hb1.mono (by simp))⟩
theorem call_meetsSub1 (args : Array Value) (W : World) : (callFunc 120 args).run Tryz.prog W = .ok (.enter 120 args) W := by simp [go_sem]
theorem meetsSub_fn (c m : Int) (b n : Nat) (ss : List Sb) (w : World) (h0 : w.cell? ⟨b, 0, none⟩ = some (.int .i64 c)) (h1 : w.cell? ⟨b, 1, none⟩ = some (.int .i64 m)) :
    FnSbAt 120 #[.pointer (some ⟨b, 0, none⟩)] n ss (smB ss c m) w := fun i _ W hW => meetsSub1_any c m (sbAt ss i) b W (cell_later hW h0) (cell_later hW h1)
set_option maxRecDepth 20000 in
theorem meetsSub_any (c m : Int) (x : Option Addr) (n k : Nat) (ss : List Sb) (w : World) (hp : SS w x n ss) (hn : n ≤ 64) :
    Calls Tryz.prog 107 #[.slice x n k, .agg #[.int .i64 c, .int .i64 m]] w fun e w' => e = .returned (.bool (anyAt n (smB ss c m))) ∧ Below w.heap.size w w' := by
  go_enter Tryz.func107, Tryz.ntmps107
  go_wp2_with fail
  refine (containsFuncSb_any 120 _ x n k ss _ _ (hp.later (bl1 w _)) (by omega) (meetsSub_fn c m w.heap.size n ss _ (by simp) (by simp)) call_meetsSub1).mono ?_
  rintro e w1 ⟨rfl, hb1⟩
  go_wp2
  go_ret
  exact ⟨rfl, (bl1 w _).trans (hb1.mono (by simp))⟩

/-- Is that prefix inside of the i-th range? -/
def riB (rs : List Rg) (c m : Int) (i : Nat) : Bool := ins c m (rgAt rs i).a (rgAt rs i).l
/-- May a network with these ranges have a subnet with that Id, there? -/
def subB (n : Nat) (rs : List Rg) (id c m : Int) : Bool := wth id 1 65536 && anyAt n (riB rs c m)
set_option maxRecDepth 20000 in
set_option maxHeartbeats 800000 in
theorem subRight1_any (c m : Int) (p : Rg) (b : Nat) (w : World) (h0 : w.cell? ⟨b, 0, none⟩ = some (.int .i64 c)) (h1 : w.cell? ⟨b, 1, none⟩ = some (.int .i64 m)) :
    Calls Tryz.prog 119 #[.agg #[.int .i64 p.a, .int .i64 p.l, .int .i64 p.p], .pointer (some ⟨b, 0, none⟩)] w fun e w' => e = .returned (.bool (ins c m p.a p.l)) ∧ Below w.heap.size w w' := by
  have k0 : ∀ q, (w.alloc q).cell? ⟨b, 0, none⟩ = some (.int .i64 c) := fun q => cell_later (bl1 w q) h0
  have k1 : ∀ q, (w.alloc q).cell? ⟨b, 1, none⟩ = some (.int .i64 m) := fun q => cell_later (bl1 w q) h1
  go_enter Tryz.func119, Tryz.ntmps119
  go_wp2_with (go_at_call 112; refine (inside_any _ _ _ _ _).mono ?_; rintro e w1 ⟨rfl, hb1⟩)
  go_ret
  exact ⟨rfl, (bl1 w _).trans (hb1.mono (by simp))⟩
theorem call_subRight1 (args : Array Value) (W : World) : (callFunc 119 args).run Tryz.prog W = .ok (.enter 119 args) W := by simp [go_sem]
theorem subRight_fn (c m : Int) (b n : Nat) (rs : List Rg) (w : World) (h0 : w.cell? ⟨b, 0, none⟩ = some (.int .i64 c)) (h1 : w.cell? ⟨b, 1, none⟩ = some (.int .i64 m)) :
    FnRgAt 119 #[.pointer (some ⟨b, 0, none⟩)] n rs (riB rs c m) w := fun i _ W hW => subRight1_any c m (rgAt rs i) b W (cell_later hW h0) (cell_later hW h1)
set_option maxRecDepth 20000 in
set_option maxHeartbeats 800000 in
theorem subRight_any (vid id c m : Int) (rx sx : Option Addr) (rn rc sn sc : Nat) (rs : List Rg) (w : World) (hp : RS w rx rn rs) (hn : rn ≤ 64) :
    Calls Tryz.prog 106 #[.agg #[.int .i64 vid, .slice rx rn rc, .slice sx sn sc], .int .i64 id, .agg #[.int .i64 c, .int .i64 m]] w fun e w' => e = .returned (.bool (subB rn rs id c m)) ∧ Below w.heap.size w w' := by
  unfold subB
  cases hw : wth id 1 65536
  · go_enter Tryz.func106, Tryz.ntmps106
    go_wp2_with (go_at_call 25; refine (isId_is _ _ hw _).mono ?_; rintro e w1 ⟨rfl, rfl⟩)
    go_ret
    exact ⟨rfl, bl2 w _ _⟩
  · go_enter Tryz.func106, Tryz.ntmps106
    go_wp2_with fail
    refine (isId_is _ _ hw _).mono ?_
    rintro e w1 ⟨rfl, rfl⟩
    go_wp2_with fail
    refine (containsFuncRg_any 119 _ rx rn rc rs _ _ (hp.later (bl2 w _ _)) (by omega) (subRight_fn c m (w.heap.size + 1) rn rs _ (by simp) (by simp)) call_subRight1).mono ?_
    rintro e w1 ⟨rfl, hb1⟩
    go_wp2
    go_ret
    exact ⟨by simp, (bl2 w _ _).trans (hb1.mono (by simp; omega))⟩
theorem subRight_is (vid id c m : Int) (rx sx : Option Addr) (rn rc sn sc : Nat) (rs : List Rg) (t : Bool) (h : subB rn rs id c m = t) (w : World) (hp : RS w rx rn rs) (hn : rn ≤ 64) :
    Calls Tryz.prog 106 #[.agg #[.int .i64 vid, .slice rx rn rc, .slice sx sn sc], .int .i64 id, .agg #[.int .i64 c, .int .i64 m]] w fun e w' => e = .returned (.bool t) ∧ Below w.heap.size w w' := by
  subst h
  exact subRight_any vid id c m rx sx rn rc sn sc rs w hp hn

set_option maxRecDepth 20000 in
theorem tooManyFaces1_any (f : Fc) (w : World) (hf : f.n ≤ 9223372036854775807) :
    Calls Tryz.prog 118 #[.agg #[.int .i64 f.id, .slice f.x f.n f.c]] w fun e w' => e = .returned (.bool (decide (4 < f.n))) ∧ Below w.heap.size w w' := by
  by_cases h : 4 < f.n
  all_goals go_enter Tryz.func118, Tryz.ntmps118
  all_goals go_wp2
  all_goals go_ret
  all_goals exact ⟨ret_bool (by simp [h]; try omega), bl1 w _⟩
theorem call_tooManyFaces1 (args : Array Value) (W : World) : (callFunc 118 args).run Tryz.prog W = .ok (.enter 118 args) W := by simp [go_sem]
/-- Has that subnet too much of something? -/
def smanyB (s : Sb) : Bool := decide (8 < s.n) || anyAt s.n fun i => decide (4 < (fcAt s.fs i).n)
set_option maxRecDepth 20000 in
set_option maxHeartbeats 800000 in
theorem tooManyFaces_any (s : Sb) (w : World) (hs : s.n ≤ 9223372036854775807) (hp : FcS w s.x s.n s.fs) :
    Calls Tryz.prog 104 #[.agg #[.int .i64 s.id, .int .i64 s.a, .int .i64 s.l, .slice s.x s.n s.c]] w fun e w' => e = .returned (.bool (smanyB s)) ∧ Below w.heap.size w w' := by
  by_cases h : 8 < s.n
  · have hr : smanyB s = true := by unfold smanyB; simp [h]
    have hd : (decide ((s.n : Int) > 8)) = true := by simp; omega
    rw [hr]
    go_enter Tryz.func104, Tryz.ntmps104
    go_wp2
    go_ret
    exact ⟨rfl, bl1 w _⟩
  · have hr : smanyB s = anyAt s.n fun i => decide (4 < (fcAt s.fs i).n) := by unfold smanyB; simp [h]
    have hd : (decide ((s.n : Int) > 8)) = false := by simp; omega
    rw [hr]
    have hF : ∀ W, FnFcAt 118 #[] s.n s.fs (fun i => decide (4 < (fcAt s.fs i).n)) W := fun W i hi V _ => tooManyFaces1_any (fcAt s.fs i) V (hp.addrs i hi).2.1
    go_enter Tryz.func104, Tryz.ntmps104
    go_wp2_with fail
    refine (containsFuncFc_any 118 #[] s.x s.n s.c s.fs _ _ (hp.later (bl1 w _)) (by omega) (hF _) call_tooManyFaces1).mono ?_
    rintro e w1 ⟨rfl, hb1⟩
    go_wp2
    go_ret
    exact ⟨rfl, (bl1 w _).trans (hb1.mono (by simp))⟩
theorem call_tooManyFaces (args : Array Value) (W : World) : (callFunc 104 args).run Tryz.prog W = .ok (.enter 104 args) W := by simp [go_sem]
/-- Is there too much of something? -/
def vmanyB (rn sn : Nat) (ss : List Sb) : Bool := decide (4 < rn) || decide (6 < sn) || anyAt sn fun i => smanyB (sbAt ss i)
set_option maxRecDepth 20000 in
set_option maxHeartbeats 800000 in
theorem tooMany_any (vid : Int) (rx sx : Option Addr) (rn rc sn sc : Nat) (ss : List Sb) (w : World) (hr63 : rn ≤ 9223372036854775807) (hp : SS w sx sn ss) (hs : sn ≤ 9223372036854775807) :
    Calls Tryz.prog 82 #[.agg #[.int .i64 vid, .slice rx rn rc, .slice sx sn sc]] w fun e w' => e = .returned (.bool (vmanyB rn sn ss)) ∧ Below w.heap.size w w' := by
  by_cases h : 4 < rn
  · have hr : vmanyB rn sn ss = true := by unfold vmanyB; simp [h]
    have hd : (decide ((rn : Int) > 4)) = true := by simp; omega
    rw [hr]
    go_enter Tryz.func82, Tryz.ntmps82
    go_wp2
    go_ret
    exact ⟨rfl, bl1 w _⟩
  · have hd : (decide ((rn : Int) > 4)) = false := by simp; omega
    by_cases h2 : 6 < sn
    · have hr : vmanyB rn sn ss = true := by unfold vmanyB; simp [h2]
      have hd2 : (decide ((sn : Int) > 6)) = true := by simp; omega
      rw [hr]
      go_enter Tryz.func82, Tryz.ntmps82
      go_wp2
      go_ret
      exact ⟨rfl, bl1 w _⟩
    · have hd2 : (decide ((sn : Int) > 6)) = false := by simp; omega
      have hr : vmanyB rn sn ss = anyAt sn fun i => smanyB (sbAt ss i) := by unfold vmanyB; simp [h, h2]
      have hF : FnSbAt 104 #[] sn ss (fun i => smanyB (sbAt ss i)) w := fun i hi V hV => tooManyFaces_any (sbAt ss i) V (hp.faces i hi).2.1 ((hp.faces i hi).2.2.later hV)
      rw [hr]
      have hF2 : ∀ q, FnSbAt 104 #[] sn ss (fun i => smanyB (sbAt ss i)) (w.alloc q) := fun q i hi V hV => hF i hi V ((bl1 w q).trans (hV.mono (by simp)))
      go_enter Tryz.func82, Tryz.ntmps82
      go_wp2_with fail
      refine (containsFuncSb_any 104 #[] sx sn sc ss _ _ (hp.later (bl1 w _)) (by omega) (hF2 _) call_tooManyFaces).mono ?_
      rintro e w1 ⟨rfl, hb1⟩
      go_wp2
      go_ret
      exact ⟨rfl, (bl1 w _).trans (hb1.mono (by simp))⟩

/-- May a face there have that address? -/
def usB (a l x : Int) : Bool := decide (a < x) && decide (x < a + sp l - 1)
theorem sp_range {l : Int} (h0 : 0 ≤ l) (h1 : l ≤ 16) : 1 ≤ sp l ∧ sp l ≤ 65536 := by
  have h : l = 0 ∨ l = 1 ∨ l = 2 ∨ l = 3 ∨ l = 4 ∨ l = 5 ∨ l = 6 ∨ l = 7 ∨ l = 8 ∨ l = 9 ∨ l = 10 ∨ l = 11 ∨ l = 12 ∨ l = 13 ∨ l = 14 ∨ l = 15 ∨ l = 16 := by omega
  rcases h with rfl | rfl | rfl | rfl | rfl | rfl | rfl | rfl | rfl | rfl | rfl | rfl | rfl | rfl | rfl | rfl | rfl <;> decide
theorem size_at (a l : Int) (h : rt a l = true) (w : World) :
    Calls Tryz.prog 138 #[.agg #[.int .i64 a, .int .i64 l]] w fun e w' => e = .returned (.int .i64 (sp l)) ∧ Below w.heap.size w w' := by
  have := size_any a l w
  rw [h] at this
  exact this
set_option maxRecDepth 20000 in
set_option maxHeartbeats 800000 in
theorem usable_any (a l x : Int) (w : World) (h : rt a l = true) :
    Calls Tryz.prog 134 #[.agg #[.int .i64 a, .int .i64 l], .int .i64 x] w fun e w' => e = .returned (.bool (usB a l x)) ∧ Below w.heap.size w w' := by
  obtain ⟨h0, h1, h2, h3, -⟩ := rt_range h
  obtain ⟨s0, s1⟩ := sp_range h0 h1
  unfold usB
  go_enter Tryz.func134, Tryz.ntmps134
  have g0 := Ws.here (w := w.alloc (.cells #[.int .i64 a, .int .i64 l] 27)) (b := w.heap.size) (o := 0) (v := .int .i64 a) (by simp)
  have g1 := Ws.here (w := w.alloc (.cells #[.int .i64 a, .int .i64 l] 27)) (b := w.heap.size) (o := 1) (v := .int .i64 l) (by simp)
  go_upto_region 1 with fail
  have hB := bl1 w (.cells #[.int .i64 a, .int .i64 l] 27)
  generalize w.alloc (.cells #[.int .i64 a, .int .i64 l] 27) = w1 at *
  cases hlt : decide (a < x)
  all_goals refine wp_region_ws w1.heap.size (by kernel_rfl) (by kernel_rfl) ?_
  all_goals repeat (go_big_quiet_step ((go_at_call 138; exact Calls.in_ws (Nat.le_refl _) (size_at _ _ h _))))
  all_goals refine wpQuiet_nil ?_
  all_goals rintro _ ⟨u, rfl⟩
  all_goals have hu := hB.trans (u.property.mono hB.size)
  all_goals generalize u.val = wu at hu ⊢
  all_goals clear u g0 g1
  all_goals go_wp2
  all_goals go_ret
  · exact ⟨ret_bool (by rw [hlt]; rfl), hu⟩
  · exact ⟨ret_bool (by rw [hlt]; simp), hu⟩
end Go.Proofs.YtlalgkjollgcbaaGreat
/- rangesRight and addrsRight of package vpc. -/
namespace Go.Proofs.YtlalgkjollgcbaaGreat
open Go.RowKit Go.Shelf

theorem box_cells {V : World} {b : Nat} {cs : Array Value} {t : TypeId} (h : V.heap[b]? = some (.cells cs t)) : (∀ j, V.cell? ⟨b, j, none⟩ = cs[j]?) ∧ (∀ j, V.frozen? ⟨b, j, none⟩ = false) := by
  refine ⟨fun j => ?_, fun j => ?_⟩
  · simp [World.cell?, h]
  · simp [World.frozen?, h]
theorem heap_later {V V' : World} {b : Nat} {o : Obj} (hb : Below V.heap.size V V') (h : V.heap[b]? = some o) : V'.heap[b]? = some o := (hb.block _ (Array.getElem?_eq_some_iff.1 h).1).trans h
theorem any_congr {n : Nat} {f g : Nat → Bool} (h : ∀ j, j < n → f j = g j) : anyAt n f = anyAt n g := by
  cases hg : anyAt n g
  · refine any_no fun j hj => ?_
    rw [h j hj]
    cases hgj : g j
    · rfl
    · rw [any_yes hj hgj] at hg; cases hg
  · unfold anyAt at hg ⊢
    rw [List.any_eq_true] at hg ⊢
    obtain ⟨j, hj, hgj⟩ := hg
    exact ⟨j, hj, by rw [h j (by simpa using hj)]; exact hgj⟩
theorem rgAt_take {rs : List Rg} {i j : Nat} (h : j < i) : rgAt (rs.take i) j = rgAt rs j := by
  unfold rgAt
  rw [List.getD_eq_getElem?_getD, List.getD_eq_getElem?_getD, List.getElem?_take_of_lt h]
theorem sbAt_take {ss : List Sb} {i j : Nat} (h : j < i) : sbAt (ss.take i) j = sbAt ss j := by
  unfold sbAt
  rw [List.getD_eq_getElem?_getD, List.getD_eq_getElem?_getD, List.getElem?_take_of_lt h]
theorem RS.take {w : World} {x : Option Addr} {n i : Nat} {rs : List Rg} (h : RS w x n rs) (hi : i ≤ n) : RS w x i (rs.take i) where
  len := by rw [List.length_take, h.len]; omega
  cells := fun j hj => by rw [rgAt_take hj]; exact h.cells j (by omega)
theorem SS.take {w : World} {x : Option Addr} {n i : Nat} {ss : List Sb} (h : SS w x n ss) (hi : i ≤ n) : SS w x i (ss.take i) where
  len := by rw [List.length_take, h.len]; omega
  cells := fun j hj => by rw [sbAt_take hj]; exact h.cells j (by omega)
  faces := fun j hj => by rw [sbAt_take hj]; exact h.faces j (by omega)
theorem allR_no {n k : Nat} {f : Nat → Bool} (hk : k < n) (h : f k = false) : (List.range n).all f = false := by
  rw [List.all_eq_false]
  exact ⟨k, by simpa using hk, by simp [h]⟩
theorem allR_yes {n : Nat} {f : Nat → Bool} (h : ∀ j, j < n → f j = true) : (List.range n).all f = true := by
  rw [List.all_eq_true]
  intro j hj
  exact h j (by simpa using hj)
theorem meetsRange_at (rs : List Rg) (i : Nat) (x : Option Addr) (n k : Nat) (w : World) (t : Bool) (hp : RS w x n rs) (hi : i ≤ n) (hn : n ≤ 64) (c m : Int) (h : anyAt i (rmB rs c m) = t) :
    Calls Tryz.prog 57 #[.slice x i k, .agg #[.int .i64 c, .int .i64 m]] w fun e w' => e = .returned (.bool t) ∧ Below w.heap.size w w' := by
  have hm := meetsRange_any c m x i k (rs.take i) w (hp.take hi) (by omega)
  rw [any_congr (f := rmB (rs.take i) c m) (g := rmB rs c m) (fun j hj => by unfold rmB; rw [rgAt_take hj]), h] at hm
  exact hm
theorem meetsSub_at (ss : List Sb) (i : Nat) (x : Option Addr) (n k : Nat) (w : World) (t : Bool) (hp : SS w x n ss) (hi : i ≤ n) (hn : n ≤ 64) (c m : Int) (h : anyAt i (smB ss c m) = t) :
    Calls Tryz.prog 107 #[.slice x i k, .agg #[.int .i64 c, .int .i64 m]] w fun e w' => e = .returned (.bool t) ∧ Below w.heap.size w w' := by
  have hm := meetsSub_any c m x i k (ss.take i) w (hp.take hi) (by omega)
  rw [any_congr (f := smB (ss.take i) c m) (g := smB ss c m) (fun j hj => by unfold smB; rw [sbAt_take hj]), h] at hm
  exact hm

abbrev rgO (p : Rg) : Obj := .cells #[.int .i64 p.a, .int .i64 p.l, .int .i64 p.p] 29
/-- Is the i-th range right, and does it meet none ahead of it? -/
def rgsAt (rs : List Rg) (i : Nat) : Bool := rgB (rgAt rs i) && !anyAt i (rmB rs (rgAt rs i).a (rgAt rs i).l)
def rgsB (n : Nat) (rs : List Rg) : Bool := (List.range n).all (rgsAt rs) && riseRB rs

set_option maxRecDepth 100000 in
set_option maxHeartbeats 1600000 in
theorem rangesRight_any (x : Option Addr) (n c : Nat) (rs : List Rg) (w : World) (hp : RS w x n rs) (hn : n ≤ 64) (hnc : n ≤ c) (hc63 : c ≤ 9223372036854775807) :
    Calls Tryz.prog 83 #[.slice x n c] w fun e w' => e = .returned (.bool (rgsB n rs)) ∧ Below w.heap.size w w' := by
  have hbd : Hid (rgsB n rs = ((List.range n).all (rgsAt rs) && riseRB rs)) := rfl
  go_enter Tryz.func83, Tryz.ntmps83
  go_wp2
  go_loopw [7] (fun i wr => ∃ k : Nat, k ≤ n ∧ i = .int .i64 k ∧ Below w.heap.size w wr ∧ (∀ j, j < k → rgsAt rs j = true)) (fun i _ => n - (intOf i).toNat)
  case atStart => exact ⟨0, by omega, rfl, Below.refl _ _, fun j hj => by omega⟩
  case round =>
    obtain ⟨k, hk, rfl, hB, hok⟩ := hrel
    by_cases hlt : k < n
    · have hpr := hp.later hB
      obtain ⟨b, o, rfl, c0, c1, c2⟩ := hpr.cells k hlt
      have hlt' := hlt
      have hta : Hid (rgsAt rs k = (rgB (rgAt rs k) && !anyAt k (rmB rs (rgAt rs k).a (rgAt rs k).l))) := rfl
      go_upto_region 4 with fail
      obtain ⟨w2, hw2⟩ : ∃ w2, w2 = wr.alloc (rgO (rgAt rs k)) := ⟨_, rfl⟩
      rw [← hw2]
      have h02 : Below wr.heap.size wr w2 := by rw [hw2]; exact bl1 wr _
      have hbox : w2.heap[wr.heap.size]? = some (rgO (rgAt rs k)) := by rw [hw2]; exact heap_new _ rfl
      clear hw2 c0 c1 c2
      have hp2 := hpr.later h02
      obtain ⟨hcl, -⟩ := box_cells hbox
      have g0 := Ws.here (v := .int .i64 (rgAt rs k).a) (hcl 0)
      have g1 := Ws.here (v := .int .i64 (rgAt rs k).l) (hcl 1)
      have g2 := Ws.here (v := .int .i64 (rgAt rs k).p) (hcl 2)
      clear hcl
      cases hu : rgB (rgAt rs k)
      · refine wp_region_ws w2.heap.size (by kernel_rfl) (by kernel_rfl) ?_
        repeat (go_big_quiet_step ((go_at_call 56; exact Calls.in_ws (Nat.le_refl _) (rangeRight_is _ _ hu _))))
        refine wpQuiet_nil ?_
        rintro _ ⟨u, rfl⟩
        have hB2 := hB.trans (h02.mono hB.size)
        have hu2 := hB2.trans (u.property.mono hB2.size)
        generalize u.val = wu at hu2 ⊢
        clear u g0 g1 g2
        go_wp2
        go_ret
        exact ⟨ret_bool (by rw [hbd.out, allR_no hlt' (by rw [hta.out, hu]; rfl)]; rfl), hu2⟩
      · cases ha : anyAt k (rmB rs (rgAt rs k).a (rgAt rs k).l)
        all_goals refine wp_region_ws w2.heap.size (by kernel_rfl) (by kernel_rfl) ?_
        all_goals repeat (go_big_quiet_step (first | (go_at_call 56; exact Calls.in_ws (Nat.le_refl _) (rangeRight_is _ _ hu _)) | (go_at_call 57; exact Calls.in_ws (Nat.le_refl _) (meetsRange_at rs k _ n _ _ _ (hp2.later (Ws.property _)) (by omega) hn _ _ ha))))
        all_goals refine wpQuiet_nil ?_
        all_goals rintro _ ⟨u, rfl⟩
        all_goals have hB2 := hB.trans (h02.mono hB.size)
        all_goals have hu2 := hB2.trans (u.property.mono hB2.size)
        all_goals generalize u.val = wu at hu2 ⊢
        all_goals clear u g0 g1 g2
        · go_wp2
          go_roundw
          case rel => exact ⟨k + 1, hlt', by go_num, hu2, fun j hj => by
            by_cases hj2 : j < k
            · exact hok j hj2
            · obtain rfl : j = k := by omega
              rw [hta.out, hu, ha]; rfl⟩
          case measure => simp [intOf]; omega
        · go_wp2
          go_ret
          exact ⟨ret_bool (by rw [hbd.out, allR_no hlt' (by rw [hta.out, hu, ha]; rfl)]; rfl), hu2⟩
    · obtain rfl : k = n := by omega
      go_wp2_with fail
      refine (riseR_any x k c rs wr.heap.size 1 _ ((hp.later hB).later (bl1 wr _)) hn (by simp)).mono ?_
      rintro e w1 ⟨rfl, hb1⟩
      go_wp2
      go_ret
      exact ⟨ret_bool (by rw [hbd.out, allR_yes hok]; rfl), hB.trans (((bl1 wr _).trans (hb1.mono (by simp))).mono hB.size)⟩
theorem rangesRight_is (x : Option Addr) (n c : Nat) (rs : List Rg) (t : Bool) (h : rgsB n rs = t) (w : World) (hp : RS w x n rs) (hn : n ≤ 64) (hnc : n ≤ c) (hc63 : c ≤ 9223372036854775807) :
    Calls Tryz.prog 83 #[.slice x n c] w fun e w' => e = .returned (.bool t) ∧ Below w.heap.size w w' := by
  subst h
  exact rangesRight_any x n c rs w hp hn hnc hc63

/-- Are these addresses as those of a face there must be? -/
def adB (a l : Int) (n : Nat) (ns : List Int) : Bool := riseIB ns && !anyAt n fun i => !usB a l (inAt ns i)
set_option maxRecDepth 20000 in
set_option maxHeartbeats 800000 in
theorem addrsRight1_any (a l x : Int) (b : Nat) (w : World) (hr : rt a l = true) (h0 : w.cell? ⟨b, 0, none⟩ = some (.int .i64 a)) (h1 : w.cell? ⟨b, 1, none⟩ = some (.int .i64 l)) :
    Calls Tryz.prog 133 #[.int .i64 x, .pointer (some ⟨b, 0, none⟩)] w fun e w' => e = .returned (.bool (!usB a l x)) ∧ Below w.heap.size w w' := by
  go_enter Tryz.func133, Tryz.ntmps133
  go_wp2_with (go_at_call 134; refine (usable_any _ _ _ _ hr).mono ?_; rintro e w1 ⟨rfl, hb1⟩)
  go_ret
  exact ⟨rfl, hb1⟩
theorem call_addrsRight1 (args : Array Value) (W : World) : (callFunc 133 args).run Tryz.prog W = .ok (.enter 133 args) W := by simp [go_sem]
theorem addrsRight_fn (a l : Int) (hr : rt a l = true) (b n : Nat) (ns : List Int) (w : World) (h0 : w.cell? ⟨b, 0, none⟩ = some (.int .i64 a)) (h1 : w.cell? ⟨b, 1, none⟩ = some (.int .i64 l)) :
    FnInAt 133 #[.pointer (some ⟨b, 0, none⟩)] n ns (fun i => !usB a l (inAt ns i)) w := fun i _ W hW => addrsRight1_any a l (inAt ns i) b W hr (cell_later hW h0) (cell_later hW h1)
set_option maxRecDepth 20000 in
set_option maxHeartbeats 800000 in
theorem addrsRight_any (a l : Int) (x : Option Addr) (n c : Nat) (ns : List Int) (w : World) (hr : rt a l = true) (hp : IS w x n ns) (hn : n ≤ 64) :
    Calls Tryz.prog 121 #[.agg #[.int .i64 a, .int .i64 l], .slice x n c] w fun e w' => e = .returned (.bool (adB a l n ns)) ∧ Below w.heap.size w w' := by
  have hbd : Hid (adB a l n ns = (riseIB ns && !anyAt n fun i => !usB a l (inAt ns i))) := rfl
  go_enter Tryz.func121, Tryz.ntmps121
  go_wp2_with fail
  refine (riseI_any x n c ns (w.heap.size + 1) 1 _ (hp.later (bl2 w _ _)) hn (by simp)).mono ?_
  rintro e w1 ⟨rfl, hb1⟩
  have hB := (bl2 w _ _).trans (hb1.mono (by simp; omega))
  have c0 : w1.cell? ⟨w.heap.size, 0, none⟩ = some (.int .i64 a) := cell_later hb1 (by simp)
  have c1 : w1.cell? ⟨w.heap.size, 1, none⟩ = some (.int .i64 l) := cell_later hb1 (by simp)
  clear hb1
  cases hri : riseIB ns
  · go_wp2
    go_ret
    exact ⟨ret_bool (by rw [hbd.out, hri]; rfl), hB⟩
  · go_wp2_with fail
    refine (containsFuncIn_any 133 _ x n c ns _ _ (hp.later hB) (by omega) (addrsRight_fn a l hr w.heap.size n ns _ c0 c1) call_addrsRight1).mono ?_
    rintro e w2 ⟨rfl, hb2⟩
    go_wp2
    go_ret
    exact ⟨ret_bool (by rw [hbd.out, hri]; simp), hB.trans (hb2.mono hB.size)⟩
theorem addrsRight_is (a l : Int) (x : Option Addr) (n c : Nat) (ns : List Int) (t : Bool) (h : adB a l n ns = t) (w : World) (hr : rt a l = true) (hp : IS w x n ns) (hn : n ≤ 64) :
    Calls Tryz.prog 121 #[.agg #[.int .i64 a, .int .i64 l], .slice x n c] w fun e w' => e = .returned (.bool t) ∧ Below w.heap.size w w' := by
  subst h
  exact addrsRight_any a l x n c ns w hr hp hn
end Go.Proofs.YtlalgkjollgcbaaGreat
