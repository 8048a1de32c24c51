/- The law VpcSubs. -/
import Derived.Test.YtpdhipjeobchfaaGreatMF16
namespace Go.Proofs.YtpdhipjeobchfaaGreat
open Go.RowKit Go.Shelf

theorem get_ins {α : Type} (xs : List α) (p : Nat) (hp : p ≤ xs.length) (e : α) (j : Nat) : (xs.take p ++ [e] ++ xs.drop p)[j]? = if j < p then xs[j]? else if j = p then some e else xs[j - 1]? := by
  have hl : (xs.take p).length = p := by rw [List.length_take]; omega
  by_cases h1 : j < p
  · rw [if_pos h1, List.append_assoc, List.getElem?_append_left (by omega), List.getElem?_take, if_pos h1]
  · rw [if_neg h1]
    by_cases h2 : j = p
    · subst h2
      rw [if_pos rfl, List.append_assoc, List.getElem?_append_right (by omega), hl, Nat.sub_self]
      rfl
    · rw [if_neg h2, List.getElem?_append_right (by simp; omega), List.length_append, hl, List.getElem?_drop]
      congr 1
      simp
      omega
theorem get_cut {α : Type} (xs : List α) (p : Nat) (hp : p < xs.length) (j : Nat) : (xs.take p ++ xs.drop (p + 1))[j]? = if j < p then xs[j]? else xs[j + 1]? := by
  have hl : (xs.take p).length = p := by rw [List.length_take]; omega
  by_cases h1 : j < p
  · rw [if_pos h1, List.getElem?_append_left (by omega), List.getElem?_take, if_pos h1]
  · rw [if_neg h1, List.getElem?_append_right (by omega), hl, List.getElem?_drop]
    congr 1
    omega
theorem sbAt_ins {ts : List Sb} {p : Nat} (hp : p ≤ ts.length) (e : Sb) (j : Nat) : sbAt (ts.take p ++ [e] ++ ts.drop p) j = if j < p then sbAt ts j else if j = p then e else sbAt ts (j - 1) := by
  unfold sbAt
  rw [List.getD_eq_getElem?_getD, get_ins ts p hp]
  split
  · rw [List.getD_eq_getElem?_getD]
  · split
    · rfl
    · rw [List.getD_eq_getElem?_getD]
theorem sbAt_cut {ts : List Sb} {p : Nat} (hp : p < ts.length) (j : Nat) : sbAt (ts.take p ++ ts.drop (p + 1)) j = if j < p then sbAt ts j else sbAt ts (j + 1) := by
  unfold sbAt
  rw [List.getD_eq_getElem?_getD, get_cut ts p hp]
  split <;> rw [List.getD_eq_getElem?_getD]
theorem sameSs.ins {a b : List Sb} {p : Nat} {e : Sb} (h : sameSs a b) (hp : p ≤ a.length) : sameSs (a.take p ++ [e] ++ a.drop p) (b.take p ++ [e] ++ b.drop p) := by
  have hpb : p ≤ b.length := by rw [← h.1]; exact hp
  refine ⟨by simp [h.1], fun j hj => ?_⟩
  rw [sbAt_ins hp, sbAt_ins hpb]
  have hj' : j < a.length + 1 := by simp at hj; omega
  split
  · exact h.2 j (by omega)
  · split
    · exact sameS.refl _
    · exact h.2 (j - 1) (by omega)
theorem sameSs.del {a b : List Sb} {p : Nat} (h : sameSs a b) (hp : p < a.length) : sameSs (a.take p ++ a.drop (p + 1)) (b.take p ++ b.drop (p + 1)) := by
  have hpb : p < b.length := by rw [← h.1]; exact hp
  refine ⟨by simp [h.1], fun j hj => ?_⟩
  rw [sbAt_cut hp, sbAt_cut hpb]
  have hj' : j < a.length - 1 := by simp at hj; omega
  split
  · exact h.2 j (by omega)
  · exact h.2 (j + 1) (by omega)
theorem PutSb.same {e : Sb} {a b x y : List Sb} (h : PutSb e a x) (g : PutSb e b y) (hs : sameSs a b) : sameSs x y := by
  obtain ⟨i, h1, h2, h3, rfl⟩ := h
  obtain ⟨j, g1, g2, g3, rfl⟩ := g
  have hl := hs.1
  obtain rfl : i = j := by
    rcases Nat.lt_trichotomy i j with hij | hij | hij
    · have := g2 i hij; rw [← (hs.2 i (by omega)).1] at this; exact absurd (h3 (by omega)) this
    · exact hij
    · have := h2 j hij; rw [(hs.2 j (by omega)).1] at this; exact absurd (g3 (by omega)) this
  exact hs.ins h1
def SubKey (vid : Int) (rs : List Rg) (ss : List Sb) (id c m E i : Int) (rs' : List Rg) (ss' : List Sb) : Prop := (E ≠ 0 → i = 0 ∧ rs' = [] ∧ ss' = []) ∧ (E = 0 → i = vid ∧ rs' = rs ∧ ∃ ts, sameSs ss ts ∧ PutSb ⟨id, c, m, none, 0, 0, []⟩ ts ss')
theorem sub_nv {vid : Int} {rs : List Rg} {ss : List Sb} {id c m E : Int} {w w' : World} {e : Ending} (h : VPost E (SubR vid rs ss id c m) w e w') :
    ∃ i V rs' ss', e = .returned (.tuple #[V, .int .i64 E]) ∧ Below w.heap.size w w' ∧ NV w' i V rs' ss' ∧ SubKey vid rs ss id c m E i rs' ss' := by
  obtain ⟨V, he, hb, hz, hk⟩ := h
  by_cases h0 : E = 0
  · obtain ⟨ts, ss', h1, h2, h3⟩ := hk h0
    exact ⟨vid, V, rs, ss', he, hb, h1, fun h => absurd h0 h, fun _ => ⟨rfl, rfl, ts, h2, h3⟩⟩
  · obtain rfl := hz h0
    exact ⟨0, _, [], [], he, hb, NV.zero _, fun _ => ⟨rfl, rfl, rfl⟩, fun h => absurd h h0⟩
theorem SubKey.one {vid : Int} {rs : List Rg} {ss : List Sb} {id c m E i j : Int} {rs1 rs2 : List Rg} {ss1 ss2 : List Sb} (h : SubKey vid rs ss id c m E i rs1 ss1) (g : SubKey vid rs ss id c m E j rs2 ss2) : i = j ∧ rs1 = rs2 ∧ sameSs ss1 ss2 := by
  by_cases h0 : E = 0
  · obtain ⟨a1, a2, ts, a3, a4⟩ := h.2 h0
    obtain ⟨b1, b2, us, b3, b4⟩ := g.2 h0
    exact ⟨a1.trans b1.symm, a2.trans b2.symm, a4.same b4 (a3.symm.trans b3)⟩
  · obtain ⟨a1, a2, a3⟩ := h.1 h0
    obtain ⟨b1, b2, b3⟩ := g.1 h0
    exact ⟨a1.trans b1.symm, a2.trans b2.symm, by rw [a3, b3]; exact sameSs.refl _⟩
def UnsubKey (vid : Int) (rs : List Rg) (ss : List Sb) (id E i : Int) (rs' : List Rg) (ss' : List Sb) : Prop := (E ≠ 0 → i = 0 ∧ rs' = [] ∧ ss' = []) ∧ (E = 0 → i = vid ∧ rs' = rs ∧ ∃ ts k, sameSs ss ts ∧ k < ts.length ∧ (sbAt ss k).id = id ∧ (∀ j, j < k → (sbAt ss j).id ≠ id) ∧ ss' = ts.take k ++ ts.drop (k + 1))
theorem unsub_nv {vid : Int} {rs : List Rg} {ss : List Sb} {id E : Int} {w w' : World} {e : Ending} (h : VPost E (UnsubR vid rs ss id) w e w') :
    ∃ i V rs' ss', e = .returned (.tuple #[V, .int .i64 E]) ∧ Below w.heap.size w w' ∧ NV w' i V rs' ss' ∧ UnsubKey vid rs ss id E i rs' ss' := by
  obtain ⟨V, he, hb, hz, hk⟩ := h
  by_cases h0 : E = 0
  · obtain ⟨ts, k, h1, h2, h3, h4, h5⟩ := hk h0
    exact ⟨vid, V, rs, _, he, hb, h5, fun h => absurd h0 h, fun _ => ⟨rfl, rfl, ts, k, h1, h2, h3, h4, rfl⟩⟩
  · obtain rfl := hz h0
    exact ⟨0, _, [], [], he, hb, NV.zero _, fun _ => ⟨rfl, rfl, rfl⟩, fun h => absurd h h0⟩
theorem UnsubKey.one {vid : Int} {rs : List Rg} {ss : List Sb} {id E i j : Int} {rs1 rs2 : List Rg} {ss1 ss2 : List Sb} (h : UnsubKey vid rs ss id E i rs1 ss1) (g : UnsubKey vid rs ss id E j rs2 ss2) : i = j ∧ rs1 = rs2 ∧ sameSs ss1 ss2 := by
  by_cases h0 : E = 0
  · obtain ⟨a1, a2, ts, k, a3, a4, a5, a6, rfl⟩ := h.2 h0
    obtain ⟨b1, b2, us, q, b3, b4, b5, b6, rfl⟩ := g.2 h0
    obtain rfl : k = q := by
      rcases Nat.lt_trichotomy k q with hkq | hkq | hkq
      · exact absurd a5 (b6 k hkq)
      · exact hkq
      · exact absurd b5 (a6 q hkq)
    exact ⟨a1.trans b1.symm, a2.trans b2.symm, (a3.symm.trans b3).del a4⟩
  · obtain ⟨a1, a2, a3⟩ := h.1 h0
    obtain ⟨b1, b2, b3⟩ := g.1 h0
    exact ⟨a1.trans b1.symm, a2.trans b2.symm, by rw [a3, b3]; exact sameSs.refl _⟩

set_option maxRecDepth 100000 in
set_option maxHeartbeats 6400000 in
theorem vpcSubs_any (vid : Int) (rx : Option Addr) (rn rc : Nat) (rs : List Rg) (sx : Option Addr) (sn sc : Nat) (ss : List Sb) (id c m : Int) (w : World) (hvp : Vp w rx rn rc rs sx sn sc ss) (hrn : rn ≤ 9223372036854775807) (hsn : sn ≤ 9223372036854775807) (hrc : rc ≤ 9223372036854775807) :
    Calls Tryz.prog 4 #[.agg #[.int .i64 vid, .slice rx rn rc, .slice sx sn sc], .int .i64 id, .agg #[.int .i64 c, .int .i64 m]] w fun e w' => e = .returned (.bool true) ∧ Below w.heap.size w w' := by
  go_enter Tryz.func4, Tryz.ntmps4
  go_upto_region 1 with fail
  obtain ⟨w0, hw⟩ : ∃ w0, w0 = (w.alloc (.cells #[.int .i64 vid, .slice rx rn rc, .slice sx sn sc] 25)).alloc (.cells #[.int .i64 c, .int .i64 m] 27) := ⟨_, rfl⟩
  rw [← hw]
  have hB : Below w.heap.size w w0 := by rw [hw]; exact bl2 w _ _
  have hv : w0.heap[w.heap.size]? = some (.cells #[.int .i64 vid, .slice rx rn rc, .slice sx sn sc] 25) := by rw [hw]; exact heap_old _ (heap_new _ rfl)
  have hp : w0.heap[w.heap.size + 1]? = some (.cells #[.int .i64 c, .int .i64 m] 27) := by rw [hw]; exact heap_new _ (by simp)
  clear hw
  have kv0 : w0.cell? ⟨w.heap.size, 0, none⟩ = some (.int .i64 vid) := (box_cells hv).1 0
  have kv1 : w0.cell? ⟨w.heap.size, 1, none⟩ = some (.slice rx rn rc) := (box_cells hv).1 1
  have kv2 : w0.cell? ⟨w.heap.size, 2, none⟩ = some (.slice sx sn sc) := (box_cells hv).1 2
  have kp0 : w0.cell? ⟨w.heap.size + 1, 0, none⟩ = some (.int .i64 c) := (box_cells hp).1 0
  have kp1 : w0.cell? ⟨w.heap.size + 1, 1, none⟩ = some (.int .i64 m) := (box_cells hp).1 1
  go_wp2_with fail
  refine (vsub_any vid rx rn rc rs sx sn sc ss id c m w0 (hvp.later hB) hrn hsn hrc).mono ?_
  intro e w1 hpost
  obtain ⟨i1, V1, rs1, ss1, rfl, hbw1, hN1, hK1⟩ := sub_nv hpost
  obtain ⟨x1, c1, y1, d1, hV1, hP1, hc1, hd1⟩ := hN1
  subst hV1
  have hN1 : NV w1 i1 (.agg #[.int .i64 i1, .slice x1 rs1.length c1, .slice y1 ss1.length d1]) rs1 ss1 := ⟨_, _, _, _, rfl, hP1, hc1, hd1⟩
  clear hP1 hc1 hd1
  clear kv0 kv1 kv2 kp0 kp1
  replace hv := heap_later hbw1 hv
  replace hp := heap_later hbw1 hp
  replace hB := hB.trans (hbw1.mono hB.size)
  go_upto_region 2 with fail
  obtain ⟨w2, hw⟩ : ∃ w2, w2 = (w1.alloc (.cells #[.int .i64 i1, .slice x1 rs1.length c1, .slice y1 ss1.length d1] 25)) := ⟨_, rfl⟩
  rw [← hw]
  have hbn : Below w1.heap.size w1 w2 := by rw [hw]; exact bl1 w1 _ 
  have ha : w2.heap[w1.heap.size]? = some (.cells #[.int .i64 i1, .slice x1 rs1.length c1, .slice y1 ss1.length d1] 25) := by rw [hw]; exact heap_new _ rfl
  clear hw
  replace hv := heap_later hbn hv
  replace hp := heap_later hbn hp
  replace hN1 := hN1.later hbn
  replace hB := hB.trans (hbn.mono hB.size)
  clear hbn
  have kv0 : w2.cell? ⟨w.heap.size, 0, none⟩ = some (.int .i64 vid) := (box_cells hv).1 0
  have kv1 : w2.cell? ⟨w.heap.size, 1, none⟩ = some (.slice rx rn rc) := (box_cells hv).1 1
  have kv2 : w2.cell? ⟨w.heap.size, 2, none⟩ = some (.slice sx sn sc) := (box_cells hv).1 2
  go_wp2_with fail
  refine (vunsub_any vid rx rn rc rs sx sn sc ss id w2 (hvp.later hB) hrn hsn hrc).mono ?_
  intro e w3 hpost
  obtain ⟨i2, V2, rs2, ss2, rfl, hbw3, hN2, hK2⟩ := unsub_nv hpost
  obtain ⟨x2, c2, y2, d2, hV2, hP2, hc2, hd2⟩ := hN2
  subst hV2
  have hN2 : NV w3 i2 (.agg #[.int .i64 i2, .slice x2 rs2.length c2, .slice y2 ss2.length d2]) rs2 ss2 := ⟨_, _, _, _, rfl, hP2, hc2, hd2⟩
  clear hP2 hc2 hd2
  clear kv0 kv1 kv2
  replace hv := heap_later hbw3 hv
  replace hp := heap_later hbw3 hp
  replace ha := heap_later hbw3 ha
  replace hN1 := hN1.later hbw3
  replace hB := hB.trans (hbw3.mono hB.size)
  go_upto_region 3 with fail
  obtain ⟨w4, hw⟩ : ∃ w4, w4 = (w3.alloc (.cells #[.int .i64 i2, .slice x2 rs2.length c2, .slice y2 ss2.length d2] 25)) := ⟨_, rfl⟩
  rw [← hw]
  have hbn : Below w3.heap.size w3 w4 := by rw [hw]; exact bl1 w3 _ 
  have hb : w4.heap[w3.heap.size]? = some (.cells #[.int .i64 i2, .slice x2 rs2.length c2, .slice y2 ss2.length d2] 25) := by rw [hw]; exact heap_new _ rfl
  clear hw
  replace hv := heap_later hbn hv
  replace hp := heap_later hbn hp
  replace ha := heap_later hbn ha
  replace hN1 := hN1.later hbn
  replace hN2 := hN2.later hbn
  replace hB := hB.trans (hbn.mono hB.size)
  clear hbn
  have kv0 : w4.cell? ⟨w.heap.size, 0, none⟩ = some (.int .i64 vid) := (box_cells hv).1 0
  have kv1 : w4.cell? ⟨w.heap.size, 1, none⟩ = some (.slice rx rn rc) := (box_cells hv).1 1
  have kv2 : w4.cell? ⟨w.heap.size, 2, none⟩ = some (.slice sx sn sc) := (box_cells hv).1 2
  have kp0 : w4.cell? ⟨w.heap.size + 1, 0, none⟩ = some (.int .i64 c) := (box_cells hp).1 0
  have kp1 : w4.cell? ⟨w.heap.size + 1, 1, none⟩ = some (.int .i64 m) := (box_cells hp).1 1
  go_wp2_with fail
  refine (subVpc_any vid rx rn rc rs sx sn sc ss id c m w4 (hvp.later hB) hrn hsn).mono ?_
  intro e w5 hpost
  obtain ⟨i3, V3, rs3, ss3, rfl, hbw5, hN3, hK3⟩ := sub_nv hpost
  obtain ⟨x3, c3, y3, d3, hV3, hP3, hc3, hd3⟩ := hN3
  subst hV3
  have hN3 : NV w5 i3 (.agg #[.int .i64 i3, .slice x3 rs3.length c3, .slice y3 ss3.length d3]) rs3 ss3 := ⟨_, _, _, _, rfl, hP3, hc3, hd3⟩
  clear hP3 hc3 hd3
  clear kv0 kv1 kv2 kp0 kp1
  replace hv := heap_later hbw5 hv
  replace hp := heap_later hbw5 hp
  replace ha := heap_later hbw5 ha
  replace hb := heap_later hbw5 hb
  replace hN1 := hN1.later hbw5
  replace hN2 := hN2.later hbw5
  replace hB := hB.trans (hbw5.mono hB.size)
  go_upto_region 4 with fail
  obtain ⟨w6, hw⟩ : ∃ w6, w6 = (w5.alloc (.cells #[.int .i64 i3, .slice x3 rs3.length c3, .slice y3 ss3.length d3] 25)) := ⟨_, rfl⟩
  rw [← hw]
  have hbn : Below w5.heap.size w5 w6 := by rw [hw]; exact bl1 w5 _ 
  have hx : w6.heap[w5.heap.size]? = some (.cells #[.int .i64 i3, .slice x3 rs3.length c3, .slice y3 ss3.length d3] 25) := by rw [hw]; exact heap_new _ rfl
  clear hw
  replace hv := heap_later hbn hv
  replace hp := heap_later hbn hp
  replace ha := heap_later hbn ha
  replace hb := heap_later hbn hb
  replace hN1 := hN1.later hbn
  replace hN2 := hN2.later hbn
  replace hN3 := hN3.later hbn
  replace hB := hB.trans (hbn.mono hB.size)
  clear hbn
  have kv0 : w6.cell? ⟨w.heap.size, 0, none⟩ = some (.int .i64 vid) := (box_cells hv).1 0
  have kv1 : w6.cell? ⟨w.heap.size, 1, none⟩ = some (.slice rx rn rc) := (box_cells hv).1 1
  have kv2 : w6.cell? ⟨w.heap.size, 2, none⟩ = some (.slice sx sn sc) := (box_cells hv).1 2
  go_wp2_with fail
  refine (unsubVpc_any vid rx rn rc rs sx sn sc ss id w6 (hvp.later hB) hrn hsn).mono ?_
  intro e w7 hpost
  obtain ⟨i4, V4, rs4, ss4, rfl, hbw7, hN4, hK4⟩ := unsub_nv hpost
  obtain ⟨x4, c4, y4, d4, hV4, hP4, hc4, hd4⟩ := hN4
  subst hV4
  have hN4 : NV w7 i4 (.agg #[.int .i64 i4, .slice x4 rs4.length c4, .slice y4 ss4.length d4]) rs4 ss4 := ⟨_, _, _, _, rfl, hP4, hc4, hd4⟩
  clear hP4 hc4 hd4
  clear kv0 kv1 kv2
  replace hv := heap_later hbw7 hv
  replace hp := heap_later hbw7 hp
  replace ha := heap_later hbw7 ha
  replace hb := heap_later hbw7 hb
  replace hx := heap_later hbw7 hx
  replace hN1 := hN1.later hbw7
  replace hN2 := hN2.later hbw7
  replace hN3 := hN3.later hbw7
  replace hB := hB.trans (hbw7.mono hB.size)
  go_upto_region 5 with fail
  obtain ⟨w8, hw⟩ : ∃ w8, w8 = (w7.alloc (.cells #[.int .i64 i4, .slice x4 rs4.length c4, .slice y4 ss4.length d4] 25)) := ⟨_, rfl⟩
  rw [← hw]
  have hbn : Below w7.heap.size w7 w8 := by rw [hw]; exact bl1 w7 _ 
  have hy : w8.heap[w7.heap.size]? = some (.cells #[.int .i64 i4, .slice x4 rs4.length c4, .slice y4 ss4.length d4] 25) := by rw [hw]; exact heap_new _ rfl
  clear hw
  replace hv := heap_later hbn hv
  replace hp := heap_later hbn hp
  replace ha := heap_later hbn ha
  replace hb := heap_later hbn hb
  replace hx := heap_later hbn hx
  replace hN1 := hN1.later hbn
  replace hN2 := hN2.later hbn
  replace hN3 := hN3.later hbn
  replace hN4 := hN4.later hbn
  replace hB := hB.trans (hbn.mono hB.size)
  clear hbn
  obtain ⟨rfl, rfl, hs13⟩ := hK1.one hK3
  obtain ⟨rfl, rfl, hs24⟩ := hK2.one hK4
  generalize subE vid rn rs sn ss id c m = E1 at *
  generalize unsubE vid rn rs sn ss id = E2 at *
  clear hK1 hK2 hK3 hK4
  have ka0 : w8.cell? ⟨w1.heap.size, 0, none⟩ = some (.int .i64 i1) := (box_cells ha).1 0
  have ka1 : w8.cell? ⟨w1.heap.size, 1, none⟩ = some (.slice x1 rs1.length c1) := (box_cells ha).1 1
  have ka2 : w8.cell? ⟨w1.heap.size, 2, none⟩ = some (.slice y1 ss1.length d1) := (box_cells ha).1 2
  have kb0 : w8.cell? ⟨w3.heap.size, 0, none⟩ = some (.int .i64 i2) := (box_cells hb).1 0
  have kb1 : w8.cell? ⟨w3.heap.size, 1, none⟩ = some (.slice x2 rs2.length c2) := (box_cells hb).1 1
  have kb2 : w8.cell? ⟨w3.heap.size, 2, none⟩ = some (.slice y2 ss2.length d2) := (box_cells hb).1 2
  have kx0 : w8.cell? ⟨w5.heap.size, 0, none⟩ = some (.int .i64 i1) := (box_cells hx).1 0
  have kx1 : w8.cell? ⟨w5.heap.size, 1, none⟩ = some (.slice x3 rs1.length c3) := (box_cells hx).1 1
  have kx2 : w8.cell? ⟨w5.heap.size, 2, none⟩ = some (.slice y3 ss3.length d3) := (box_cells hx).1 2
  have ky0 : w8.cell? ⟨w7.heap.size, 0, none⟩ = some (.int .i64 i2) := (box_cells hy).1 0
  have ky1 : w8.cell? ⟨w7.heap.size, 1, none⟩ = some (.slice x4 rs2.length c4) := (box_cells hy).1 1
  have ky2 : w8.cell? ⟨w7.heap.size, 2, none⟩ = some (.slice y4 ss4.length d4) := (box_cells hy).1 2
  go_wp2_with fail
  refine (vpcBegun_any w8).mono ?_
  rintro e w9 ⟨rfl, hbw9⟩
  clear ka0 ka1 ka2 kb0 kb1 kb2 kx0 kx1 kx2 ky0 ky1 ky2
  replace ha := heap_later hbw9 ha
  replace hb := heap_later hbw9 hb
  replace hx := heap_later hbw9 hx
  replace hy := heap_later hbw9 hy
  replace hN1 := hN1.later hbw9
  replace hN2 := hN2.later hbw9
  replace hN3 := hN3.later hbw9
  replace hN4 := hN4.later hbw9
  replace hB := hB.trans (hbw9.mono hB.size)
  have ka0 : w9.cell? ⟨w1.heap.size, 0, none⟩ = some (.int .i64 i1) := (box_cells ha).1 0
  have ka1 : w9.cell? ⟨w1.heap.size, 1, none⟩ = some (.slice x1 rs1.length c1) := (box_cells ha).1 1
  have ka2 : w9.cell? ⟨w1.heap.size, 2, none⟩ = some (.slice y1 ss1.length d1) := (box_cells ha).1 2
  have kb0 : w9.cell? ⟨w3.heap.size, 0, none⟩ = some (.int .i64 i2) := (box_cells hb).1 0
  have kb1 : w9.cell? ⟨w3.heap.size, 1, none⟩ = some (.slice x2 rs2.length c2) := (box_cells hb).1 1
  have kb2 : w9.cell? ⟨w3.heap.size, 2, none⟩ = some (.slice y2 ss2.length d2) := (box_cells hb).1 2
  have kx0 : w9.cell? ⟨w5.heap.size, 0, none⟩ = some (.int .i64 i1) := (box_cells hx).1 0
  have kx1 : w9.cell? ⟨w5.heap.size, 1, none⟩ = some (.slice x3 rs1.length c3) := (box_cells hx).1 1
  have kx2 : w9.cell? ⟨w5.heap.size, 2, none⟩ = some (.slice y3 ss3.length d3) := (box_cells hx).1 2
  have ky0 : w9.cell? ⟨w7.heap.size, 0, none⟩ = some (.int .i64 i2) := (box_cells hy).1 0
  have ky1 : w9.cell? ⟨w7.heap.size, 1, none⟩ = some (.slice x4 rs2.length c4) := (box_cells hy).1 1
  have ky2 : w9.cell? ⟨w7.heap.size, 2, none⟩ = some (.slice y4 ss4.length d4) := (box_cells hy).1 2
  go_wp2_with fail
  refine (sameVpcs_nv hN1 hN3 hs13).mono ?_
  rintro e w10 ⟨rfl, hbw10⟩
  clear ka0 ka1 ka2 kb0 kb1 kb2 kx0 kx1 kx2 ky0 ky1 ky2
  replace ha := heap_later hbw10 ha
  replace hb := heap_later hbw10 hb
  replace hx := heap_later hbw10 hx
  replace hy := heap_later hbw10 hy
  replace hN1 := hN1.later hbw10
  replace hN2 := hN2.later hbw10
  replace hN3 := hN3.later hbw10
  replace hN4 := hN4.later hbw10
  replace hB := hB.trans (hbw10.mono hB.size)
  have ka0 : w10.cell? ⟨w1.heap.size, 0, none⟩ = some (.int .i64 i1) := (box_cells ha).1 0
  have ka1 : w10.cell? ⟨w1.heap.size, 1, none⟩ = some (.slice x1 rs1.length c1) := (box_cells ha).1 1
  have ka2 : w10.cell? ⟨w1.heap.size, 2, none⟩ = some (.slice y1 ss1.length d1) := (box_cells ha).1 2
  have kb0 : w10.cell? ⟨w3.heap.size, 0, none⟩ = some (.int .i64 i2) := (box_cells hb).1 0
  have kb1 : w10.cell? ⟨w3.heap.size, 1, none⟩ = some (.slice x2 rs2.length c2) := (box_cells hb).1 1
  have kb2 : w10.cell? ⟨w3.heap.size, 2, none⟩ = some (.slice y2 ss2.length d2) := (box_cells hb).1 2
  have kx0 : w10.cell? ⟨w5.heap.size, 0, none⟩ = some (.int .i64 i1) := (box_cells hx).1 0
  have kx1 : w10.cell? ⟨w5.heap.size, 1, none⟩ = some (.slice x3 rs1.length c3) := (box_cells hx).1 1
  have kx2 : w10.cell? ⟨w5.heap.size, 2, none⟩ = some (.slice y3 ss3.length d3) := (box_cells hx).1 2
  have ky0 : w10.cell? ⟨w7.heap.size, 0, none⟩ = some (.int .i64 i2) := (box_cells hy).1 0
  have ky1 : w10.cell? ⟨w7.heap.size, 1, none⟩ = some (.slice x4 rs2.length c4) := (box_cells hy).1 1
  have ky2 : w10.cell? ⟨w7.heap.size, 2, none⟩ = some (.slice y4 ss4.length d4) := (box_cells hy).1 2
  go_wp2_with fail
  refine (sameVpcs_nv hN2 hN4 hs24).mono ?_
  rintro e w11 ⟨rfl, hbw11⟩
  clear ka0 ka1 ka2 kb0 kb1 kb2 kx0 kx1 kx2 ky0 ky1 ky2
  replace ha := heap_later hbw11 ha
  replace hb := heap_later hbw11 hb
  replace hx := heap_later hbw11 hx
  replace hy := heap_later hbw11 hy
  replace hN1 := hN1.later hbw11
  replace hN2 := hN2.later hbw11
  replace hN3 := hN3.later hbw11
  replace hN4 := hN4.later hbw11
  replace hB := hB.trans (hbw11.mono hB.size)
  go_wp2
  go_ret
  exact ⟨rfl, hB⟩
end Go.Proofs.YtpdhipjeobchfaaGreat
