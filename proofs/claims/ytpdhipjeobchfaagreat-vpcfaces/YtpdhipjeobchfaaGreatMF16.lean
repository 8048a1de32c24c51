/- What GrowVpc of the reference comes to. -/
import Derived.Test.YtpdhipjeobchfaaGreatMF15
import Derived.Deep.DeepAppendRoom
namespace Go.Proofs.YtpdhipjeobchfaaGreat
open Go.RowKit Go.Shelf

/-- The first k of xs, with e ahead of the first one that is greater, if there was one yet. -/
def InsG {α : Type} (e : α) (gt : Nat → Bool) (xs : List α) (k : Nat) (d : Bool) (qs : List α) : Prop :=
  (d = true → ∃ i, i < k ∧ (∀ j, j < i → gt j = false) ∧ gt i = true ∧ qs = xs.take i ++ [e] ++ (xs.take k).drop i) ∧ (d = false → (∀ j, j < k → gt j = false) ∧ qs = xs.take k)
theorem InsG.start {α : Type} (e : α) (gt : Nat → Bool) (xs : List α) : InsG e gt xs 0 false [] := ⟨fun h => (by cases h), fun _ => ⟨fun j hj => (by omega), rfl⟩⟩
theorem take_one {α : Type} {xs : List α} {k : Nat} {x : α} (hx : xs[k]? = some x) : xs.take (k + 1) = xs.take k ++ [x] := by
  rw [List.take_add_one, hx]; rfl
theorem InsG.skip {α : Type} {e x : α} {gt : Nat → Bool} {xs qs : List α} {k : Nat} (h : InsG e gt xs k false qs) (hx : xs[k]? = some x) (hg : gt k = false) : InsG e gt xs (k + 1) false (qs ++ [x]) := by
  obtain ⟨h1, h2⟩ := h.2 rfl
  refine ⟨fun h => (by cases h), fun _ => ⟨fun j hj => ?_, by rw [h2, take_one hx]⟩⟩
  by_cases hj2 : j < k
  · exact h1 j hj2
  · obtain rfl : j = k := by omega
    exact hg
theorem InsG.put {α : Type} {e x : α} {gt : Nat → Bool} {xs qs : List α} {k : Nat} (h : InsG e gt xs k false qs) (hx : xs[k]? = some x) (hg : gt k = true) : InsG e gt xs (k + 1) true (qs ++ [e] ++ [x]) := by
  obtain ⟨h1, h2⟩ := h.2 rfl
  refine ⟨fun _ => ⟨k, by omega, h1, hg, ?_⟩, fun h => (by cases h)⟩
  have hk : k < xs.length := (List.getElem?_eq_some_iff.1 hx).1
  rw [h2, take_one hx, List.drop_append, List.length_take, Nat.min_eq_left (by omega), Nat.sub_self, List.drop_eq_nil_of_le (by simp; omega)]
  simp
theorem InsG.more {α : Type} {e x : α} {gt : Nat → Bool} {xs qs : List α} {k : Nat} (h : InsG e gt xs k true qs) (hx : xs[k]? = some x) : InsG e gt xs (k + 1) true (qs ++ [x]) := by
  obtain ⟨i, h1, h2, h3, h4⟩ := h.1 rfl
  refine ⟨fun _ => ⟨i, by omega, h2, h3, ?_⟩, fun h => (by cases h)⟩
  have hk : k < xs.length := (List.getElem?_eq_some_iff.1 hx).1
  rw [h4, take_one hx, List.drop_append, List.length_take, Nat.min_eq_left (by omega), show i - k = 0 by omega]
  simp
theorem InsG.len {α : Type} {e : α} {gt : Nat → Bool} {xs qs : List α} {k : Nat} {d : Bool} (h : InsG e gt xs k d qs) (hk : k ≤ xs.length) : qs.length = k + d.toNat := by
  cases d with
  | true =>
    obtain ⟨i, h1, h2, h3, h4⟩ := h.1 rfl
    rw [h4]
    simp
    omega
  | false =>
    rw [(h.2 rfl).2]
    simp
    omega
/-- The whole list with e at its place. -/
def PutG {α : Type} (e : α) (gt : Nat → Bool) (xs ys : List α) : Prop := ∃ i, i ≤ xs.length ∧ (∀ j, j < i → gt j = false) ∧ (i < xs.length → gt i = true) ∧ ys = xs.take i ++ [e] ++ xs.drop i
theorem InsG.all {α : Type} {e : α} {gt : Nat → Bool} {xs qs : List α} (h : InsG e gt xs xs.length true qs) : PutG e gt xs qs := by
  obtain ⟨i, h1, h2, h3, h4⟩ := h.1 rfl
  exact ⟨i, by omega, h2, fun _ => h3, by rw [h4, List.take_length]⟩
theorem InsG.last {α : Type} {e : α} {gt : Nat → Bool} {xs qs : List α} (h : InsG e gt xs xs.length false qs) : PutG e gt xs (qs ++ [e]) := by
  obtain ⟨h1, h2⟩ := h.2 rfl
  exact ⟨xs.length, by omega, h1, fun h => by omega, by rw [h2]; simp⟩
theorem PutG.one {α : Type} {e : α} {gt : Nat → Bool} {xs ys zs : List α} (h : PutG e gt xs ys) (g : PutG e gt xs zs) : ys = zs := by
  obtain ⟨i, h1, h2, h3, h4⟩ := h
  obtain ⟨j, g1, g2, g3, g4⟩ := g
  obtain rfl : i = j := by
    rcases Nat.lt_trichotomy i j with hij | hij | hij
    · have := g2 i hij; rw [h3 (by omega)] at this; cases this
    · exact hij
    · have := h2 j hij; rw [g3 (by omega)] at this; cases this
  rw [h4, g4]
theorem putRg_is {e : Rg} {qs rs : List Rg} : PutRg e qs rs ↔ PutG e (fun j => decide (e.a < (rgAt qs j).a)) qs rs := by
  unfold PutRg PutG
  simp
theorem rgAt_some {rs : List Rg} {k : Nat} (h : k < rs.length) : rs[k]? = some (rgAt rs k) := by
  unfold rgAt
  rw [List.getD_eq_getElem?_getD, List.getElem?_eq_getElem h]
  rfl
/-- The boxes of GrowVpc, from the call of OwnVpc on. -/
structure TGo (w5 W : World) (vid : Int) (vX vS : Value) : Prop where
  ho : W.heap[w5.heap.size]? = some (vpB vid vX vS)
  below : Below w5.heap.size w5 W
theorem TGo.put {w5 W : World} {vid : Int} {vX vS u : Value} (h : TGo w5 W vid vX vS) : TGo w5 (W.setCell ⟨w5.heap.size, 1, none⟩ u) vid u vS := by
  refine ⟨?_, h.below.setCell (p := ⟨w5.heap.size, 1, none⟩) (Nat.le_refl _) _⟩
  have := heap_setCell_same W w5.heap.size 1 _ 25 u h.ho
  simpa using this
theorem TGo.later {w5 W W' : World} {vid : Int} {vX vS : Value} (h : TGo w5 W vid vX vS) (hb : Below W.heap.size W W') : TGo w5 W' vid vX vS := ⟨heap_later hb h.ho, h.below.trans (hb.mono h.below.size)⟩
/-- Behind an append to the row that is being made. -/
theorem TGo.grown {w5 W W' : World} {vid : Int} {vX vS : Value} {qs : List Rg} (h : TGo w5 W vid vX vS) (hq : OwnR W (w5.heap.size + 1) vX qs) (hg : W.grownBy W' vX.ownBlock) : TGo w5 W' vid vX vS :=
  ⟨grown_keep hg (hq.ne h.ho (by decide)) h.ho, below_grownr h.below hg (fun q e => by have := (hq.lt q e).1; omega)⟩
theorem rgs_cells (W : World) (r : Rg) : ∀ j u, (flatR [r])[j]? = some u → (W.alloc (.cells #[.int .i64 r.a, .int .i64 r.l, .int .i64 r.p] 29)).cell? (Addr.add ⟨W.heap.size, 0, none⟩ j) = some u := fun j u hj => by
  have hn := heap_new (W := W) (.cells #[.int .i64 r.a, .int .i64 r.l, .int .i64 r.p] 29) rfl
  rw [addr_add, Nat.zero_add]
  exact ((box_cells hn).1 j).trans (by rw [List.getElem?_toArray]; exact hj)

set_option maxRecDepth 100000 in
set_option maxHeartbeats 6400000 in
theorem growVpc_any (vid : Int) (rx : Option Addr) (rn rc : Nat) (rs : List Rg) (sx : Option Addr) (sn sc : Nat) (ss : List Sb) (r : Rg) (w : World) (hv : Vp w rx rn rc rs sx sn sc ss) (hrn : rn ≤ 9223372036854775807) (hsn : sn ≤ 9223372036854775807) :
    Calls Tryz.prog 8 #[.agg #[.int .i64 vid, .slice rx rn rc, .slice sx sn sc], .agg #[.int .i64 r.a, .int .i64 r.l, .int .i64 r.p]] w (GrowPost vid rn rs sn ss r w) := by
  have hrl : Hid (rs.length = rn) := hv.ranges.len
  go_enter Tryz.func8, Tryz.ntmps8
  go_upto_region 1 with fail
  obtain ⟨w0, hw0⟩ : ∃ w0, w0 = ((w.alloc (vpB vid (.slice rx rn rc) (.slice sx sn sc))).alloc (.cells #[.int .i64 r.a, .int .i64 r.l, .int .i64 r.p] 29)).alloc (vpB 0 (.slice none 0 0) (.slice none 0 0)) := ⟨_, rfl⟩
  rw [← hw0]
  have hT0 : TG w w0 vid (.slice rx rn rc) (.slice sx sn sc) r := by
    rw [hw0]
    exact ⟨heap_old _ (heap_old _ (heap_new _ rfl)), heap_old _ (heap_new _ (by simp)), heap_new _ (by simp), (bl2 w _ _).alloc (by simp; omega) _⟩
  clear hw0
  have b0 : w0.cell? ⟨w.heap.size, 0, none⟩ = some (.int .i64 vid) := (box_cells hT0.hb).1 0
  have b1 : w0.cell? ⟨w.heap.size, 1, none⟩ = some (.slice rx rn rc) := (box_cells hT0.hb).1 1
  have b2 : w0.cell? ⟨w.heap.size, 2, none⟩ = some (.slice sx sn sc) := (box_cells hT0.hb).1 2
  have p0 : w0.cell? ⟨w.heap.size + 1, 0, none⟩ = some (.int .i64 r.a) := (box_cells hT0.hp).1 0
  have p1 : w0.cell? ⟨w.heap.size + 1, 1, none⟩ = some (.int .i64 r.l) := (box_cells hT0.hp).1 1
  have p2 : w0.cell? ⟨w.heap.size + 1, 2, none⟩ = some (.int .i64 r.p) := (box_cells hT0.hp).1 2
  have s0 : w0.cell? ⟨w.heap.size + 2, 0, none⟩ = some (.int .i64 0) := (box_cells hT0.hs).1 0
  have zs0 : w0.frozen? ⟨w.heap.size + 2, 0, none⟩ = false := (box_cells hT0.hs).2 0
  have s1 : w0.cell? ⟨w.heap.size + 2, 1, none⟩ = some (.slice none 0 0) := (box_cells hT0.hs).1 1
  have zs1 : w0.frozen? ⟨w.heap.size + 2, 1, none⟩ = false := (box_cells hT0.hs).2 1
  have s2 : w0.cell? ⟨w.heap.size + 2, 2, none⟩ = some (.slice none 0 0) := (box_cells hT0.hs).1 2
  have zs2 : w0.frozen? ⟨w.heap.size + 2, 2, none⟩ = false := (box_cells hT0.hs).2 2
  by_cases hc0 : chkV vid rn rs sn ss = 0
  · have hck := checkVpc_is vid rx rn rc rs sx sn sc ss 0 hc0 w0 (hv.later hT0.below) hrn hsn
    obtain ⟨f1, f2, f3, f4⟩ := chkV_few hc0
    have hE1 : Hid (growE vid rn rs sn ss r = if rgB r = false then 1 else if anyAt rn (rmB rs r.a r.l) = true then 6 else if rn = 4 then 2 else 0) := if_neg (c := chkV vid rn rs sn ss ≠ 0) (by simp [hc0])
    clear hc0
    go_wp2_with fail
    refine (hck).mono ?_
    rintro e w1 ⟨rfl, hbw1⟩
    have hT1 := hT0.later hbw1
    clear b0 b1 b2 p0 p1 p2 s0 zs0 s1 zs1 s2 zs2
    have b0 : w1.cell? ⟨w.heap.size, 0, none⟩ = some (.int .i64 vid) := (box_cells hT1.hb).1 0
    have b1 : w1.cell? ⟨w.heap.size, 1, none⟩ = some (.slice rx rn rc) := (box_cells hT1.hb).1 1
    have b2 : w1.cell? ⟨w.heap.size, 2, none⟩ = some (.slice sx sn sc) := (box_cells hT1.hb).1 2
    have p0 : w1.cell? ⟨w.heap.size + 1, 0, none⟩ = some (.int .i64 r.a) := (box_cells hT1.hp).1 0
    have p1 : w1.cell? ⟨w.heap.size + 1, 1, none⟩ = some (.int .i64 r.l) := (box_cells hT1.hp).1 1
    have p2 : w1.cell? ⟨w.heap.size + 1, 2, none⟩ = some (.int .i64 r.p) := (box_cells hT1.hp).1 2
    have s0 : w1.cell? ⟨w.heap.size + 2, 0, none⟩ = some (.int .i64 0) := (box_cells hT1.hs).1 0
    have zs0 : w1.frozen? ⟨w.heap.size + 2, 0, none⟩ = false := (box_cells hT1.hs).2 0
    have s1 : w1.cell? ⟨w.heap.size + 2, 1, none⟩ = some (.slice none 0 0) := (box_cells hT1.hs).1 1
    have zs1 : w1.frozen? ⟨w.heap.size + 2, 1, none⟩ = false := (box_cells hT1.hs).2 1
    have s2 : w1.cell? ⟨w.heap.size + 2, 2, none⟩ = some (.slice none 0 0) := (box_cells hT1.hs).1 2
    have zs2 : w1.frozen? ⟨w.heap.size + 2, 2, none⟩ = false := (box_cells hT1.hs).2 2
    cases hrt : rt r.a r.l with
    | false =>
      have hne : Hid (growE vid rn rs sn ss r = 1 ∧ (1 : Int) ≠ 0) := ⟨hE1.out.trans (if_pos (by unfold rgB; rw [hrt]; rfl)), by decide⟩
      have hri := rightR_is r.a r.l false hrt
      clear hrt
      go_wp2_with fail
      refine (hri _).mono ?_
      rintro e w2 ⟨rfl, hbw2⟩
      have hT2 := hT1.later hbw2
      clear b0 b1 b2 p0 p1 p2 s0 zs0 s1 zs1 s2 zs2
      have b0 : w2.cell? ⟨w.heap.size, 0, none⟩ = some (.int .i64 vid) := (box_cells hT2.hb).1 0
      have b1 : w2.cell? ⟨w.heap.size, 1, none⟩ = some (.slice rx rn rc) := (box_cells hT2.hb).1 1
      have b2 : w2.cell? ⟨w.heap.size, 2, none⟩ = some (.slice sx sn sc) := (box_cells hT2.hb).1 2
      have p0 : w2.cell? ⟨w.heap.size + 1, 0, none⟩ = some (.int .i64 r.a) := (box_cells hT2.hp).1 0
      have p1 : w2.cell? ⟨w.heap.size + 1, 1, none⟩ = some (.int .i64 r.l) := (box_cells hT2.hp).1 1
      have p2 : w2.cell? ⟨w.heap.size + 1, 2, none⟩ = some (.int .i64 r.p) := (box_cells hT2.hp).1 2
      have s0 : w2.cell? ⟨w.heap.size + 2, 0, none⟩ = some (.int .i64 0) := (box_cells hT2.hs).1 0
      have zs0 : w2.frozen? ⟨w.heap.size + 2, 0, none⟩ = false := (box_cells hT2.hs).2 0
      have s1 : w2.cell? ⟨w.heap.size + 2, 1, none⟩ = some (.slice none 0 0) := (box_cells hT2.hs).1 1
      have zs1 : w2.frozen? ⟨w.heap.size + 2, 1, none⟩ = false := (box_cells hT2.hs).2 1
      have s2 : w2.cell? ⟨w.heap.size + 2, 2, none⟩ = some (.slice none 0 0) := (box_cells hT2.hs).1 2
      have zs2 : w2.frozen? ⟨w.heap.size + 2, 2, none⟩ = false := (box_cells hT2.hs).2 2
      go_wp2
      refine bodyPost_ret (v := .tuple #[.agg #[.int .i64 0, .slice none 0 0, .slice none 0 0], .int .i64 1]) (by simp [results, Tryz.results8, go_sem, s0, s1, s2]) rfl ?_
      exact GrowPost.err hne.out (((hT2.below.setCell (p := ⟨w.heap.size + 2, 0, none⟩) (Nat.le_add_right _ _) _).setCell (p := ⟨w.heap.size + 2, 1, none⟩) (Nat.le_add_right _ _) _).setCell (p := ⟨w.heap.size + 2, 2, none⟩) (Nat.le_add_right _ _) _)
    | true =>
      have hri := rightR_is r.a r.l true hrt
      go_wp2_with fail
      refine (hri _).mono ?_
      rintro e w2 ⟨rfl, hbw2⟩
      have hT2 := hT1.later hbw2
      clear b0 b1 b2 p0 p1 p2 s0 zs0 s1 zs1 s2 zs2
      have b0 : w2.cell? ⟨w.heap.size, 0, none⟩ = some (.int .i64 vid) := (box_cells hT2.hb).1 0
      have b1 : w2.cell? ⟨w.heap.size, 1, none⟩ = some (.slice rx rn rc) := (box_cells hT2.hb).1 1
      have b2 : w2.cell? ⟨w.heap.size, 2, none⟩ = some (.slice sx sn sc) := (box_cells hT2.hb).1 2
      have p0 : w2.cell? ⟨w.heap.size + 1, 0, none⟩ = some (.int .i64 r.a) := (box_cells hT2.hp).1 0
      have p1 : w2.cell? ⟨w.heap.size + 1, 1, none⟩ = some (.int .i64 r.l) := (box_cells hT2.hp).1 1
      have p2 : w2.cell? ⟨w.heap.size + 1, 2, none⟩ = some (.int .i64 r.p) := (box_cells hT2.hp).1 2
      have s0 : w2.cell? ⟨w.heap.size + 2, 0, none⟩ = some (.int .i64 0) := (box_cells hT2.hs).1 0
      have zs0 : w2.frozen? ⟨w.heap.size + 2, 0, none⟩ = false := (box_cells hT2.hs).2 0
      have s1 : w2.cell? ⟨w.heap.size + 2, 1, none⟩ = some (.slice none 0 0) := (box_cells hT2.hs).1 1
      have zs1 : w2.frozen? ⟨w.heap.size + 2, 1, none⟩ = false := (box_cells hT2.hs).2 1
      have s2 : w2.cell? ⟨w.heap.size + 2, 2, none⟩ = some (.slice none 0 0) := (box_cells hT2.hs).1 2
      have zs2 : w2.frozen? ⟨w.heap.size + 2, 2, none⟩ = false := (box_cells hT2.hs).2 2
      clear hri
      cases hwp : wth r.p 1 65536 with
      | false =>
        have hne : Hid (growE vid rn rs sn ss r = 1 ∧ (1 : Int) ≠ 0) := ⟨hE1.out.trans (if_pos (by unfold rgB; rw [hrt, hwp]; rfl)), by decide⟩
        have hwi := within_at r.p 1 65536 false hwp w2
        clear hwp hrt
        go_wp2_with fail
        refine hwi.mono ?_
        rintro e w3 ⟨rfl, rfl⟩
        go_wp2
        refine bodyPost_ret (v := .tuple #[.agg #[.int .i64 0, .slice none 0 0, .slice none 0 0], .int .i64 1]) (by simp [results, Tryz.results8, go_sem, s0, s1, s2]) rfl ?_
        exact GrowPost.err hne.out (((hT2.below.setCell (p := ⟨w.heap.size + 2, 0, none⟩) (Nat.le_add_right _ _) _).setCell (p := ⟨w.heap.size + 2, 1, none⟩) (Nat.le_add_right _ _) _).setCell (p := ⟨w.heap.size + 2, 2, none⟩) (Nat.le_add_right _ _) _)
      | true =>
        have hE2 : Hid (growE vid rn rs sn ss r = if anyAt rn (rmB rs r.a r.l) = true then 6 else if rn = 4 then 2 else 0) := hE1.out.trans (if_neg (by unfold rgB; rw [hrt, hwp]; decide))
        have hwi := within_at r.p 1 65536 true hwp w2
        clear hwp hrt hE1
        go_wp2_with fail
        refine hwi.mono ?_
        rintro e w3 ⟨rfl, rfl⟩
        clear hwi
        have hown := ownVpc_any vid rx rn rc rs sx sn sc ss w3 (hv.later hT2.below) (by omega) (by omega) (fun i hi => by have := f3 i hi; omega) (fun i hi j hj => by have := f4 i hi j hj; omega)
        go_wp2_with fail
        refine hown.mono ?_
        rintro e w5 ⟨vR, vS, ts, rfl, hOR, hss, hOS, hb5⟩
        clear hown f2 f3 f4
        have hT5 := hT2.later hb5
        obtain ⟨xr, cr, rfl, -⟩ := hOR.rs
        obtain ⟨xt, ct, rfl, -⟩ := hOS.subs
        have hsz3 : w.heap.size + 2 < w3.heap.size := (Array.getElem?_eq_some_iff.1 hT2.hs).1
        have hsz5 : w.heap.size + 2 < w5.heap.size := Nat.lt_of_lt_of_le hsz3 hb5.size
        clear b0 b1 b2 p0 p1 p2 s0 zs0 s1 zs1 s2 zs2
        go_upto_region 7 with fail
        obtain ⟨w6, hw6⟩ : ∃ w6, w6 = w5.alloc (vpB vid (.slice xr rs.length cr) (.slice xt ts.length ct)) := ⟨_, rfl⟩
        rw [← hw6]
        have hb56 : Below w5.heap.size w5 w6 := by rw [hw6]; exact bl1 _ _
        have hn6 : w6.heap[w5.heap.size]? = some (vpB vid (.slice xr rs.length cr) (.slice xt ts.length ct)) := by rw [hw6]; exact heap_new _ rfl
        clear hw6
        have m1 : w6.cell? ⟨w5.heap.size, 1, none⟩ = some (.slice xr rs.length cr) := (box_cells hn6).1 1
        have z1 := (box_cells hn6).2 1
        go_upto_region 8 with fail
        obtain ⟨w7, hw7⟩ : ∃ w7, w7 = w6.setCell ⟨w5.heap.size, 1, none⟩ (.slice none 0 0) := ⟨_, rfl⟩
        rw [← hw7]
        have hTo7 : TGo w5 w7 vid (.slice none 0 0) (.slice xt ts.length ct) := by
          rw [hw7]
          refine ⟨?_, hb56.setCell (p := ⟨w5.heap.size, 1, none⟩) (Nat.le_refl _) _⟩
          have := heap_setCell_same w6 w5.heap.size 1 _ 25 (.slice none 0 0) hn6
          simpa using this
        have hs7 : w5.heap.size + 1 ≤ w7.heap.size := (Array.getElem?_eq_some_iff.1 hTo7.ho).1
        clear hw7 m1 z1 hn6 hb56
        go_wp2
        go_loopw [8, 9] (fun d i wr => ∃ (k : Nat) (t : Bool) (vX : Value) (qs : List Rg), d = .bool t ∧ i = .int .i64 k ∧ k ≤ rn ∧ TGo w5 wr vid vX (.slice xt ts.length ct) ∧ OwnR wr (w5.heap.size + 1) vX qs ∧ Hid (InsG r (fun j => decide (r.a < (rgAt rs j).a)) rs k t qs) ∧ Hid (∀ j, j < k → rmB rs r.a r.l j = false)) (fun _ i _ => rn - (intOf i).toNat)
        case atStart => exact ⟨0, false, _, [], rfl, rfl, by omega, hTo7, ⟨rfl, .inl ⟨rfl, rfl⟩⟩, InsG.start _ _ _, fun j hj => by omega⟩
        case round =>
          clear hTo7 hs7 w7
          obtain ⟨k, t, vX, qs, rfl, rfl, hkn, hTo, hq, hins, hno⟩ := hrel
          have hTr := hT5.later hTo.below
          have hsr : w5.heap.size + 1 ≤ wr.heap.size := (Array.getElem?_eq_some_iff.1 hTo.ho).1
          have hqlen : Hid (qs.length ≤ 5) := by
            unfold Hid
            have h1 := hins.out.len (by rw [hrl.out]; exact hkn)
            have h2 : t.toNat ≤ 1 := by cases t <;> decide
            omega
          have b0 : wr.cell? ⟨w.heap.size, 0, none⟩ = some (.int .i64 vid) := (box_cells hTr.hb).1 0
          have b1 : wr.cell? ⟨w.heap.size, 1, none⟩ = some (.slice rx rn rc) := (box_cells hTr.hb).1 1
          have b2 : wr.cell? ⟨w.heap.size, 2, none⟩ = some (.slice sx sn sc) := (box_cells hTr.hb).1 2
          have p0 : wr.cell? ⟨w.heap.size + 1, 0, none⟩ = some (.int .i64 r.a) := (box_cells hTr.hp).1 0
          have p1 : wr.cell? ⟨w.heap.size + 1, 1, none⟩ = some (.int .i64 r.l) := (box_cells hTr.hp).1 1
          have p2 : wr.cell? ⟨w.heap.size + 1, 2, none⟩ = some (.int .i64 r.p) := (box_cells hTr.hp).1 2
          have s0 : wr.cell? ⟨w.heap.size + 2, 0, none⟩ = some (.int .i64 0) := (box_cells hTr.hs).1 0
          have zs0 : wr.frozen? ⟨w.heap.size + 2, 0, none⟩ = false := (box_cells hTr.hs).2 0
          have s1 : wr.cell? ⟨w.heap.size + 2, 1, none⟩ = some (.slice none 0 0) := (box_cells hTr.hs).1 1
          have zs1 : wr.frozen? ⟨w.heap.size + 2, 1, none⟩ = false := (box_cells hTr.hs).2 1
          have s2 : wr.cell? ⟨w.heap.size + 2, 2, none⟩ = some (.slice none 0 0) := (box_cells hTr.hs).1 2
          have zs2 : wr.frozen? ⟨w.heap.size + 2, 2, none⟩ = false := (box_cells hTr.hs).2 2
          by_cases hlt : k < rn
          · have hkw := hv.later hTr.below
            have hlth : Hid (k < rn) := hlt
            have hget : Hid (rs[k]? = some (rgAt rs k)) := rgAt_some (by rw [hrl.out]; exact hlt)
            obtain ⟨b, o, rfl, c0, c1, c2⟩ := hkw.ranges.cells k hlt
            have hk0 : (0 : Int) ≤ k := by omega
            have hkn2 : (k : Int) < rn := by omega
            clear hlt
            have a1 := Ws.here b1
            have a3 := Ws.here p0
            have a4 := Ws.here p1
            have a5 := Ws.here c0
            have a6 := Ws.here c1
            have hkeep : Hid (RS wr (some ⟨b, o, none⟩) rn rs) := hkw.ranges
            cases hmt : rmB rs r.a r.l k with
            | true =>
              have hany : anyAt rn (rmB rs r.a r.l) = true := List.any_eq_true.2 ⟨k, List.mem_range.2 hlth.out, hmt⟩
              have hne : Hid (growE vid rn rs sn ss r = 6 ∧ (6 : Int) ≠ 0) := ⟨hE2.out.trans (if_pos hany), by decide⟩
              have hmt' : mts (rgAt rs k).a (rgAt rs k).l r.a r.l = true := hmt
              clear hmt hany
              go_upto_region 12 with fail
              refine wp_region_ws wr.heap.size (by kernel_rfl) (by kernel_rfl) ?_
              repeat (go_big_quiet_step (first | (go_at_call 38; exact Calls.in_ws (Nat.le_refl _) (meetR_is _ _ _ _ _ hmt' _))))
              refine wpQuiet_nil ?_
              rintro _ ⟨u, rfl⟩
              have hTu := hTr.later u.property
              generalize u.val = wu at hTu ⊢
              clear u a1 a3 a4 a5 a6 c0 c1 c2
              clear b0 b1 b2 p0 p1 p2 s0 zs0 s1 zs1 s2 zs2
              have b0 : wu.cell? ⟨w.heap.size, 0, none⟩ = some (.int .i64 vid) := (box_cells hTu.hb).1 0
              have b1 : wu.cell? ⟨w.heap.size, 1, none⟩ = some (.slice (some ⟨b, o, none⟩) rn rc) := (box_cells hTu.hb).1 1
              have b2 : wu.cell? ⟨w.heap.size, 2, none⟩ = some (.slice sx sn sc) := (box_cells hTu.hb).1 2
              have p0 : wu.cell? ⟨w.heap.size + 1, 0, none⟩ = some (.int .i64 r.a) := (box_cells hTu.hp).1 0
              have p1 : wu.cell? ⟨w.heap.size + 1, 1, none⟩ = some (.int .i64 r.l) := (box_cells hTu.hp).1 1
              have p2 : wu.cell? ⟨w.heap.size + 1, 2, none⟩ = some (.int .i64 r.p) := (box_cells hTu.hp).1 2
              have s0 : wu.cell? ⟨w.heap.size + 2, 0, none⟩ = some (.int .i64 0) := (box_cells hTu.hs).1 0
              have zs0 : wu.frozen? ⟨w.heap.size + 2, 0, none⟩ = false := (box_cells hTu.hs).2 0
              have s1 : wu.cell? ⟨w.heap.size + 2, 1, none⟩ = some (.slice none 0 0) := (box_cells hTu.hs).1 1
              have zs1 : wu.frozen? ⟨w.heap.size + 2, 1, none⟩ = false := (box_cells hTu.hs).2 1
              have s2 : wu.cell? ⟨w.heap.size + 2, 2, none⟩ = some (.slice none 0 0) := (box_cells hTu.hs).1 2
              have zs2 : wu.frozen? ⟨w.heap.size + 2, 2, none⟩ = false := (box_cells hTu.hs).2 2
              go_wp2
              refine bodyPost_ret (v := .tuple #[.agg #[.int .i64 0, .slice none 0 0, .slice none 0 0], .int .i64 6]) (by simp [results, Tryz.results8, go_sem, s0, s1, s2]) rfl ?_
              exact GrowPost.err hne.out (((hTu.below.setCell (p := ⟨w.heap.size + 2, 0, none⟩) (Nat.le_add_right _ _) _).setCell (p := ⟨w.heap.size + 2, 1, none⟩) (Nat.le_add_right _ _) _).setCell (p := ⟨w.heap.size + 2, 2, none⟩) (Nat.le_add_right _ _) _)
            | false =>
              have hno' : Hid (∀ j, j < k + 1 → rmB rs r.a r.l j = false) := fun j hj => by
                by_cases hj2 : j < k
                · exact hno.out j hj2
                · obtain rfl : j = k := by omega
                  exact hmt
              have hmt' : mts (rgAt rs k).a (rgAt rs k).l r.a r.l = false := hmt
              clear hmt hno
              go_upto_region 12 with fail
              refine wp_region_ws wr.heap.size (by kernel_rfl) (by kernel_rfl) ?_
              repeat (go_big_quiet_step (first | (go_at_call 38; exact Calls.in_ws (Nat.le_refl _) (meetR_is _ _ _ _ _ hmt' _))))
              refine wpQuiet_nil ?_
              rintro _ ⟨u, rfl⟩
              have hbu := u.property
              generalize u.val = wu at hbu ⊢
              clear u a1 a3 a4 a5 a6 c0 c1 c2 hmt'
              have hTu := hTr.later hbu
              have hTou : TGo w5 wu vid vX (.slice xt ts.length ct) := ⟨heap_later hbu hTo.ho, hTo.below.trans (hbu.mono hTo.below.size)⟩
              have hqu := OwnR.later hq hbu
              have hku := hkeep.out.later hbu
              clear hbu hTo hq hTr hsr hkeep
              have hsr : w5.heap.size + 1 ≤ wu.heap.size := (Array.getElem?_eq_some_iff.1 hTou.ho).1
              clear b0 b1 b2 p0 p1 p2 s0 zs0 s1 zs1 s2 zs2
              have b0 : wu.cell? ⟨w.heap.size, 0, none⟩ = some (.int .i64 vid) := (box_cells hTu.hb).1 0
              have b1 : wu.cell? ⟨w.heap.size, 1, none⟩ = some (.slice (some ⟨b, o, none⟩) rn rc) := (box_cells hTu.hb).1 1
              have b2 : wu.cell? ⟨w.heap.size, 2, none⟩ = some (.slice sx sn sc) := (box_cells hTu.hb).1 2
              have p0 : wu.cell? ⟨w.heap.size + 1, 0, none⟩ = some (.int .i64 r.a) := (box_cells hTu.hp).1 0
              have p1 : wu.cell? ⟨w.heap.size + 1, 1, none⟩ = some (.int .i64 r.l) := (box_cells hTu.hp).1 1
              have p2 : wu.cell? ⟨w.heap.size + 1, 2, none⟩ = some (.int .i64 r.p) := (box_cells hTu.hp).1 2
              have s0 : wu.cell? ⟨w.heap.size + 2, 0, none⟩ = some (.int .i64 0) := (box_cells hTu.hs).1 0
              have zs0 : wu.frozen? ⟨w.heap.size + 2, 0, none⟩ = false := (box_cells hTu.hs).2 0
              have s1 : wu.cell? ⟨w.heap.size + 2, 1, none⟩ = some (.slice none 0 0) := (box_cells hTu.hs).1 1
              have zs1 : wu.frozen? ⟨w.heap.size + 2, 1, none⟩ = false := (box_cells hTu.hs).2 1
              have s2 : wu.cell? ⟨w.heap.size + 2, 2, none⟩ = some (.slice none 0 0) := (box_cells hTu.hs).1 2
              have zs2 : wu.frozen? ⟨w.heap.size + 2, 2, none⟩ = false := (box_cells hTu.hs).2 2
              obtain ⟨b', o', hbo, c0, c1, c2⟩ := hku.cells k hlth.out
              simp only [Option.some.injEq, Addr.mk.injEq, and_true] at hbo
              obtain ⟨rfl, rfl⟩ := hbo
              have a1 := Ws.here b1
              have a3 := Ws.here p0
              have a5 := Ws.here c0
              go_upto_region 14 with fail
              go_cut [61] (fun s wc => s = .bool (!t && decide (r.a < (rgAt rs k).a)) ∧ Below wu.heap.size wu wc)
              case first =>
                by_cases hgt : r.a < (rgAt rs k).a
                all_goals cases t
                all_goals refine wp_region_ws wu.heap.size (by kernel_rfl) (by kernel_rfl) ?_
                all_goals repeat (go_big_quiet_step (fail))
                all_goals refine wpQuiet_nil ?_
                all_goals rintro _ ⟨u, rfl⟩
                all_goals have hbu := u.property
                all_goals generalize u.val = wz at hbu ⊢
                all_goals clear u
                · go_wp2
                  go_meet
                  case rel => exact ⟨by simp [hgt], hbu⟩
                · go_wp2
                  go_meet
                  case rel => exact ⟨by simp, hbu⟩
                · go_wp2
                  go_meet
                  case rel => exact ⟨by simp [hgt], hbu⟩
                · go_wp2
                  go_meet
                  case rel => exact ⟨by simp, hbu⟩
              case rest =>
              obtain ⟨rfl, hbu⟩ := hcut
              obtain ⟨wz, rfl⟩ : ∃ wz, wz = wc := ⟨_, rfl⟩
              clear a1 a3 a5 c0 c1 c2
              have hTz := hTu.later hbu
              have hToz := hTou.later hbu
              have hqz := OwnR.later hqu hbu
              have hsz : w5.heap.size + 1 ≤ wz.heap.size := (Array.getElem?_eq_some_iff.1 hToz.ho).1
              have hq6 : Hid (qs.length ≤ 6) := by unfold Hid; have := hqlen.out; omega
              clear b0 b1 b2 p0 p1 p2 s0 zs0 s1 zs1 s2 zs2
              have b0 : wz.cell? ⟨w.heap.size, 0, none⟩ = some (.int .i64 vid) := (box_cells hTz.hb).1 0
              have b1 : wz.cell? ⟨w.heap.size, 1, none⟩ = some (.slice (some ⟨b, o, none⟩) rn rc) := (box_cells hTz.hb).1 1
              have b2 : wz.cell? ⟨w.heap.size, 2, none⟩ = some (.slice sx sn sc) := (box_cells hTz.hb).1 2
              have p0 : wz.cell? ⟨w.heap.size + 1, 0, none⟩ = some (.int .i64 r.a) := (box_cells hTz.hp).1 0
              have p1 : wz.cell? ⟨w.heap.size + 1, 1, none⟩ = some (.int .i64 r.l) := (box_cells hTz.hp).1 1
              have p2 : wz.cell? ⟨w.heap.size + 1, 2, none⟩ = some (.int .i64 r.p) := (box_cells hTz.hp).1 2
              have s0 : wz.cell? ⟨w.heap.size + 2, 0, none⟩ = some (.int .i64 0) := (box_cells hTz.hs).1 0
              have zs0 : wz.frozen? ⟨w.heap.size + 2, 0, none⟩ = false := (box_cells hTz.hs).2 0
              have s1 : wz.cell? ⟨w.heap.size + 2, 1, none⟩ = some (.slice none 0 0) := (box_cells hTz.hs).1 1
              have zs1 : wz.frozen? ⟨w.heap.size + 2, 1, none⟩ = false := (box_cells hTz.hs).2 1
              have s2 : wz.cell? ⟨w.heap.size + 2, 2, none⟩ = some (.slice none 0 0) := (box_cells hTz.hs).1 2
              have zs2 : wz.frozen? ⟨w.heap.size + 2, 2, none⟩ = false := (box_cells hTz.hs).2 2
              obtain ⟨cc, hcc⟩ : ∃ cc, Hid ((!t && decide (r.a < (rgAt rs k).a)) = cc) := ⟨_, rfl⟩
              rw [hcc.out]
              go_upto_if 61 with fail
              go_cut [8] (fun d wc => ∃ (t' : Bool) (vX' : Value) (qs' : List Rg), d = .bool t' ∧ TGo w5 wc vid vX' (.slice xt ts.length ct) ∧ OwnR wc (w5.heap.size + 1) vX' qs' ∧ Hid (qs'.length ≤ 6) ∧ Hid (InsG r (fun j => decide (r.a < (rgAt rs j).a)) rs (k + 1) t' (qs' ++ [rgAt rs k])))
              case first =>
                cases cc with
                | true =>
                  have hi2 : Hid (InsG r (fun j => decide (r.a < (rgAt rs j).a)) rs (k + 1) true (qs ++ [r] ++ [rgAt rs k])) := by
                    have h := hcc.out
                    simp only [Bool.and_eq_true, Bool.not_eq_true', decide_eq_true_eq] at h
                    have h2 := hins.out
                    rw [h.1] at h2
                    exact h2.put hget.out (by simpa using h.2)
                  have o1 : wz.cell? ⟨w5.heap.size, 1, none⟩ = some vX := (box_cells hToz.ho).1 1
                  go_wp2_with (at_builtin; refine Hid.out ?_)
                  unfold Hid
                  refine wpList_append_R rfl _ _ rfl (w5.heap.size + 1) vX qs rfl (OwnR.later hqz (bl1 wz _)) ⟨wz.heap.size, 0, none⟩ 1 1 [r] rfl rfl (rgs_cells wz r) (by have := hqlen.out; omega) (by simp; omega) ?_
                  intro v9 w9 hR9 hg9
                  have hTo9 := (hToz.later (bl1 wz _)).grown (OwnR.later hqz (bl1 wz _)) hg9
                  have hl9 : Hid ((qs ++ [r]).length = qs.length + 1) := by unfold Hid; simp
                  obtain ⟨x9, c9, hv9, -⟩ := hR9.rs
                  rw [hl9.out] at hv9
                  subst hv9
                  have o1' : w9.cell? ⟨w5.heap.size, 1, none⟩ = some vX := (box_cells hTo9.ho).1 1
                  have oz1 := (box_cells hTo9.ho).2 1
                  clear o1 hg9
                  go_wp2
                  go_meet
                  case rel => exact ⟨true, _, qs ++ [r], rfl, hTo9.put, hR9.put (by omega), by unfold Hid; rw [hl9.out]; have := hqlen.out; omega, hi2⟩
                | false =>
                  have hi2 : Hid (InsG r (fun j => decide (r.a < (rgAt rs j).a)) rs (k + 1) t (qs ++ [rgAt rs k])) := by
                    have h := hcc.out
                    have h2 := hins.out
                    cases t with
                    | true => exact h2.more hget.out
                    | false => exact h2.skip hget.out (by simpa using h)
                  go_wp2
                  go_meet
                  case rel => exact ⟨t, vX, qs, rfl, hToz, hqz, hq6, hi2⟩
              case rest =>
                obtain ⟨t', vX', qs', rfl, hToc, hqc, hq6, hi2⟩ := hcut
                clear hTou hqu hTu hqlen hins hToz hqz hTz
                clear b0 b1 b2 p0 p1 p2 s0 zs0 s1 zs1 s2 zs2
                have hTc := hT5.later hToc.below
                have hkc := (hv.later hTc.below).ranges
                obtain ⟨b', o', hbo, c0, c1, c2⟩ := hkc.cells k hlth.out
                simp only [Option.some.injEq, Addr.mk.injEq, and_true] at hbo
                obtain ⟨rfl, rfl⟩ := hbo
                have hsc : w5.heap.size + 1 ≤ wc.heap.size := (Array.getElem?_eq_some_iff.1 hToc.ho).1
                have a0 := Ws.here (show wc.cell? ⟨w.heap.size, 1, none⟩ = some (.slice (some ⟨b, o, none⟩) rn rc) from (box_cells hTc.hb).1 1)
                have a1 := Ws.here (show wc.cell? ⟨w5.heap.size, 1, none⟩ = some vX' from (box_cells hToc.ho).1 1)
                have a2 := Ws.here c0
                have a3 := Ws.here c1
                have a4 := Ws.here c2
                go_upto_region 17 with fail
                have hbd : Below wc.heap.size wc wc.drew := (Below.refl _ _).drew
                refine wp_region_V (fun w' => ∃ u : Ws wc.heap.size wc, w' = u.val) (fun j => decide (j < 8)) 11 _ (by kernel_rfl) rfl rfl ?_
                refine wpV_takes 4 [0, 1, 2, 3, 4, 5, 6] rfl _ rfl (by kernel_rfl) (fun d _ _ _ _ h => by cases d <;> exact h) ⟨⟨_, hbd⟩, rfl⟩ ?_
                simp only [List.map_cons, List.map_nil, List.getD_cons_zero, List.getD_cons_succ]
                repeat (go_big_quiet_step (fail))
                refine wpQuiet_nil ?_
                clear a0 a1 a2 a3 a4 c0 c1 c2
                refine wpV_one 7 _ _ (by kernel_rfl) (by kernel_rfl) rfl rfl ?_
                intro K hK
                simp only [List.getD_cons_zero, List.getD_cons_succ]
                go_wp2_with fail
                have hba : Below wc.heap.size wc (wc.alloc (.cells #[.int .i64 (rgAt rs k).a, .int .i64 (rgAt rs k).l, .int .i64 (rgAt rs k).p] 29)).drew := (bl1 wc _).drew
                refine wildK_normal (hK.out _ _ ⟨⟨_, hba⟩, rfl⟩ ?_)
                clear hK K
                refine wpV_tail [8, 9, 10] rfl (by kernel_rfl) ?_
                simp only [List.map_cons, List.map_nil, List.getD_cons_zero, List.getD_cons_succ]
                refine wpList_append_R rfl _ _ rfl (w5.heap.size + 1) vX' qs' rfl (OwnR.later hqc hba) ⟨wc.heap.size, 0, none⟩ 1 1 [rgAt rs k] rfl rfl (rgs_cells wc (rgAt rs k)) (by have := hq6.out; omega) (Nat.le_trans hsc hba.size) ?_
                intro v9 w9 hR9 hg9
                have hTo9 := (hToc.later hba).grown (OwnR.later hqc hba) hg9
                have hl9 : Hid ((qs' ++ [rgAt rs k]).length = qs'.length + 1) := by unfold Hid; simp
                obtain ⟨x9, c9, hv9, -⟩ := hR9.rs
                rw [hl9.out] at hv9
                subst hv9
                have o1' : w9.cell? ⟨w5.heap.size, 1, none⟩ = some vX' := (box_cells hTo9.ho).1 1
                have oz1 := (box_cells hTo9.ho).2 1
                clear hg9
                go_wp2
                go_roundw
                case rel => exact ⟨k + 1, t', _, qs' ++ [rgAt rs k], rfl, by go_num, hlth.out, hTo9.put, hR9.put (by omega), hi2, hno'⟩
                case measure => have := hlth.out; simp [intOf]; omega
          · have hnk : ¬ (k : Int) < rn := by omega
            obtain rfl : k = rn := by omega
            have hany : Hid (anyAt k (rmB rs r.a r.l) = false) := by
              unfold Hid
              unfold anyAt
              rw [List.any_eq_false]
              intro j hj
              rw [hno.out j (List.mem_range.1 hj)]
              decide
            have hE3 : Hid (growE vid k rs sn ss r = if k = 4 then 2 else 0) := hE2.out.trans (if_neg (by rw [hany.out]; decide))
            have hlenq : Hid (qs.length = k + t.toNat) := hins.out.len (by rw [hrl.out]; exact Nat.le_refl _)
            cases t with
            | true =>
              have hput : Hid (PutRg r rs qs) := putRg_is.2 (by have := hins.out; rw [← hrl.out] at this; exact this.all)
              obtain ⟨xq, cq, rfl, -⟩ := hq.rs
              have hTe := hT5.later hTo.below
              have e0 : wr.cell? ⟨w5.heap.size, 0, none⟩ = some (.int .i64 vid) := (box_cells hTo.ho).1 0
              have e1 : wr.cell? ⟨w5.heap.size, 1, none⟩ = some (.slice xq qs.length cq) := (box_cells hTo.ho).1 1
              have e2 : wr.cell? ⟨w5.heap.size, 2, none⟩ = some (.slice xt ts.length ct) := (box_cells hTo.ho).1 2
              clear b0 b1 b2 p0 p1 p2 s0 zs0 s1 zs1 s2 zs2
              have b0 : wr.cell? ⟨w.heap.size, 0, none⟩ = some (.int .i64 vid) := (box_cells hTe.hb).1 0
              have b1 : wr.cell? ⟨w.heap.size, 1, none⟩ = some (.slice rx k rc) := (box_cells hTe.hb).1 1
              have b2 : wr.cell? ⟨w.heap.size, 2, none⟩ = some (.slice sx sn sc) := (box_cells hTe.hb).1 2
              have p0 : wr.cell? ⟨w.heap.size + 1, 0, none⟩ = some (.int .i64 r.a) := (box_cells hTe.hp).1 0
              have p1 : wr.cell? ⟨w.heap.size + 1, 1, none⟩ = some (.int .i64 r.l) := (box_cells hTe.hp).1 1
              have p2 : wr.cell? ⟨w.heap.size + 1, 2, none⟩ = some (.int .i64 r.p) := (box_cells hTe.hp).1 2
              have s0 : wr.cell? ⟨w.heap.size + 2, 0, none⟩ = some (.int .i64 0) := (box_cells hTe.hs).1 0
              have zs0 : wr.frozen? ⟨w.heap.size + 2, 0, none⟩ = false := (box_cells hTe.hs).2 0
              have s1 : wr.cell? ⟨w.heap.size + 2, 1, none⟩ = some (.slice none 0 0) := (box_cells hTe.hs).1 1
              have zs1 : wr.frozen? ⟨w.heap.size + 2, 1, none⟩ = false := (box_cells hTe.hs).2 1
              have s2 : wr.cell? ⟨w.heap.size + 2, 2, none⟩ = some (.slice none 0 0) := (box_cells hTe.hs).1 2
              have zs2 : wr.frozen? ⟨w.heap.size + 2, 2, none⟩ = false := (box_cells hTe.hs).2 2
              by_cases h4 : k = 4
              · have hgt : (4 : Int) < qs.length := by have := hlenq.out; simp at this; omega
                have hne : Hid (growE vid k rs sn ss r = 2 ∧ (2 : Int) ≠ 0) := ⟨hE3.out.trans (if_pos h4), by decide⟩
                clear h4
                go_wp2
                refine bodyPost_ret (v := .tuple #[.agg #[.int .i64 0, .slice none 0 0, .slice none 0 0], .int .i64 2]) (by simp [results, Tryz.results8, go_sem, s0, s1, s2]) rfl ?_
                exact GrowPost.err hne.out (((hTe.below.setCell (p := ⟨w.heap.size + 2, 0, none⟩) (Nat.le_add_right _ _) _).setCell (p := ⟨w.heap.size + 2, 1, none⟩) (Nat.le_add_right _ _) _).setCell (p := ⟨w.heap.size + 2, 2, none⟩) (Nat.le_add_right _ _) _)
              · have hgt : ¬ (4 : Int) < qs.length := by have := hlenq.out; simp at this; omega
                have hE0 : Hid (growE vid k rs sn ss r = 0) := hE3.out.trans (if_neg h4)
                clear h4
                go_wp2
                refine bodyPost_ret (v := .tuple #[.agg #[.int .i64 vid, .slice xq qs.length cq, .slice xt ts.length ct], .int .i64 0]) (by simp [results, Tryz.results8, go_sem, s0, s1, s2]) rfl ?_
                have hOSe := OSs.later hOS hTo.below
                exact ⟨_, by rw [hE0.out], (((hTe.below.setCell (p := ⟨w.heap.size + 2, 0, none⟩) (Nat.le_add_right _ _) _).setCell (p := ⟨w.heap.size + 2, 1, none⟩) (Nat.le_add_right _ _) _).setCell (p := ⟨w.heap.size + 2, 2, none⟩) (Nat.le_add_right _ _) _), fun h => absurd hE0.out h, fun _ => ⟨_, ts, NV.of ((((hq).put (by omega)).put (by omega)).put (by omega)) (((hOSe.put hsz3).put hsz3).put hsz3), hput.out, hss⟩⟩
            | false =>
              have hput : Hid (PutRg r rs (qs ++ [r])) := putRg_is.2 (by have := hins.out; rw [← hrl.out] at this; exact this.last)
              have o1 : wr.cell? ⟨w5.heap.size, 1, none⟩ = some vX := (box_cells hTo.ho).1 1
              go_wp2_with (at_builtin; refine Hid.out ?_)
              unfold Hid
              refine wpList_append_R rfl _ _ rfl (w5.heap.size + 1) vX qs rfl (OwnR.later hq (bl1 wr _)) ⟨wr.heap.size, 0, none⟩ 1 1 [r] rfl rfl (rgs_cells wr r) (by have := hqlen.out; omega) (by simp; omega) ?_
              intro v9 w9 hR9 hg9
              have hTo9 := (hTo.later (bl1 wr _)).grown (OwnR.later hq (bl1 wr _)) hg9
              have hl9 : Hid ((qs ++ [r]).length = qs.length + 1) := by unfold Hid; simp
              obtain ⟨x9, c9, hv9, -⟩ := hR9.rs
              rw [hl9.out] at hv9
              subst hv9
              have o1' : w9.cell? ⟨w5.heap.size, 1, none⟩ = some vX := (box_cells hTo9.ho).1 1
              have oz1 := (box_cells hTo9.ho).2 1
              clear o1 hg9
              have hR10 := hR9.put (b := w5.heap.size) (o := 1) (u := .slice x9 (qs.length + 1) c9) (by omega)
              have hTo10 := hTo9.put (u := .slice x9 (qs.length + 1) c9)
              go_upto_region 20 with fail
              obtain ⟨we, hwe⟩ : ∃ we, we = w9.setCell ⟨w5.heap.size, 1, none⟩ (.slice x9 (qs.length + 1) c9) := ⟨_, rfl⟩
              rw [← hwe] at hR10 hTo10 ⊢
              clear hwe o1' oz1
              have hTe := hT5.later hTo10.below
              have e0 : we.cell? ⟨w5.heap.size, 0, none⟩ = some (.int .i64 vid) := (box_cells hTo10.ho).1 0
              have e1 : we.cell? ⟨w5.heap.size, 1, none⟩ = some (.slice x9 (qs.length + 1) c9) := (box_cells hTo10.ho).1 1
              have e2 : we.cell? ⟨w5.heap.size, 2, none⟩ = some (.slice xt ts.length ct) := (box_cells hTo10.ho).1 2
              clear b0 b1 b2 p0 p1 p2 s0 zs0 s1 zs1 s2 zs2
              have b0 : we.cell? ⟨w.heap.size, 0, none⟩ = some (.int .i64 vid) := (box_cells hTe.hb).1 0
              have b1 : we.cell? ⟨w.heap.size, 1, none⟩ = some (.slice rx k rc) := (box_cells hTe.hb).1 1
              have b2 : we.cell? ⟨w.heap.size, 2, none⟩ = some (.slice sx sn sc) := (box_cells hTe.hb).1 2
              have p0 : we.cell? ⟨w.heap.size + 1, 0, none⟩ = some (.int .i64 r.a) := (box_cells hTe.hp).1 0
              have p1 : we.cell? ⟨w.heap.size + 1, 1, none⟩ = some (.int .i64 r.l) := (box_cells hTe.hp).1 1
              have p2 : we.cell? ⟨w.heap.size + 1, 2, none⟩ = some (.int .i64 r.p) := (box_cells hTe.hp).1 2
              have s0 : we.cell? ⟨w.heap.size + 2, 0, none⟩ = some (.int .i64 0) := (box_cells hTe.hs).1 0
              have zs0 : we.frozen? ⟨w.heap.size + 2, 0, none⟩ = false := (box_cells hTe.hs).2 0
              have s1 : we.cell? ⟨w.heap.size + 2, 1, none⟩ = some (.slice none 0 0) := (box_cells hTe.hs).1 1
              have zs1 : we.frozen? ⟨w.heap.size + 2, 1, none⟩ = false := (box_cells hTe.hs).2 1
              have s2 : we.cell? ⟨w.heap.size + 2, 2, none⟩ = some (.slice none 0 0) := (box_cells hTe.hs).1 2
              have zs2 : we.frozen? ⟨w.heap.size + 2, 2, none⟩ = false := (box_cells hTe.hs).2 2
              by_cases h4 : k = 4
              · have hgt : (4 : Int) < (qs.length + 1) := by have := hlenq.out; simp at this; omega
                have hne : Hid (growE vid k rs sn ss r = 2 ∧ (2 : Int) ≠ 0) := ⟨hE3.out.trans (if_pos h4), by decide⟩
                clear h4
                go_wp2
                refine bodyPost_ret (v := .tuple #[.agg #[.int .i64 0, .slice none 0 0, .slice none 0 0], .int .i64 2]) (by simp [results, Tryz.results8, go_sem, s0, s1, s2]) rfl ?_
                exact GrowPost.err hne.out (((hTe.below.setCell (p := ⟨w.heap.size + 2, 0, none⟩) (Nat.le_add_right _ _) _).setCell (p := ⟨w.heap.size + 2, 1, none⟩) (Nat.le_add_right _ _) _).setCell (p := ⟨w.heap.size + 2, 2, none⟩) (Nat.le_add_right _ _) _)
              · have hgt : ¬ (4 : Int) < (qs.length + 1) := by have := hlenq.out; simp at this; omega
                have hE0 : Hid (growE vid k rs sn ss r = 0) := hE3.out.trans (if_neg h4)
                clear h4
                go_wp2
                refine bodyPost_ret (v := .tuple #[.agg #[.int .i64 vid, .slice x9 (qs.length + 1) c9, .slice xt ts.length ct], .int .i64 0]) (by simp [results, Tryz.results8, go_sem, s0, s1, s2]) rfl ?_
                have hOSe := OSs.later hOS hTo10.below
                exact ⟨_, by rw [hE0.out], (((hTe.below.setCell (p := ⟨w.heap.size + 2, 0, none⟩) (Nat.le_add_right _ _) _).setCell (p := ⟨w.heap.size + 2, 1, none⟩) (Nat.le_add_right _ _) _).setCell (p := ⟨w.heap.size + 2, 2, none⟩) (Nat.le_add_right _ _) _), fun h => absurd hE0.out h, fun _ => ⟨_, ts, NV.of ((((hR10).put (by omega)).put (by omega)).put (by omega)) (((hOSe.put hsz3).put hsz3).put hsz3), hput.out, hss⟩⟩
  · have hck := checkVpc_is vid rx rn rc rs sx sn sc ss _ rfl w0 (hv.later hT0.below) hrn hsn
    have hne : growE vid rn rs sn ss r = chkV vid rn rs sn ss ∧ chkV vid rn rs sn ss ≠ 0 := ⟨if_pos hc0, hc0⟩
    go_wp2_with fail
    refine (hck).mono ?_
    rintro e w1 ⟨rfl, hbw1⟩
    have hT1 := hT0.later hbw1
    clear b0 b1 b2 p0 p1 p2 s0 zs0 s1 zs1 s2 zs2
    have b0 : w1.cell? ⟨w.heap.size, 0, none⟩ = some (.int .i64 vid) := (box_cells hT1.hb).1 0
    have b1 : w1.cell? ⟨w.heap.size, 1, none⟩ = some (.slice rx rn rc) := (box_cells hT1.hb).1 1
    have b2 : w1.cell? ⟨w.heap.size, 2, none⟩ = some (.slice sx sn sc) := (box_cells hT1.hb).1 2
    have p0 : w1.cell? ⟨w.heap.size + 1, 0, none⟩ = some (.int .i64 r.a) := (box_cells hT1.hp).1 0
    have p1 : w1.cell? ⟨w.heap.size + 1, 1, none⟩ = some (.int .i64 r.l) := (box_cells hT1.hp).1 1
    have p2 : w1.cell? ⟨w.heap.size + 1, 2, none⟩ = some (.int .i64 r.p) := (box_cells hT1.hp).1 2
    have s0 : w1.cell? ⟨w.heap.size + 2, 0, none⟩ = some (.int .i64 0) := (box_cells hT1.hs).1 0
    have zs0 : w1.frozen? ⟨w.heap.size + 2, 0, none⟩ = false := (box_cells hT1.hs).2 0
    have s1 : w1.cell? ⟨w.heap.size + 2, 1, none⟩ = some (.slice none 0 0) := (box_cells hT1.hs).1 1
    have zs1 : w1.frozen? ⟨w.heap.size + 2, 1, none⟩ = false := (box_cells hT1.hs).2 1
    have s2 : w1.cell? ⟨w.heap.size + 2, 2, none⟩ = some (.slice none 0 0) := (box_cells hT1.hs).1 2
    have zs2 : w1.frozen? ⟨w.heap.size + 2, 2, none⟩ = false := (box_cells hT1.hs).2 2
    go_wp2
    refine bodyPost_ret (v := .tuple #[.agg #[.int .i64 0, .slice none 0 0, .slice none 0 0], .int .i64 (chkV vid rn rs sn ss)]) (by simp [results, Tryz.results8, go_sem, s0, s1, s2]) rfl ?_
    exact GrowPost.err hne (((hT1.below.setCell (p := ⟨w.heap.size + 2, 0, none⟩) (Nat.le_add_right _ _) _).setCell (p := ⟨w.heap.size + 2, 1, none⟩) (Nat.le_add_right _ _) _).setCell (p := ⟨w.heap.size + 2, 2, none⟩) (Nat.le_add_right _ _) _)
end Go.Proofs.YtpdhipjeobchfaaGreat
/- What DropVpc of the reference comes to. -/
namespace Go.Proofs.YtpdhipjeobchfaaGreat
open Go.RowKit Go.Shelf

/-- Of a right network no two ranges are the same. -/
theorem range_one {vid : Int} {rn : Nat} {rs : List Rg} {sn : Nat} {ss : List Sb} {c m : Int} (h : chkV vid rn rs sn ss = 0) {i j : Nat} (hj : j < rn) (hij : i < j) (h1 : rpB rs c m i = true) (h2 : rpB rs c m j = true) : False := by
  obtain ⟨-, hr, -⟩ := chkV_right h
  unfold rgsB at hr
  rw [Bool.and_eq_true, List.all_eq_true] at hr
  have h3 := hr.1 j (by simpa using hj)
  unfold rgsAt rgB at h3
  simp only [Bool.and_eq_true, Bool.not_eq_true'] at h3
  have h4 := h3.2
  unfold anyAt at h4
  rw [List.any_eq_false] at h4
  refine h4 i (List.mem_range.2 hij) ?_
  unfold rpB at h1 h2
  simp only [Bool.and_eq_true, decide_eq_true_eq] at h1 h2
  unfold rmB
  rw [h1.1, h1.2, h2.1, h2.2]
  have hrt := h3.1.1
  rw [h2.1, h2.2] at hrt
  have hp := sp_pos m
  exact mts_of hrt hrt (by omega) (by omega)
theorem range_pool {vid : Int} {rn : Nat} {rs : List Rg} {sn : Nat} {ss : List Sb} (h : chkV vid rn rs sn ss = 0) {j : Nat} (hj : j < rn) : (rgAt rs j).p ≠ 0 := by
  obtain ⟨-, hr, -⟩ := chkV_right h
  unfold rgsB at hr
  rw [Bool.and_eq_true, List.all_eq_true] at hr
  have h3 := hr.1 j (by simpa using hj)
  unfold rgsAt rgB wth at h3
  simp only [Bool.and_eq_true, decide_eq_true_eq] at h3
  omega
/-- The first k without the one that is sought, and that one, if there was one yet. -/
def CutR (rs : List Rg) (c m : Int) (k : Nat) (g : Rg) (qs : List Rg) : Prop :=
  ((∀ j, j < k → rpB rs c m j = false) ∧ g = ⟨0, 0, 0⟩ ∧ qs = rs.take k) ∨ ∃ i, i < k ∧ rpB rs c m i = true ∧ (∀ j, j < i → rpB rs c m j = false) ∧ g = rgAt rs i ∧ qs = rs.take i ++ (rs.take k).drop (i + 1)
theorem CutR.keep {rs : List Rg} {c m : Int} {k : Nat} {g : Rg} {qs : List Rg} (h : CutR rs c m k g qs) (hx : rs[k]? = some (rgAt rs k)) (hk : rpB rs c m k = false) : CutR rs c m (k + 1) g (qs ++ [rgAt rs k]) := by
  have hlen : k < rs.length := (List.getElem?_eq_some_iff.1 hx).1
  rcases h with ⟨h1, h2, h3⟩ | ⟨i, h1, h2, h3, h4, h5⟩
  · refine .inl ⟨fun j hj => ?_, h2, by rw [h3, take_one hx]⟩
    by_cases hj2 : j < k
    · exact h1 j hj2
    · obtain rfl : j = k := by omega
      exact hk
  · refine .inr ⟨i, by omega, h2, h3, h4, ?_⟩
    rw [h5, take_one hx, List.drop_append, List.length_take, Nat.min_eq_left (by omega), show i + 1 - k = 0 by omega]
    simp
theorem CutR.take {rs : List Rg} {c m : Int} {k : Nat} {g : Rg} {qs : List Rg} (h : CutR rs c m k g qs) (hx : rs[k]? = some (rgAt rs k)) (hk : rpB rs c m k = true) (hone : ∀ i, i < k → rpB rs c m i = true → False) : CutR rs c m (k + 1) (rgAt rs k) qs := by
  have hlen : k < rs.length := (List.getElem?_eq_some_iff.1 hx).1
  rcases h with ⟨h1, h2, h3⟩ | ⟨i, h1, h2, h3, h4, h5⟩
  · refine .inr ⟨k, by omega, hk, h1, rfl, ?_⟩
    rw [h3, List.drop_eq_nil_of_le (by simp; omega), List.append_nil]
  · exact absurd h2 (fun h => hone i h1 h)
theorem CutR.len {rs : List Rg} {c m : Int} {k : Nat} {g : Rg} {qs : List Rg} (h : CutR rs c m k g qs) (hk : k ≤ rs.length) : qs.length ≤ k := by
  rcases h with ⟨h1, h2, h3⟩ | ⟨i, h1, h2, h3, h4, h5⟩
  · rw [h3]; simp; omega
  · rw [h5]; simp; omega
/-- The box of the range that is gone. -/
abbrev rgX (g : Rg) : Obj := .cells #[.int .i64 g.a, .int .i64 g.l, .int .i64 g.p] 29
theorem rgX_set {V : World} {b : Nat} {g h : Rg} (hh : V.heap[b]? = some (rgX g)) : (((V.setCell ⟨b, 0, none⟩ (.int .i64 h.a)).setCell ⟨b, 1, none⟩ (.int .i64 h.l)).setCell ⟨b, 2, none⟩ (.int .i64 h.p)).heap[b]? = some (rgX h) := by
  have h1 := heap_setCell_same V b 0 _ 29 (.int .i64 h.a) hh
  have h2 := heap_setCell_same _ b 1 _ 29 (.int .i64 h.l) h1
  have h3 := heap_setCell_same _ b 2 _ 29 (.int .i64 h.p) h2
  simpa using h3

set_option maxRecDepth 100000 in
set_option maxHeartbeats 6400000 in
theorem dropVpc_any (vid : Int) (rx : Option Addr) (rn rc : Nat) (rs : List Rg) (sx : Option Addr) (sn sc : Nat) (ss : List Sb) (c m : Int) (w : World) (hv : Vp w rx rn rc rs sx sn sc ss) (hrn : rn ≤ 9223372036854775807) (hsn : sn ≤ 9223372036854775807) :
    Calls Tryz.prog 9 #[.agg #[.int .i64 vid, .slice rx rn rc, .slice sx sn sc], .agg #[.int .i64 c, .int .i64 m]] w (DropPost vid rn rs sn ss c m w) := by
  have hrl : Hid (rs.length = rn) := hv.ranges.len
  go_enter Tryz.func9, Tryz.ntmps9
  go_upto_region 1 with fail
  obtain ⟨w0, hw0⟩ : ∃ w0, w0 = (((w.alloc (vpB vid (.slice rx rn rc) (.slice sx sn sc))).alloc (.cells #[.int .i64 c, .int .i64 m] 27)).alloc (vpB 0 (.slice none 0 0) (.slice none 0 0))).alloc (.cells #[.int .i64 0, .int .i64 0, .int .i64 0] 29) := ⟨_, rfl⟩
  rw [← hw0]
  have hT0 : TD w w0 vid rx rn rc sx sn sc c m := by
    rw [hw0]
    exact ⟨heap_old _ (heap_old _ (heap_old _ (heap_new _ rfl))), heap_old _ (heap_old _ (heap_new _ (by simp))), heap_old _ (heap_new _ (by simp)), heap_new _ (by simp), ((bl2 w _ _).alloc (by simp; omega) _).alloc (by simp; omega) _⟩
  clear hw0
  have b0 : w0.cell? ⟨w.heap.size, 0, none⟩ = some (.int .i64 vid) := (box_cells hT0.hb).1 0
  have b1 : w0.cell? ⟨w.heap.size, 1, none⟩ = some (.slice rx rn rc) := (box_cells hT0.hb).1 1
  have b2 : w0.cell? ⟨w.heap.size, 2, none⟩ = some (.slice sx sn sc) := (box_cells hT0.hb).1 2
  have p0 : w0.cell? ⟨w.heap.size + 1, 0, none⟩ = some (.int .i64 c) := (box_cells hT0.hp).1 0
  have p1 : w0.cell? ⟨w.heap.size + 1, 1, none⟩ = some (.int .i64 m) := (box_cells hT0.hp).1 1
  have s0 : w0.cell? ⟨w.heap.size + 2, 0, none⟩ = some (.int .i64 0) := (box_cells hT0.hs).1 0
  have zs0 : w0.frozen? ⟨w.heap.size + 2, 0, none⟩ = false := (box_cells hT0.hs).2 0
  have s1 : w0.cell? ⟨w.heap.size + 2, 1, none⟩ = some (.slice none 0 0) := (box_cells hT0.hs).1 1
  have zs1 : w0.frozen? ⟨w.heap.size + 2, 1, none⟩ = false := (box_cells hT0.hs).2 1
  have s2 : w0.cell? ⟨w.heap.size + 2, 2, none⟩ = some (.slice none 0 0) := (box_cells hT0.hs).1 2
  have zs2 : w0.frozen? ⟨w.heap.size + 2, 2, none⟩ = false := (box_cells hT0.hs).2 2
  have g0 : w0.cell? ⟨w.heap.size + 3, 0, none⟩ = some (.int .i64 0) := (box_cells hT0.hg).1 0
  have zg0 : w0.frozen? ⟨w.heap.size + 3, 0, none⟩ = false := (box_cells hT0.hg).2 0
  have g1 : w0.cell? ⟨w.heap.size + 3, 1, none⟩ = some (.int .i64 0) := (box_cells hT0.hg).1 1
  have zg1 : w0.frozen? ⟨w.heap.size + 3, 1, none⟩ = false := (box_cells hT0.hg).2 1
  have g2 : w0.cell? ⟨w.heap.size + 3, 2, none⟩ = some (.int .i64 0) := (box_cells hT0.hg).1 2
  have zg2 : w0.frozen? ⟨w.heap.size + 3, 2, none⟩ = false := (box_cells hT0.hg).2 2
  by_cases hc0 : chkV vid rn rs sn ss = 0
  · have hck := checkVpc_is vid rx rn rc rs sx sn sc ss 0 hc0 w0 (hv.later hT0.below) hrn hsn
    obtain ⟨f1, f2, f3, f4⟩ := chkV_few hc0
    have hE1 : Hid (dropE vid rn rs sn ss c m = if fstAt rn (rpB rs c m) < 0 then 5 else if anyAt sn (siB ss c m) = true then 9 else 0) := if_neg (c := chkV vid rn rs sn ss ≠ 0) (by simp [hc0])
    have hone : Hid (∀ i j, j < rn → i < j → rpB rs c m i = true → rpB rs c m j = true → False) := fun i j h1 h2 h3 h4 => range_one hc0 h1 h2 h3 h4
    have hpool : Hid (∀ j, j < rn → (rgAt rs j).p ≠ 0) := fun j hj => range_pool hc0 hj
    clear hc0
    go_wp2_with fail
    refine (hck).mono ?_
    rintro e w1 ⟨rfl, hbw1⟩
    have hT1 := hT0.later hbw1
    clear b0 b1 b2 p0 p1 s0 zs0 s1 zs1 s2 zs2 g0 zg0 g1 zg1 g2 zg2
    have b0 : w1.cell? ⟨w.heap.size, 0, none⟩ = some (.int .i64 vid) := (box_cells hT1.hb).1 0
    have b1 : w1.cell? ⟨w.heap.size, 1, none⟩ = some (.slice rx rn rc) := (box_cells hT1.hb).1 1
    have b2 : w1.cell? ⟨w.heap.size, 2, none⟩ = some (.slice sx sn sc) := (box_cells hT1.hb).1 2
    have p0 : w1.cell? ⟨w.heap.size + 1, 0, none⟩ = some (.int .i64 c) := (box_cells hT1.hp).1 0
    have p1 : w1.cell? ⟨w.heap.size + 1, 1, none⟩ = some (.int .i64 m) := (box_cells hT1.hp).1 1
    have s0 : w1.cell? ⟨w.heap.size + 2, 0, none⟩ = some (.int .i64 0) := (box_cells hT1.hs).1 0
    have zs0 : w1.frozen? ⟨w.heap.size + 2, 0, none⟩ = false := (box_cells hT1.hs).2 0
    have s1 : w1.cell? ⟨w.heap.size + 2, 1, none⟩ = some (.slice none 0 0) := (box_cells hT1.hs).1 1
    have zs1 : w1.frozen? ⟨w.heap.size + 2, 1, none⟩ = false := (box_cells hT1.hs).2 1
    have s2 : w1.cell? ⟨w.heap.size + 2, 2, none⟩ = some (.slice none 0 0) := (box_cells hT1.hs).1 2
    have zs2 : w1.frozen? ⟨w.heap.size + 2, 2, none⟩ = false := (box_cells hT1.hs).2 2
    have g0 : w1.cell? ⟨w.heap.size + 3, 0, none⟩ = some (.int .i64 0) := (box_cells hT1.hg).1 0
    have zg0 : w1.frozen? ⟨w.heap.size + 3, 0, none⟩ = false := (box_cells hT1.hg).2 0
    have g1 : w1.cell? ⟨w.heap.size + 3, 1, none⟩ = some (.int .i64 0) := (box_cells hT1.hg).1 1
    have zg1 : w1.frozen? ⟨w.heap.size + 3, 1, none⟩ = false := (box_cells hT1.hg).2 1
    have g2 : w1.cell? ⟨w.heap.size + 3, 2, none⟩ = some (.int .i64 0) := (box_cells hT1.hg).1 2
    have zg2 : w1.frozen? ⟨w.heap.size + 3, 2, none⟩ = false := (box_cells hT1.hg).2 2
    have hown := ownVpc_any vid rx rn rc rs sx sn sc ss w1 (hv.later hT1.below) (by omega) (by omega) (fun i hi => by have := f3 i hi; omega) (fun i hi j hj => by have := f4 i hi j hj; omega)
    go_wp2_with fail
    refine hown.mono ?_
    rintro e w5 ⟨vR, vS, ts, rfl, hOR, hss, hOS, hb5⟩
    clear hown f3 f4
    have hT5 := hT1.later hb5
    obtain ⟨xr, cr, rfl, -⟩ := hOR.rs
    obtain ⟨xt, ct, rfl, -⟩ := hOS.subs
    have hsz3 : w.heap.size + 3 < w1.heap.size := (Array.getElem?_eq_some_iff.1 hT1.hg).1
    have hsz5 : w.heap.size + 3 < w5.heap.size := Nat.lt_of_lt_of_le hsz3 hb5.size
    clear b0 b1 b2 p0 p1 s0 zs0 s1 zs1 s2 zs2 g0 zg0 g1 zg1 g2 zg2
    go_upto_region 5 with fail
    obtain ⟨w6, hw6⟩ : ∃ w6, w6 = w5.alloc (vpB vid (.slice xr rs.length cr) (.slice xt ts.length ct)) := ⟨_, rfl⟩
    rw [← hw6]
    have hb56 : Below w5.heap.size w5 w6 := by rw [hw6]; exact bl1 _ _
    have hn6 : w6.heap[w5.heap.size]? = some (vpB vid (.slice xr rs.length cr) (.slice xt ts.length ct)) := by rw [hw6]; exact heap_new _ rfl
    have hs6 : Hid (w6.heap.size = w5.heap.size + 1) := by unfold Hid; rw [hw6]; simp
    clear hw6
    have m1 : w6.cell? ⟨w5.heap.size, 1, none⟩ = some (.slice xr rs.length cr) := (box_cells hn6).1 1
    have z1 := (box_cells hn6).2 1
    go_upto_region 6 with fail
    obtain ⟨w7, hw7⟩ : ∃ w7, w7 = w6.setCell ⟨w5.heap.size, 1, none⟩ (.slice none 0 0) := ⟨_, rfl⟩
    rw [← hw7]
    have hTo7 : TGo w5 w7 vid (.slice none 0 0) (.slice xt ts.length ct) := by
      rw [hw7]
      exact TGo.put ⟨hn6, hb56⟩
    have hs7 : w7.heap.size = w5.heap.size + 1 := by rw [hw7]; simpa using hs6.out
    clear hw7 m1 z1 hn6 hb56 hs6
    go_upto_region 7 with fail
    obtain ⟨w8, hw8⟩ : ∃ w8, w8 = w7.alloc (rgX ⟨0, 0, 0⟩) := ⟨_, rfl⟩
    rw [show w7.alloc (.cells #[.int .i64 0, .int .i64 0, .int .i64 0] 29) = w8 from hw8.symm]
    have hTo8 : TGo w5 w8 vid (.slice none 0 0) (.slice xt ts.length ct) := by rw [hw8]; exact hTo7.later (bl1 w7 _)
    have hg8 : w8.heap[w5.heap.size + 1]? = some (rgX ⟨0, 0, 0⟩) := by rw [hw8]; exact heap_new _ hs7.symm
    clear hw8 hTo7 hs7
    go_wp2
    go_loopw [10] (fun i wr => ∃ (k : Nat) (vX : Value) (gg : Rg) (qs : List Rg), i = .int .i64 k ∧ k ≤ rn ∧ TGo w5 wr vid vX (.slice xt ts.length ct) ∧ wr.heap[w5.heap.size + 1]? = some (rgX gg) ∧ OwnR wr (w5.heap.size + 2) vX qs ∧ Hid (CutR rs c m k gg qs)) (fun i _ => rn - (intOf i).toNat)
    case atStart => exact ⟨0, _, _, [], rfl, by omega, hTo8, hg8, ⟨rfl, .inl ⟨rfl, rfl⟩⟩, .inl ⟨fun j hj => by omega, rfl, rfl⟩⟩
    case round =>
      clear hTo8 hg8
      obtain ⟨k, vX, gg, qs, rfl, hkn, hTo, hgb, hq, hcut⟩ := hrel
      have hTr := hT5.later hTo.below
      have hsr : w5.heap.size + 2 ≤ wr.heap.size := (Array.getElem?_eq_some_iff.1 hgb).1
      have hqlen : Hid (qs.length ≤ 4) := by
        unfold Hid
        have h1 := hcut.out.len (by rw [hrl.out]; exact hkn)
        omega
      have b0 : wr.cell? ⟨w.heap.size, 0, none⟩ = some (.int .i64 vid) := (box_cells hTr.hb).1 0
      have b1 : wr.cell? ⟨w.heap.size, 1, none⟩ = some (.slice rx rn rc) := (box_cells hTr.hb).1 1
      have b2 : wr.cell? ⟨w.heap.size, 2, none⟩ = some (.slice sx sn sc) := (box_cells hTr.hb).1 2
      have p0 : wr.cell? ⟨w.heap.size + 1, 0, none⟩ = some (.int .i64 c) := (box_cells hTr.hp).1 0
      have p1 : wr.cell? ⟨w.heap.size + 1, 1, none⟩ = some (.int .i64 m) := (box_cells hTr.hp).1 1
      have s0 : wr.cell? ⟨w.heap.size + 2, 0, none⟩ = some (.int .i64 0) := (box_cells hTr.hs).1 0
      have zs0 : wr.frozen? ⟨w.heap.size + 2, 0, none⟩ = false := (box_cells hTr.hs).2 0
      have s1 : wr.cell? ⟨w.heap.size + 2, 1, none⟩ = some (.slice none 0 0) := (box_cells hTr.hs).1 1
      have zs1 : wr.frozen? ⟨w.heap.size + 2, 1, none⟩ = false := (box_cells hTr.hs).2 1
      have s2 : wr.cell? ⟨w.heap.size + 2, 2, none⟩ = some (.slice none 0 0) := (box_cells hTr.hs).1 2
      have zs2 : wr.frozen? ⟨w.heap.size + 2, 2, none⟩ = false := (box_cells hTr.hs).2 2
      have g0 : wr.cell? ⟨w.heap.size + 3, 0, none⟩ = some (.int .i64 0) := (box_cells hTr.hg).1 0
      have zg0 : wr.frozen? ⟨w.heap.size + 3, 0, none⟩ = false := (box_cells hTr.hg).2 0
      have g1 : wr.cell? ⟨w.heap.size + 3, 1, none⟩ = some (.int .i64 0) := (box_cells hTr.hg).1 1
      have zg1 : wr.frozen? ⟨w.heap.size + 3, 1, none⟩ = false := (box_cells hTr.hg).2 1
      have g2 : wr.cell? ⟨w.heap.size + 3, 2, none⟩ = some (.int .i64 0) := (box_cells hTr.hg).1 2
      have zg2 : wr.frozen? ⟨w.heap.size + 3, 2, none⟩ = false := (box_cells hTr.hg).2 2
      by_cases hlt : k < rn
      · have hkw := hv.later hTr.below
        have hlth : Hid (k < rn) := hlt
        have hget : Hid (rs[k]? = some (rgAt rs k)) := rgAt_some (by rw [hrl.out]; exact hlt)
        obtain ⟨b, o, rfl, c0, c1, c2⟩ := hkw.ranges.cells k hlt
        have hk0 : (0 : Int) ≤ k := by omega
        have hkn2 : (k : Int) < rn := by omega
        have hkeep : Hid (RS wr (some ⟨b, o, none⟩) rn rs) := hkw.ranges
        clear hlt
        have a1 := Ws.here b1
        have a3 := Ws.here p0
        have a4 := Ws.here p1
        have a5 := Ws.here c0
        have a6 := Ws.here c1
        go_upto_region 10 with fail
        refine wp_region_ws wr.heap.size (by kernel_rfl) (by kernel_rfl) ?_
        repeat (go_big_quiet_step (fail))
        refine quiet_eql _ _ _ (rgAt rs k).a (rgAt rs k).l c m rfl rfl rfl rfl ?_
        simp only [Act.put, List.setIfInBounds_toArray, List.set_cons_zero, List.set_cons_succ]
        refine wpQuiet_nil ?_
        rintro _ ⟨u, rfl⟩
        have hbu := u.property
        generalize u.val = wu at hbu ⊢
        clear u a1 a3 a4 a5 a6 c0 c1 c2
        have hTu := hTr.later hbu
        have hTou := hTo.later hbu
        have hgu := heap_later hbu hgb
        have hqu := OwnR.later hq hbu
        have hku := hkeep.out.later hbu
        clear hbu hTo hq hTr hsr hkeep hgb
        have hsr : w5.heap.size + 2 ≤ wu.heap.size := (Array.getElem?_eq_some_iff.1 hgu).1
        clear b0 b1 b2 p0 p1 s0 zs0 s1 zs1 s2 zs2 g0 zg0 g1 zg1 g2 zg2
        have b0 : wu.cell? ⟨w.heap.size, 0, none⟩ = some (.int .i64 vid) := (box_cells hTu.hb).1 0
        have b1 : wu.cell? ⟨w.heap.size, 1, none⟩ = some (.slice (some ⟨b, o, none⟩) rn rc) := (box_cells hTu.hb).1 1
        have b2 : wu.cell? ⟨w.heap.size, 2, none⟩ = some (.slice sx sn sc) := (box_cells hTu.hb).1 2
        have p0 : wu.cell? ⟨w.heap.size + 1, 0, none⟩ = some (.int .i64 c) := (box_cells hTu.hp).1 0
        have p1 : wu.cell? ⟨w.heap.size + 1, 1, none⟩ = some (.int .i64 m) := (box_cells hTu.hp).1 1
        have s0 : wu.cell? ⟨w.heap.size + 2, 0, none⟩ = some (.int .i64 0) := (box_cells hTu.hs).1 0
        have zs0 : wu.frozen? ⟨w.heap.size + 2, 0, none⟩ = false := (box_cells hTu.hs).2 0
        have s1 : wu.cell? ⟨w.heap.size + 2, 1, none⟩ = some (.slice none 0 0) := (box_cells hTu.hs).1 1
        have zs1 : wu.frozen? ⟨w.heap.size + 2, 1, none⟩ = false := (box_cells hTu.hs).2 1
        have s2 : wu.cell? ⟨w.heap.size + 2, 2, none⟩ = some (.slice none 0 0) := (box_cells hTu.hs).1 2
        have zs2 : wu.frozen? ⟨w.heap.size + 2, 2, none⟩ = false := (box_cells hTu.hs).2 2
        have g0 : wu.cell? ⟨w.heap.size + 3, 0, none⟩ = some (.int .i64 0) := (box_cells hTu.hg).1 0
        have zg0 : wu.frozen? ⟨w.heap.size + 3, 0, none⟩ = false := (box_cells hTu.hg).2 0
        have g1 : wu.cell? ⟨w.heap.size + 3, 1, none⟩ = some (.int .i64 0) := (box_cells hTu.hg).1 1
        have zg1 : wu.frozen? ⟨w.heap.size + 3, 1, none⟩ = false := (box_cells hTu.hg).2 1
        have g2 : wu.cell? ⟨w.heap.size + 3, 2, none⟩ = some (.int .i64 0) := (box_cells hTu.hg).1 2
        have zg2 : wu.frozen? ⟨w.heap.size + 3, 2, none⟩ = false := (box_cells hTu.hg).2 2
        obtain ⟨b', o', hbo, c0, c1, c2⟩ := hku.cells k hlth.out
        simp only [Option.some.injEq, Addr.mk.injEq, and_true] at hbo
        obtain ⟨rfl, rfl⟩ := hbo
        obtain ⟨cc, hcc⟩ : ∃ cc, Hid (rpB rs c m k = cc) := ⟨_, rfl⟩
        rw [show (decide ((rgAt rs k).a = c) && decide ((rgAt rs k).l = m)) = cc from hcc.out]
        cases cc with
        | true =>
          have hc2 : Hid (CutR rs c m (k + 1) (rgAt rs k) qs) := hcut.out.take hget.out hcc.out (fun i hi h => hone.out i k hlth.out hi h hcc.out)
          have y0 : wu.cell? ⟨w5.heap.size + 1, 0, none⟩ = some (.int .i64 gg.a) := (box_cells hgu).1 0
          have y1 : wu.cell? ⟨w5.heap.size + 1, 1, none⟩ = some (.int .i64 gg.l) := (box_cells hgu).1 1
          have y2 : wu.cell? ⟨w5.heap.size + 1, 2, none⟩ = some (.int .i64 gg.p) := (box_cells hgu).1 2
          have yz0 := (box_cells hgu).2 0
          have yz1 := (box_cells hgu).2 1
          have yz2 := (box_cells hgu).2 2
          go_wp2
          go_roundw
          case rel => exact ⟨k + 1, vX, rgAt rs k, qs, by go_num, hlth.out, ⟨(heap_setCell_other _ _ _ _ (by show w5.heap.size ≠ w5.heap.size + 1; omega)).trans ((heap_setCell_other _ _ _ _ (by show w5.heap.size ≠ w5.heap.size + 1; omega)).trans ((heap_setCell_other _ _ _ _ (by show w5.heap.size ≠ w5.heap.size + 1; omega)).trans hTou.ho)), ((hTou.below.setCell (p := ⟨w5.heap.size + 1, 0, none⟩) (Nat.le_succ _) _).setCell (p := ⟨w5.heap.size + 1, 1, none⟩) (Nat.le_succ _) _).setCell (p := ⟨w5.heap.size + 1, 2, none⟩) (Nat.le_succ _) _⟩, rgX_set hgu, ((hqu.put (by omega)).put (by omega)).put (by omega), hc2⟩
          case measure => have := hlth.out; simp [intOf]; omega
        | false =>
          have hc2 : Hid (CutR rs c m (k + 1) gg (qs ++ [rgAt rs k])) := hcut.out.keep hget.out hcc.out
          have a0 := Ws.here (show wu.cell? ⟨w.heap.size, 1, none⟩ = some (.slice (some ⟨b, o, none⟩) rn rc) from (box_cells hTu.hb).1 1)
          have a1 := Ws.here (show wu.cell? ⟨w5.heap.size, 1, none⟩ = some vX from (box_cells hTou.ho).1 1)
          have a2 := Ws.here c0
          have a3 := Ws.here c1
          have a4 := Ws.here c2
          go_upto_region 12 with fail
          have hbd : Below wu.heap.size wu wu.drew := (Below.refl _ _).drew
          refine wp_region_V (fun w' => ∃ u : Ws wu.heap.size wu, w' = u.val) (fun j => decide (j < 8)) 11 _ (by kernel_rfl) rfl rfl ?_
          refine wpV_takes 4 [0, 1, 2, 3, 4, 5, 6] rfl _ rfl (by kernel_rfl) (fun d _ _ _ _ h => by cases d <;> exact h) ⟨⟨_, hbd⟩, rfl⟩ ?_
          simp only [List.map_cons, List.map_nil, List.getD_cons_zero, List.getD_cons_succ]
          repeat (go_big_quiet_step (fail))
          refine wpQuiet_nil ?_
          clear a0 a1 a2 a3 a4 c0 c1 c2
          refine wpV_one 7 _ _ (by kernel_rfl) (by kernel_rfl) rfl rfl ?_
          intro K hK
          simp only [List.getD_cons_zero, List.getD_cons_succ]
          go_wp2_with fail
          have hba : Below wu.heap.size wu (wu.alloc (.cells #[.int .i64 (rgAt rs k).a, .int .i64 (rgAt rs k).l, .int .i64 (rgAt rs k).p] 29)).drew := (bl1 wu _).drew
          refine wildK_normal (hK.out _ _ ⟨⟨_, hba⟩, rfl⟩ ?_)
          clear hK K
          refine wpV_tail [8, 9, 10] rfl (by kernel_rfl) ?_
          simp only [List.map_cons, List.map_nil, List.getD_cons_zero, List.getD_cons_succ]
          refine wpList_append_R rfl _ _ rfl (w5.heap.size + 2) vX qs rfl (OwnR.later hqu hba) ⟨wu.heap.size, 0, none⟩ 1 1 [rgAt rs k] rfl rfl (rgs_cells wu (rgAt rs k)) (by have := hqlen.out; omega) (Nat.le_trans hsr hba.size) ?_
          intro v9 w9 hR9 hg9
          have hTo9 := (hTou.later hba).grown ((OwnR.later hqu hba).low (Nat.le_succ _)) hg9
          have hg9' := grown_keep hg9 (fun e => by have := ((OwnR.later hqu hba).lt _ e).1; omega) (heap_later hba hgu)
          have hl9 : Hid ((qs ++ [rgAt rs k]).length = qs.length + 1) := by unfold Hid; simp
          obtain ⟨x9, c9, hv9, -⟩ := hR9.rs
          rw [hl9.out] at hv9
          subst hv9
          have o1' : w9.cell? ⟨w5.heap.size, 1, none⟩ = some vX := (box_cells hTo9.ho).1 1
          have oz1 := (box_cells hTo9.ho).2 1
          clear hg9
          go_wp2
          go_roundw
          case rel => exact ⟨k + 1, _, gg, qs ++ [rgAt rs k], by go_num, hlth.out, hTo9.put, (heap_setCell_other _ _ _ _ (by show w5.heap.size + 1 ≠ w5.heap.size; omega)).trans hg9', hR9.put (by omega), hc2⟩
          case measure => have := hlth.out; simp [intOf]; omega
      · have hnk : ¬ (k : Int) < rn := by omega
        obtain rfl : k = rn := by omega
        have y2 : wr.cell? ⟨w5.heap.size + 1, 2, none⟩ = some (.int .i64 gg.p) := (box_cells hgb).1 2
        rcases hcut.out with ⟨h1, h2, -⟩ | ⟨i, h1, h2, h3, h4, h5⟩
        · have hne : Hid (dropE vid k rs sn ss c m = 5 ∧ (5 : Int) ≠ 0) := ⟨hE1.out.trans (if_pos (by rw [fstAt_no h1]; decide)), by decide⟩
          subst h2
          clear h1 hcut
          go_wp2
          refine bodyPost_ret (v := .tuple #[.agg #[.int .i64 0, .slice none 0 0, .slice none 0 0], .agg #[.int .i64 0, .int .i64 0, .int .i64 0], .int .i64 5]) (by simp [results, Tryz.results9, go_sem, s0, s1, s2, g0, g1, g2]) rfl ?_
          exact DropPost.err hne.out ((((((hTr.below.setCell (p := ⟨w.heap.size + 2, 0, none⟩) (Nat.le_add_right _ _) _).setCell (p := ⟨w.heap.size + 2, 1, none⟩) (Nat.le_add_right _ _) _).setCell (p := ⟨w.heap.size + 2, 2, none⟩) (Nat.le_add_right _ _) _).setCell (p := ⟨w.heap.size + 3, 0, none⟩) (Nat.le_add_right _ _) _).setCell (p := ⟨w.heap.size + 3, 1, none⟩) (Nat.le_add_right _ _) _).setCell (p := ⟨w.heap.size + 3, 2, none⟩) (Nat.le_add_right _ _) _)
        · have hgp : ¬ gg.p = 0 := by rw [h4]; exact hpool.out i h1
          have hE2 : Hid (dropE vid k rs sn ss c m = if anyAt sn (siB ss c m) = true then 9 else 0) := hE1.out.trans (if_neg (by rw [fstAt_yes h1 h2 h3]; omega))
          have hfin : Hid (i < k ∧ rpB rs c m i = true ∧ (∀ j, j < i → rpB rs c m j = false) ∧ gg = rgAt rs i ∧ qs = rs.take i ++ rs.drop (i + 1)) := ⟨h1, h2, h3, h4, by rw [h5, ← hrl.out, List.take_length]⟩
          clear h1 h2 h3 h4 h5 hcut
          go_wp2
          clear y2
          obtain ⟨wh, rfl⟩ : ∃ wh, wh = wr := ⟨_, rfl⟩
          clear b0 b1 b2 p0 p1 s0 zs0 s1 zs1 s2 zs2 g0 zg0 g1 zg1 g2 zg2
          go_loopw [11] (fun i wr => ∃ q : Nat, i = .int .i64 q ∧ q ≤ sn ∧ Below wh.heap.size wh wr ∧ Hid (∀ j, j < q → siB ss c m j = false)) (fun i _ => sn - (intOf i).toNat)
          case atStart => exact ⟨0, rfl, by omega, Below.refl _ _, fun j hj => by omega⟩
          case round =>
            obtain ⟨q, rfl, hqn, hBq, hno⟩ := hrel
            have hTq := hTr.later hBq
            have hToq := hTo.later hBq
            have hgq := heap_later hBq hgb
            have hqq := OwnR.later hq hBq
            have b0 : wr.cell? ⟨w.heap.size, 0, none⟩ = some (.int .i64 vid) := (box_cells hTq.hb).1 0
            have b1 : wr.cell? ⟨w.heap.size, 1, none⟩ = some (.slice rx k rc) := (box_cells hTq.hb).1 1
            have b2 : wr.cell? ⟨w.heap.size, 2, none⟩ = some (.slice sx sn sc) := (box_cells hTq.hb).1 2
            have p0 : wr.cell? ⟨w.heap.size + 1, 0, none⟩ = some (.int .i64 c) := (box_cells hTq.hp).1 0
            have p1 : wr.cell? ⟨w.heap.size + 1, 1, none⟩ = some (.int .i64 m) := (box_cells hTq.hp).1 1
            have s0 : wr.cell? ⟨w.heap.size + 2, 0, none⟩ = some (.int .i64 0) := (box_cells hTq.hs).1 0
            have zs0 : wr.frozen? ⟨w.heap.size + 2, 0, none⟩ = false := (box_cells hTq.hs).2 0
            have s1 : wr.cell? ⟨w.heap.size + 2, 1, none⟩ = some (.slice none 0 0) := (box_cells hTq.hs).1 1
            have zs1 : wr.frozen? ⟨w.heap.size + 2, 1, none⟩ = false := (box_cells hTq.hs).2 1
            have s2 : wr.cell? ⟨w.heap.size + 2, 2, none⟩ = some (.slice none 0 0) := (box_cells hTq.hs).1 2
            have zs2 : wr.frozen? ⟨w.heap.size + 2, 2, none⟩ = false := (box_cells hTq.hs).2 2
            have g0 : wr.cell? ⟨w.heap.size + 3, 0, none⟩ = some (.int .i64 0) := (box_cells hTq.hg).1 0
            have zg0 : wr.frozen? ⟨w.heap.size + 3, 0, none⟩ = false := (box_cells hTq.hg).2 0
            have g1 : wr.cell? ⟨w.heap.size + 3, 1, none⟩ = some (.int .i64 0) := (box_cells hTq.hg).1 1
            have zg1 : wr.frozen? ⟨w.heap.size + 3, 1, none⟩ = false := (box_cells hTq.hg).2 1
            have g2 : wr.cell? ⟨w.heap.size + 3, 2, none⟩ = some (.int .i64 0) := (box_cells hTq.hg).1 2
            have zg2 : wr.frozen? ⟨w.heap.size + 3, 2, none⟩ = false := (box_cells hTq.hg).2 2
            by_cases hltq : q < sn
            · obtain ⟨b, o, rfl, c0, c1, c2, c3⟩ := (hv.later hTq.below).subs.cells q hltq
              have hq0 : (0 : Int) ≤ q := by omega
              have hqn2 : (q : Int) < sn := by omega
              have hltqh : Hid (q < sn) := hltq
              clear hltq
              have a1 := Ws.here b2
              have a3 := Ws.here p0
              have a4 := Ws.here p1
              have a5 := Ws.here c1
              have a6 := Ws.here c2
              obtain ⟨cc, hcc⟩ : ∃ cc, Hid (siB ss c m q = cc) := ⟨_, rfl⟩
              have hin := insideOf_is (sbAt ss q).a (sbAt ss q).l c m cc hcc.out
              go_upto_region 18 with fail
              refine wp_region_ws wr.heap.size (by kernel_rfl) (by kernel_rfl) ?_
              repeat (go_big_quiet_step (first | (go_at_call 39; exact Calls.in_ws (Nat.le_refl _) (hin _))))
              refine wpQuiet_nil ?_
              rintro _ ⟨u, rfl⟩
              have hbu := u.property
              generalize u.val = wu at hbu ⊢
              clear u a1 a3 a4 a5 a6 c0 c1 c2 c3 hin
              have hTu := hTq.later hbu
              clear b0 b1 b2 p0 p1 s0 zs0 s1 zs1 s2 zs2 g0 zg0 g1 zg1 g2 zg2
              have b0 : wu.cell? ⟨w.heap.size, 0, none⟩ = some (.int .i64 vid) := (box_cells hTu.hb).1 0
              have b1 : wu.cell? ⟨w.heap.size, 1, none⟩ = some (.slice rx k rc) := (box_cells hTu.hb).1 1
              have b2 : wu.cell? ⟨w.heap.size, 2, none⟩ = some (.slice (some ⟨b, o, none⟩) sn sc) := (box_cells hTu.hb).1 2
              have p0 : wu.cell? ⟨w.heap.size + 1, 0, none⟩ = some (.int .i64 c) := (box_cells hTu.hp).1 0
              have p1 : wu.cell? ⟨w.heap.size + 1, 1, none⟩ = some (.int .i64 m) := (box_cells hTu.hp).1 1
              have s0 : wu.cell? ⟨w.heap.size + 2, 0, none⟩ = some (.int .i64 0) := (box_cells hTu.hs).1 0
              have zs0 : wu.frozen? ⟨w.heap.size + 2, 0, none⟩ = false := (box_cells hTu.hs).2 0
              have s1 : wu.cell? ⟨w.heap.size + 2, 1, none⟩ = some (.slice none 0 0) := (box_cells hTu.hs).1 1
              have zs1 : wu.frozen? ⟨w.heap.size + 2, 1, none⟩ = false := (box_cells hTu.hs).2 1
              have s2 : wu.cell? ⟨w.heap.size + 2, 2, none⟩ = some (.slice none 0 0) := (box_cells hTu.hs).1 2
              have zs2 : wu.frozen? ⟨w.heap.size + 2, 2, none⟩ = false := (box_cells hTu.hs).2 2
              have g0 : wu.cell? ⟨w.heap.size + 3, 0, none⟩ = some (.int .i64 0) := (box_cells hTu.hg).1 0
              have zg0 : wu.frozen? ⟨w.heap.size + 3, 0, none⟩ = false := (box_cells hTu.hg).2 0
              have g1 : wu.cell? ⟨w.heap.size + 3, 1, none⟩ = some (.int .i64 0) := (box_cells hTu.hg).1 1
              have zg1 : wu.frozen? ⟨w.heap.size + 3, 1, none⟩ = false := (box_cells hTu.hg).2 1
              have g2 : wu.cell? ⟨w.heap.size + 3, 2, none⟩ = some (.int .i64 0) := (box_cells hTu.hg).1 2
              have zg2 : wu.frozen? ⟨w.heap.size + 3, 2, none⟩ = false := (box_cells hTu.hg).2 2
              cases cc with
              | true =>
                have hne : Hid (dropE vid k rs sn ss c m = 9 ∧ (9 : Int) ≠ 0) := ⟨hE2.out.trans (if_pos (List.any_eq_true.2 ⟨q, List.mem_range.2 hltqh.out, hcc.out⟩)), by decide⟩
                go_wp2
                refine bodyPost_ret (v := .tuple #[.agg #[.int .i64 0, .slice none 0 0, .slice none 0 0], .agg #[.int .i64 0, .int .i64 0, .int .i64 0], .int .i64 9]) (by simp [results, Tryz.results9, go_sem, s0, s1, s2, g0, g1, g2]) rfl ?_
                exact DropPost.err hne.out ((((((hTu.below.setCell (p := ⟨w.heap.size + 2, 0, none⟩) (Nat.le_add_right _ _) _).setCell (p := ⟨w.heap.size + 2, 1, none⟩) (Nat.le_add_right _ _) _).setCell (p := ⟨w.heap.size + 2, 2, none⟩) (Nat.le_add_right _ _) _).setCell (p := ⟨w.heap.size + 3, 0, none⟩) (Nat.le_add_right _ _) _).setCell (p := ⟨w.heap.size + 3, 1, none⟩) (Nat.le_add_right _ _) _).setCell (p := ⟨w.heap.size + 3, 2, none⟩) (Nat.le_add_right _ _) _)
              | false =>
                go_wp2
                go_roundw
                case rel => exact ⟨q + 1, by go_num, hltqh.out, hBq.trans (hbu.mono hBq.size), fun j hj => by
                  by_cases hj2 : j < q
                  · exact hno.out j hj2
                  · obtain rfl : j = q := by omega
                    exact hcc.out⟩
                case measure => have := hltqh.out; simp [intOf]; omega
            · have hnq : ¬ (q : Int) < sn := by omega
              have hE0 : Hid (dropE vid k rs sn ss c m = 0) := hE2.out.trans (if_neg (by
                have : anyAt sn (siB ss c m) = false := by
                  unfold anyAt
                  rw [List.any_eq_false]
                  intro j hj
                  rw [hno.out j (by have := List.mem_range.1 hj; omega)]
                  decide
                rw [this]; decide))
              obtain ⟨xq, cq, rfl, -⟩ := hqq.rs
              have e0 : wr.cell? ⟨w5.heap.size, 0, none⟩ = some (.int .i64 vid) := (box_cells hToq.ho).1 0
              have e1 : wr.cell? ⟨w5.heap.size, 1, none⟩ = some (.slice xq qs.length cq) := (box_cells hToq.ho).1 1
              have e2 : wr.cell? ⟨w5.heap.size, 2, none⟩ = some (.slice xt ts.length ct) := (box_cells hToq.ho).1 2
              have y0 : wr.cell? ⟨w5.heap.size + 1, 0, none⟩ = some (.int .i64 gg.a) := (box_cells hgq).1 0
              have y1 : wr.cell? ⟨w5.heap.size + 1, 1, none⟩ = some (.int .i64 gg.l) := (box_cells hgq).1 1
              have y2 : wr.cell? ⟨w5.heap.size + 1, 2, none⟩ = some (.int .i64 gg.p) := (box_cells hgq).1 2
              go_upto_region 20 with fail
              go_region_held3 (fun w' => w'.cell? ⟨w5.heap.size, 0, none⟩ = some (.int .i64 vid) ∧ w'.cell? ⟨w5.heap.size, 1, none⟩ = some (.slice xq qs.length cq) ∧ w'.cell? ⟨w5.heap.size, 2, none⟩ = some (.slice xt ts.length ct) ∧ w'.cell? ⟨w5.heap.size + 1, 0, none⟩ = some (.int .i64 gg.a) ∧ w'.cell? ⟨w5.heap.size + 1, 1, none⟩ = some (.int .i64 gg.l) ∧ w'.cell? ⟨w5.heap.size + 1, 2, none⟩ = some (.int .i64 gg.p)) (first | (refine ⟨?_, ?_, ?_, ?_, ?_, ?_⟩ <;> ((try rw [drew_cell]); (repeat rw [cell_set_ne (by omega)]); assumption))) (fail)
              all_goals go_wp2
              have hOSe := OSs.later hOS hToq.below
              have hp2 : w.heap.size + 2 < w1.heap.size := by omega
              have hp3 : w.heap.size + 3 < w1.heap.size := by omega
              have hr2 : w.heap.size + 2 < w5.heap.size + 2 := by omega
              have hr3 : w.heap.size + 3 < w5.heap.size + 2 := by omega
              have hfi := Below.drew ((((((hTq.below.setCell (p := ⟨w.heap.size + 2, 0, none⟩) (Nat.le_add_right _ _) (.int .i64 vid)).setCell (p := ⟨w.heap.size + 2, 1, none⟩) (Nat.le_add_right _ _) (.slice xq qs.length cq)).setCell (p := ⟨w.heap.size + 2, 2, none⟩) (Nat.le_add_right _ _) (.slice xt ts.length ct)).setCell (p := ⟨w.heap.size + 3, 0, none⟩) (Nat.le_add_right _ _) (.int .i64 gg.a)).setCell (p := ⟨w.heap.size + 3, 1, none⟩) (Nat.le_add_right _ _) (.int .i64 gg.l)).setCell (p := ⟨w.heap.size + 3, 2, none⟩) (Nat.le_add_right _ _) (.int .i64 gg.p))
              have hor := OwnR.drew ((((((hqq.put (o := 0) (u := .int .i64 vid) hr2).put (o := 1) (u := .slice xq qs.length cq) hr2).put (o := 2) (u := .slice xt ts.length ct) hr2).put (o := 0) (u := .int .i64 gg.a) hr3).put (o := 1) (u := .int .i64 gg.l) hr3).put (o := 2) (u := .int .i64 gg.p) hr3)
              have hos := OSs.later ((((((hOSe.put (o := 0) (u := .int .i64 vid) hp2).put (o := 1) (u := .slice xq qs.length cq) hp2).put (o := 2) (u := .slice xt ts.length ct) hp2).put (o := 0) (u := .int .i64 gg.a) hp3).put (o := 1) (u := .int .i64 gg.l) hp3).put (o := 2) (u := .int .i64 gg.p) hp3) (Below.refl _ _).drew
              all_goals refine bodyPost_ret (v := .tuple #[.agg #[.int .i64 vid, .slice xq qs.length cq, .slice xt ts.length ct], .agg #[.int .i64 gg.a, .int .i64 gg.l, .int .i64 gg.p], .int .i64 0]) (by simp [results, Tryz.results9, go_sem, s0, s1, s2, g0, g1, g2]) rfl ?_
              all_goals exact ⟨_, gg, by rw [hE0.out], hfi, fun h => absurd hE0.out h, fun _ => ⟨ts, _, hss, hfin.out.1, hfin.out.2.1, hfin.out.2.2.1, hfin.out.2.2.2.1, by rw [← hfin.out.2.2.2.2]; exact NV.of hor hos⟩⟩
  · have hck := checkVpc_is vid rx rn rc rs sx sn sc ss _ rfl w0 (hv.later hT0.below) hrn hsn
    have hne : dropE vid rn rs sn ss c m = chkV vid rn rs sn ss ∧ chkV vid rn rs sn ss ≠ 0 := ⟨if_pos hc0, hc0⟩
    go_wp2_with fail
    refine (hck).mono ?_
    rintro e w1 ⟨rfl, hbw1⟩
    have hT1 := hT0.later hbw1
    clear b0 b1 b2 p0 p1 s0 zs0 s1 zs1 s2 zs2 g0 zg0 g1 zg1 g2 zg2
    have b0 : w1.cell? ⟨w.heap.size, 0, none⟩ = some (.int .i64 vid) := (box_cells hT1.hb).1 0
    have b1 : w1.cell? ⟨w.heap.size, 1, none⟩ = some (.slice rx rn rc) := (box_cells hT1.hb).1 1
    have b2 : w1.cell? ⟨w.heap.size, 2, none⟩ = some (.slice sx sn sc) := (box_cells hT1.hb).1 2
    have p0 : w1.cell? ⟨w.heap.size + 1, 0, none⟩ = some (.int .i64 c) := (box_cells hT1.hp).1 0
    have p1 : w1.cell? ⟨w.heap.size + 1, 1, none⟩ = some (.int .i64 m) := (box_cells hT1.hp).1 1
    have s0 : w1.cell? ⟨w.heap.size + 2, 0, none⟩ = some (.int .i64 0) := (box_cells hT1.hs).1 0
    have zs0 : w1.frozen? ⟨w.heap.size + 2, 0, none⟩ = false := (box_cells hT1.hs).2 0
    have s1 : w1.cell? ⟨w.heap.size + 2, 1, none⟩ = some (.slice none 0 0) := (box_cells hT1.hs).1 1
    have zs1 : w1.frozen? ⟨w.heap.size + 2, 1, none⟩ = false := (box_cells hT1.hs).2 1
    have s2 : w1.cell? ⟨w.heap.size + 2, 2, none⟩ = some (.slice none 0 0) := (box_cells hT1.hs).1 2
    have zs2 : w1.frozen? ⟨w.heap.size + 2, 2, none⟩ = false := (box_cells hT1.hs).2 2
    have g0 : w1.cell? ⟨w.heap.size + 3, 0, none⟩ = some (.int .i64 0) := (box_cells hT1.hg).1 0
    have zg0 : w1.frozen? ⟨w.heap.size + 3, 0, none⟩ = false := (box_cells hT1.hg).2 0
    have g1 : w1.cell? ⟨w.heap.size + 3, 1, none⟩ = some (.int .i64 0) := (box_cells hT1.hg).1 1
    have zg1 : w1.frozen? ⟨w.heap.size + 3, 1, none⟩ = false := (box_cells hT1.hg).2 1
    have g2 : w1.cell? ⟨w.heap.size + 3, 2, none⟩ = some (.int .i64 0) := (box_cells hT1.hg).1 2
    have zg2 : w1.frozen? ⟨w.heap.size + 3, 2, none⟩ = false := (box_cells hT1.hg).2 2
    go_wp2
    refine bodyPost_ret (v := .tuple #[.agg #[.int .i64 0, .slice none 0 0, .slice none 0 0], .agg #[.int .i64 0, .int .i64 0, .int .i64 0], .int .i64 (chkV vid rn rs sn ss)]) (by simp [results, Tryz.results9, go_sem, s0, s1, s2, g0, g1, g2]) rfl ?_
    exact DropPost.err hne ((((((hT1.below.setCell (p := ⟨w.heap.size + 2, 0, none⟩) (Nat.le_add_right _ _) _).setCell (p := ⟨w.heap.size + 2, 1, none⟩) (Nat.le_add_right _ _) _).setCell (p := ⟨w.heap.size + 2, 2, none⟩) (Nat.le_add_right _ _) _).setCell (p := ⟨w.heap.size + 3, 0, none⟩) (Nat.le_add_right _ _) _).setCell (p := ⟨w.heap.size + 3, 1, none⟩) (Nat.le_add_right _ _) _).setCell (p := ⟨w.heap.size + 3, 2, none⟩) (Nat.le_add_right _ _) _)
end Go.Proofs.YtpdhipjeobchfaaGreat
/- The law VpcRanges. -/
namespace Go.Proofs.YtpdhipjeobchfaaGreat
open Go.RowKit Go.Shelf

theorem sameFs.symm {a b : List Fc} (h : sameFs a b) : sameFs b a := ⟨h.1.symm, fun i hi => by
  obtain ⟨h1, h2, h3⟩ := h.2 i (by rw [h.1]; exact hi)
  exact ⟨h1.symm, h2.symm, h3.symm⟩⟩
theorem sameSs.symm {a b : List Sb} (h : sameSs a b) : sameSs b a := ⟨h.1.symm, fun i hi => by
  obtain ⟨h1, h2, h3, h4, h5⟩ := h.2 i (by rw [h.1]; exact hi)
  exact ⟨h1.symm, h2.symm, h3.symm, h4.symm, h5.symm⟩⟩
theorem sameSs.trans {a b c : List Sb} (h : sameSs a b) (g : sameSs b c) : sameSs a c := ⟨h.1.trans g.1, fun i hi => by
  obtain ⟨h1, h2, h3, h4, h5⟩ := h.2 i hi
  obtain ⟨g1, g2, g3, g4, g5⟩ := g.2 i (by rw [← h.1]; exact hi)
  exact ⟨h1.trans g1, h2.trans g2, h3.trans g3, h4.trans g4, h5.trans g5⟩⟩
theorem NV.zero (w : World) : NV w 0 (.agg #[.int .i64 0, .slice none 0 0, .slice none 0 0]) [] [] :=
  ⟨none, 0, none, 0, rfl, ⟨by simp, by simp, ⟨rfl, fun i hi => by simp at hi⟩, ⟨rfl, fun i hi => by simp at hi, fun i hi => by simp at hi⟩⟩, by omega, by omega⟩
/-- Two networks in memory that are the same. -/
theorem sameVpcs_nv {w : World} {i : Int} {A B : Value} {rs : List Rg} {ss ts : List Sb} (hA : NV w i A rs ss) (hB : NV w i B rs ts) (hs : sameSs ss ts) :
    Calls Tryz.prog 13 #[A, B] w fun e w' => e = .returned (.bool true) ∧ Below w.heap.size w w' := by
  obtain ⟨rx, rc, sx, sc, rfl, hv, h1, h2⟩ := hA
  obtain ⟨ry, rd, sy, sd, rfl, hu, h3, h4⟩ := hB
  rw [← hs.1] at hu ⊢
  exact sameVpcs_yes i rx ry rs.length rc rd rs sx sy ss.length sc sd ss ts w hv hu hs (Nat.le_trans hv.1 h1) (Nat.le_trans hv.2 h2)
def GrowKey (vid : Int) (rs : List Rg) (ss : List Sb) (r : Rg) (E i : Int) (rs' : List Rg) (ss' : List Sb) : Prop := (E ≠ 0 → i = 0 ∧ rs' = [] ∧ ss' = []) ∧ (E = 0 → i = vid ∧ PutRg r rs rs' ∧ sameSs ss ss')
theorem GrowPost.nv {vid : Int} {rn : Nat} {rs : List Rg} {sn : Nat} {ss : List Sb} {r : Rg} {w w' : World} {e : Ending} (h : GrowPost vid rn rs sn ss r w e w') :
    ∃ i V rs' ss', e = .returned (.tuple #[V, .int .i64 (growE vid rn rs sn ss r)]) ∧ Below w.heap.size w w' ∧ NV w' i V rs' ss' ∧ GrowKey vid rs ss r (growE vid rn rs sn ss r) i rs' ss' := by
  obtain ⟨V, he, hb, hz, hk⟩ := h
  by_cases h0 : growE vid rn rs sn ss r = 0
  · obtain ⟨rs', ss', h1, h2, h3⟩ := hk h0
    exact ⟨vid, V, rs', ss', he, hb, h1, fun h => absurd h0 h, fun _ => ⟨rfl, h2, h3⟩⟩
  · obtain rfl := hz h0
    exact ⟨0, _, [], [], he, hb, NV.zero _, fun _ => ⟨rfl, rfl, rfl⟩, fun h => absurd h h0⟩
theorem GrowKey.one {vid : Int} {rs : List Rg} {ss : List Sb} {r : Rg} {E i j : Int} {rs1 rs2 : List Rg} {ss1 ss2 : List Sb} (h : GrowKey vid rs ss r E i rs1 ss1) (g : GrowKey vid rs ss r E j rs2 ss2) : i = j ∧ rs1 = rs2 ∧ sameSs ss1 ss2 := by
  by_cases h0 : E = 0
  · obtain ⟨a1, a2, a3⟩ := h.2 h0
    obtain ⟨b1, b2, b3⟩ := g.2 h0
    exact ⟨a1.trans b1.symm, (putRg_is.1 a2).one (putRg_is.1 b2), a3.symm.trans b3⟩
  · obtain ⟨a1, a2, a3⟩ := h.1 h0
    obtain ⟨b1, b2, b3⟩ := g.1 h0
    exact ⟨a1.trans b1.symm, a2.trans b2.symm, by rw [a3, b3]; exact sameSs.refl _⟩
def DropKey (vid : Int) (rn : Nat) (rs : List Rg) (ss : List Sb) (c m E i : Int) (g : Rg) (rs' : List Rg) (ss' : List Sb) : Prop :=
  (E ≠ 0 → i = 0 ∧ g = ⟨0, 0, 0⟩ ∧ rs' = [] ∧ ss' = []) ∧ (E = 0 → i = vid ∧ sameSs ss ss' ∧ ∃ k, k < rn ∧ rpB rs c m k = true ∧ (∀ j, j < k → rpB rs c m j = false) ∧ g = rgAt rs k ∧ rs' = rs.take k ++ rs.drop (k + 1))
theorem DropPost.nv {vid : Int} {rn : Nat} {rs : List Rg} {sn : Nat} {ss : List Sb} {c m : Int} {w w' : World} {e : Ending} (h : DropPost vid rn rs sn ss c m w e w') :
    ∃ i V g rs' ss', e = .returned (.tuple #[V, .agg #[.int .i64 (Rg.a g), .int .i64 g.l, .int .i64 g.p], .int .i64 (dropE vid rn rs sn ss c m)]) ∧ Below w.heap.size w w' ∧ NV w' i V rs' ss' ∧ DropKey vid rn rs ss c m (dropE vid rn rs sn ss c m) i g rs' ss' := by
  obtain ⟨V, g, he, hb, hz, hk⟩ := h
  by_cases h0 : dropE vid rn rs sn ss c m = 0
  · obtain ⟨ts, k, h1, h2, h3, h4, h5, h6⟩ := hk h0
    exact ⟨vid, V, g, _, ts, he, hb, h6, fun h => absurd h0 h, fun _ => ⟨rfl, h1, k, h2, h3, h4, h5, rfl⟩⟩
  · obtain ⟨rfl, rfl⟩ := hz h0
    exact ⟨0, _, _, [], [], he, hb, NV.zero _, fun _ => ⟨rfl, rfl, rfl, rfl⟩, fun h => absurd h h0⟩
theorem DropKey.one {vid : Int} {rn : Nat} {rs : List Rg} {ss : List Sb} {c m E i j : Int} {g g2 : Rg} {rs1 rs2 : List Rg} {ss1 ss2 : List Sb} (h : DropKey vid rn rs ss c m E i g rs1 ss1) (h2 : DropKey vid rn rs ss c m E j g2 rs2 ss2) : i = j ∧ g = g2 ∧ rs1 = rs2 ∧ sameSs ss1 ss2 := by
  by_cases h0 : E = 0
  · obtain ⟨a1, a2, k, a3, a4, a5, a6, a7⟩ := h.2 h0
    obtain ⟨b1, b2, q, b3, b4, b5, b6, b7⟩ := h2.2 h0
    obtain rfl : k = q := by
      rcases Nat.lt_trichotomy k q with hkq | hkq | hkq
      · have := b5 k hkq; rw [a4] at this; cases this
      · exact hkq
      · have := a5 q hkq; rw [b4] at this; cases this
    exact ⟨a1.trans b1.symm, a6.trans b6.symm, a7.trans b7.symm, a2.symm.trans b2⟩
  · obtain ⟨a1, a2, a3, a4⟩ := h.1 h0
    obtain ⟨b1, b2, b3, b4⟩ := h2.1 h0
    exact ⟨a1.trans b1.symm, a2.trans b2.symm, a3.trans b3.symm, by rw [a4, b4]; exact sameSs.refl _⟩

set_option maxRecDepth 100000 in
set_option maxHeartbeats 6400000 in
theorem vpcRanges_any (vid : Int) (rx : Option Addr) (rn rc : Nat) (rs : List Rg) (sx : Option Addr) (sn sc : Nat) (ss : List Sb) (r : Rg) (c m : Int) (w : World) (hvp : Vp w rx rn rc rs sx sn sc ss) (hrn : rn ≤ 9223372036854775807) (hsn : sn ≤ 9223372036854775807) (hrc : rc ≤ 9223372036854775807) :
    Calls Tryz.prog 3 #[.agg #[.int .i64 vid, .slice rx rn rc, .slice sx sn sc], .agg #[.int .i64 r.a, .int .i64 r.l, .int .i64 r.p], .agg #[.int .i64 c, .int .i64 m]] w fun e w' => e = .returned (.bool true) ∧ Below w.heap.size w w' := by
  go_enter Tryz.func3, Tryz.ntmps3
  go_upto_region 1 with fail
  obtain ⟨w0, hw⟩ : ∃ w0, w0 = ((w.alloc (.cells #[.int .i64 vid, .slice rx rn rc, .slice sx sn sc] 25)).alloc (.cells #[.int .i64 r.a, .int .i64 r.l, .int .i64 r.p] 29)).alloc (.cells #[.int .i64 c, .int .i64 m] 27) := ⟨_, rfl⟩
  rw [← hw]
  have hB : Below w.heap.size w w0 := by rw [hw]; exact (bl2 w _ _).alloc (by simp; omega) _
  have hv : w0.heap[w.heap.size]? = some (.cells #[.int .i64 vid, .slice rx rn rc, .slice sx sn sc] 25) := by rw [hw]; exact heap_old _ (heap_old _ (heap_new _ rfl))
  have hr : w0.heap[w.heap.size + 1]? = some (.cells #[.int .i64 r.a, .int .i64 r.l, .int .i64 r.p] 29) := by rw [hw]; exact heap_old _ (heap_new _ (by simp))
  have hp : w0.heap[w.heap.size + 2]? = some (.cells #[.int .i64 c, .int .i64 m] 27) := by rw [hw]; exact heap_new _ (by simp)
  clear hw
  have kv0 : w0.cell? ⟨w.heap.size, 0, none⟩ = some (.int .i64 vid) := (box_cells hv).1 0
  have kv1 : w0.cell? ⟨w.heap.size, 1, none⟩ = some (.slice rx rn rc) := (box_cells hv).1 1
  have kv2 : w0.cell? ⟨w.heap.size, 2, none⟩ = some (.slice sx sn sc) := (box_cells hv).1 2
  have kr0 : w0.cell? ⟨w.heap.size + 1, 0, none⟩ = some (.int .i64 r.a) := (box_cells hr).1 0
  have kr1 : w0.cell? ⟨w.heap.size + 1, 1, none⟩ = some (.int .i64 r.l) := (box_cells hr).1 1
  have kr2 : w0.cell? ⟨w.heap.size + 1, 2, none⟩ = some (.int .i64 r.p) := (box_cells hr).1 2
  go_wp2_with fail
  refine (vgrow_any vid rx rn rc rs sx sn sc ss r w0 (hvp.later hB) hrn hsn hrc).mono ?_
  intro e w1 hpost
  obtain ⟨i1, V1, rs1, ss1, rfl, hbw1, hN1, hK1⟩ := hpost.nv
  obtain ⟨x1, c1, y1, d1, hV1, hP1, hc1, hd1⟩ := hN1
  subst hV1
  have hN1 : NV w1 i1 (.agg #[.int .i64 i1, .slice x1 rs1.length c1, .slice y1 ss1.length d1]) rs1 ss1 := ⟨_, _, _, _, rfl, hP1, hc1, hd1⟩
  clear hP1 hc1 hd1
  clear kv0 kv1 kv2 kr0 kr1 kr2
  replace hv := heap_later hbw1 hv
  replace hr := heap_later hbw1 hr
  replace hp := heap_later hbw1 hp
  replace hB := hB.trans (hbw1.mono hB.size)
  go_upto_region 2 with fail
  obtain ⟨w2, hw⟩ : ∃ w2, w2 = (w1.alloc (.cells #[.int .i64 i1, .slice x1 rs1.length c1, .slice y1 ss1.length d1] 25)) := ⟨_, rfl⟩
  rw [← hw]
  have hbn : Below w1.heap.size w1 w2 := by rw [hw]; exact bl1 w1 _ 
  have ha : w2.heap[w1.heap.size]? = some (.cells #[.int .i64 i1, .slice x1 rs1.length c1, .slice y1 ss1.length d1] 25) := by rw [hw]; exact heap_new _ rfl
  clear hw
  replace hv := heap_later hbn hv
  replace hr := heap_later hbn hr
  replace hp := heap_later hbn hp
  replace hN1 := hN1.later hbn
  replace hB := hB.trans (hbn.mono hB.size)
  clear hbn
  have kv0 : w2.cell? ⟨w.heap.size, 0, none⟩ = some (.int .i64 vid) := (box_cells hv).1 0
  have kv1 : w2.cell? ⟨w.heap.size, 1, none⟩ = some (.slice rx rn rc) := (box_cells hv).1 1
  have kv2 : w2.cell? ⟨w.heap.size, 2, none⟩ = some (.slice sx sn sc) := (box_cells hv).1 2
  have kp0 : w2.cell? ⟨w.heap.size + 2, 0, none⟩ = some (.int .i64 c) := (box_cells hp).1 0
  have kp1 : w2.cell? ⟨w.heap.size + 2, 1, none⟩ = some (.int .i64 m) := (box_cells hp).1 1
  go_wp2_with fail
  refine (vdrop_any vid rx rn rc rs sx sn sc ss c m w2 (hvp.later hB) hrn hsn hrc).mono ?_
  intro e w3 hpost
  obtain ⟨i2, V2, g2, rs2, ss2, rfl, hbw3, hN2, hK2⟩ := hpost.nv
  obtain ⟨x2, c2, y2, d2, hV2, hP2, hc2, hd2⟩ := hN2
  subst hV2
  have hN2 : NV w3 i2 (.agg #[.int .i64 i2, .slice x2 rs2.length c2, .slice y2 ss2.length d2]) rs2 ss2 := ⟨_, _, _, _, rfl, hP2, hc2, hd2⟩
  clear hP2 hc2 hd2
  clear kv0 kv1 kv2 kp0 kp1
  replace hv := heap_later hbw3 hv
  replace hr := heap_later hbw3 hr
  replace hp := heap_later hbw3 hp
  replace ha := heap_later hbw3 ha
  replace hN1 := hN1.later hbw3
  replace hB := hB.trans (hbw3.mono hB.size)
  go_upto_region 3 with fail
  obtain ⟨w4, hw⟩ : ∃ w4, w4 = ((w3.alloc (.cells #[.int .i64 i2, .slice x2 rs2.length c2, .slice y2 ss2.length d2] 25)).alloc (.cells #[.int .i64 g2.a, .int .i64 g2.l, .int .i64 g2.p] 29)) := ⟨_, rfl⟩
  rw [← hw]
  have hbn : Below w3.heap.size w3 w4 := by rw [hw]; exact bl2 w3 _ _ 
  have hb : w4.heap[w3.heap.size]? = some (.cells #[.int .i64 i2, .slice x2 rs2.length c2, .slice y2 ss2.length d2] 25) := by rw [hw]; exact heap_old _ (heap_new _ rfl)
  have hq : w4.heap[w3.heap.size + 1]? = some (.cells #[.int .i64 g2.a, .int .i64 g2.l, .int .i64 g2.p] 29) := by rw [hw]; exact heap_new _ (by simp)
  clear hw
  replace hv := heap_later hbn hv
  replace hr := heap_later hbn hr
  replace hp := heap_later hbn hp
  replace ha := heap_later hbn ha
  replace hN1 := hN1.later hbn
  replace hN2 := hN2.later hbn
  replace hB := hB.trans (hbn.mono hB.size)
  clear hbn
  have kv0 : w4.cell? ⟨w.heap.size, 0, none⟩ = some (.int .i64 vid) := (box_cells hv).1 0
  have kv1 : w4.cell? ⟨w.heap.size, 1, none⟩ = some (.slice rx rn rc) := (box_cells hv).1 1
  have kv2 : w4.cell? ⟨w.heap.size, 2, none⟩ = some (.slice sx sn sc) := (box_cells hv).1 2
  have kr0 : w4.cell? ⟨w.heap.size + 1, 0, none⟩ = some (.int .i64 r.a) := (box_cells hr).1 0
  have kr1 : w4.cell? ⟨w.heap.size + 1, 1, none⟩ = some (.int .i64 r.l) := (box_cells hr).1 1
  have kr2 : w4.cell? ⟨w.heap.size + 1, 2, none⟩ = some (.int .i64 r.p) := (box_cells hr).1 2
  go_wp2_with fail
  refine (growVpc_any vid rx rn rc rs sx sn sc ss r w4 (hvp.later hB) hrn hsn).mono ?_
  intro e w5 hpost
  obtain ⟨i3, V3, rs3, ss3, rfl, hbw5, hN3, hK3⟩ := hpost.nv
  obtain ⟨x3, c3, y3, d3, hV3, hP3, hc3, hd3⟩ := hN3
  subst hV3
  have hN3 : NV w5 i3 (.agg #[.int .i64 i3, .slice x3 rs3.length c3, .slice y3 ss3.length d3]) rs3 ss3 := ⟨_, _, _, _, rfl, hP3, hc3, hd3⟩
  clear hP3 hc3 hd3
  clear kv0 kv1 kv2 kr0 kr1 kr2
  replace hv := heap_later hbw5 hv
  replace hr := heap_later hbw5 hr
  replace hp := heap_later hbw5 hp
  replace ha := heap_later hbw5 ha
  replace hb := heap_later hbw5 hb
  replace hq := heap_later hbw5 hq
  replace hN1 := hN1.later hbw5
  replace hN2 := hN2.later hbw5
  replace hB := hB.trans (hbw5.mono hB.size)
  go_upto_region 4 with fail
  obtain ⟨w6, hw⟩ : ∃ w6, w6 = (w5.alloc (.cells #[.int .i64 i3, .slice x3 rs3.length c3, .slice y3 ss3.length d3] 25)) := ⟨_, rfl⟩
  rw [← hw]
  have hbn : Below w5.heap.size w5 w6 := by rw [hw]; exact bl1 w5 _ 
  have hx : w6.heap[w5.heap.size]? = some (.cells #[.int .i64 i3, .slice x3 rs3.length c3, .slice y3 ss3.length d3] 25) := by rw [hw]; exact heap_new _ rfl
  clear hw
  replace hv := heap_later hbn hv
  replace hr := heap_later hbn hr
  replace hp := heap_later hbn hp
  replace ha := heap_later hbn ha
  replace hb := heap_later hbn hb
  replace hq := heap_later hbn hq
  replace hN1 := hN1.later hbn
  replace hN2 := hN2.later hbn
  replace hN3 := hN3.later hbn
  replace hB := hB.trans (hbn.mono hB.size)
  clear hbn
  have kv0 : w6.cell? ⟨w.heap.size, 0, none⟩ = some (.int .i64 vid) := (box_cells hv).1 0
  have kv1 : w6.cell? ⟨w.heap.size, 1, none⟩ = some (.slice rx rn rc) := (box_cells hv).1 1
  have kv2 : w6.cell? ⟨w.heap.size, 2, none⟩ = some (.slice sx sn sc) := (box_cells hv).1 2
  have kp0 : w6.cell? ⟨w.heap.size + 2, 0, none⟩ = some (.int .i64 c) := (box_cells hp).1 0
  have kp1 : w6.cell? ⟨w.heap.size + 2, 1, none⟩ = some (.int .i64 m) := (box_cells hp).1 1
  go_wp2_with fail
  refine (dropVpc_any vid rx rn rc rs sx sn sc ss c m w6 (hvp.later hB) hrn hsn).mono ?_
  intro e w7 hpost
  obtain ⟨i4, V4, g4, rs4, ss4, rfl, hbw7, hN4, hK4⟩ := hpost.nv
  obtain ⟨x4, c4, y4, d4, hV4, hP4, hc4, hd4⟩ := hN4
  subst hV4
  have hN4 : NV w7 i4 (.agg #[.int .i64 i4, .slice x4 rs4.length c4, .slice y4 ss4.length d4]) rs4 ss4 := ⟨_, _, _, _, rfl, hP4, hc4, hd4⟩
  clear hP4 hc4 hd4
  clear kv0 kv1 kv2 kp0 kp1
  replace hv := heap_later hbw7 hv
  replace hr := heap_later hbw7 hr
  replace hp := heap_later hbw7 hp
  replace ha := heap_later hbw7 ha
  replace hb := heap_later hbw7 hb
  replace hq := heap_later hbw7 hq
  replace hx := heap_later hbw7 hx
  replace hN1 := hN1.later hbw7
  replace hN2 := hN2.later hbw7
  replace hN3 := hN3.later hbw7
  replace hB := hB.trans (hbw7.mono hB.size)
  go_upto_region 5 with fail
  obtain ⟨w8, hw⟩ : ∃ w8, w8 = ((w7.alloc (.cells #[.int .i64 i4, .slice x4 rs4.length c4, .slice y4 ss4.length d4] 25)).alloc (.cells #[.int .i64 g4.a, .int .i64 g4.l, .int .i64 g4.p] 29)) := ⟨_, rfl⟩
  rw [← hw]
  have hbn : Below w7.heap.size w7 w8 := by rw [hw]; exact bl2 w7 _ _ 
  have hy : w8.heap[w7.heap.size]? = some (.cells #[.int .i64 i4, .slice x4 rs4.length c4, .slice y4 ss4.length d4] 25) := by rw [hw]; exact heap_old _ (heap_new _ rfl)
  have hz : w8.heap[w7.heap.size + 1]? = some (.cells #[.int .i64 g4.a, .int .i64 g4.l, .int .i64 g4.p] 29) := by rw [hw]; exact heap_new _ (by simp)
  clear hw
  replace hv := heap_later hbn hv
  replace hr := heap_later hbn hr
  replace hp := heap_later hbn hp
  replace ha := heap_later hbn ha
  replace hb := heap_later hbn hb
  replace hq := heap_later hbn hq
  replace hx := heap_later hbn hx
  replace hN1 := hN1.later hbn
  replace hN2 := hN2.later hbn
  replace hN3 := hN3.later hbn
  replace hN4 := hN4.later hbn
  replace hB := hB.trans (hbn.mono hB.size)
  clear hbn
  obtain ⟨rfl, rfl, hs13⟩ := hK1.one hK3
  obtain ⟨rfl, rfl, rfl, hs24⟩ := hK2.one hK4
  have hbg := fun u : Ws w8.heap.size w8 => Calls.in_ws (n := w8.heap.size) (w := w8) (u := u) (Nat.le_refl _) (vpcBegun_any u.val)
  have hck := fun u : Ws w8.heap.size w8 => Calls.in_ws (n := w8.heap.size) (w := w8) (u := u) (Nat.le_refl _) (checkV_any vid rx rn rc rs sx sn sc ss u.val ((hvp.later hB).later u.property) hrn hsn hrc)
  have hcr := fun u : Ws w8.heap.size w8 => Calls.in_ws (n := w8.heap.size) (w := w8) (u := u) (Nat.le_refl _) (checkVpc_is vid rx rn rc rs sx sn sc ss _ rfl u.val ((hvp.later hB).later u.property) hrn hsn)
  have hs1 := fun u : Ws w8.heap.size w8 => Calls.in_ws (n := w8.heap.size) (w := w8) (u := u) (Nat.le_refl _) (sameVpcs_nv (hN1.later u.property) (hN3.later u.property) hs13)
  have hs2 := fun u : Ws w8.heap.size w8 => Calls.in_ws (n := w8.heap.size) (w := w8) (u := u) (Nat.le_refl _) (sameVpcs_nv (hN2.later u.property) (hN4.later u.property) hs24)
  generalize growE vid rn rs sn ss r = E1 at *
  generalize dropE vid rn rs sn ss c m = E2 at *
  generalize chkV vid rn rs sn ss = E0 at *
  have kv0 := Ws.here (show w8.cell? ⟨w.heap.size, 0, none⟩ = some (.int .i64 vid) from (box_cells hv).1 0)
  have kv1 := Ws.here (show w8.cell? ⟨w.heap.size, 1, none⟩ = some (.slice rx rn rc) from (box_cells hv).1 1)
  have kv2 := Ws.here (show w8.cell? ⟨w.heap.size, 2, none⟩ = some (.slice sx sn sc) from (box_cells hv).1 2)
  have ka0 := Ws.here (show w8.cell? ⟨w1.heap.size, 0, none⟩ = some (.int .i64 i1) from (box_cells ha).1 0)
  have ka1 := Ws.here (show w8.cell? ⟨w1.heap.size, 1, none⟩ = some (.slice x1 rs1.length c1) from (box_cells ha).1 1)
  have ka2 := Ws.here (show w8.cell? ⟨w1.heap.size, 2, none⟩ = some (.slice y1 ss1.length d1) from (box_cells ha).1 2)
  have kb0 := Ws.here (show w8.cell? ⟨w3.heap.size, 0, none⟩ = some (.int .i64 i2) from (box_cells hb).1 0)
  have kb1 := Ws.here (show w8.cell? ⟨w3.heap.size, 1, none⟩ = some (.slice x2 rs2.length c2) from (box_cells hb).1 1)
  have kb2 := Ws.here (show w8.cell? ⟨w3.heap.size, 2, none⟩ = some (.slice y2 ss2.length d2) from (box_cells hb).1 2)
  have kq0 := Ws.here (show w8.cell? ⟨w3.heap.size + 1, 0, none⟩ = some (.int .i64 g2.a) from (box_cells hq).1 0)
  have kq1 := Ws.here (show w8.cell? ⟨w3.heap.size + 1, 1, none⟩ = some (.int .i64 g2.l) from (box_cells hq).1 1)
  have kq2 := Ws.here (show w8.cell? ⟨w3.heap.size + 1, 2, none⟩ = some (.int .i64 g2.p) from (box_cells hq).1 2)
  have kx0 := Ws.here (show w8.cell? ⟨w5.heap.size, 0, none⟩ = some (.int .i64 i1) from (box_cells hx).1 0)
  have kx1 := Ws.here (show w8.cell? ⟨w5.heap.size, 1, none⟩ = some (.slice x3 rs1.length c3) from (box_cells hx).1 1)
  have kx2 := Ws.here (show w8.cell? ⟨w5.heap.size, 2, none⟩ = some (.slice y3 ss3.length d3) from (box_cells hx).1 2)
  have ky0 := Ws.here (show w8.cell? ⟨w7.heap.size, 0, none⟩ = some (.int .i64 i2) from (box_cells hy).1 0)
  have ky1 := Ws.here (show w8.cell? ⟨w7.heap.size, 1, none⟩ = some (.slice x4 rs2.length c4) from (box_cells hy).1 1)
  have ky2 := Ws.here (show w8.cell? ⟨w7.heap.size, 2, none⟩ = some (.slice y4 ss4.length d4) from (box_cells hy).1 2)
  have kz0 := Ws.here (show w8.cell? ⟨w7.heap.size + 1, 0, none⟩ = some (.int .i64 g2.a) from (box_cells hz).1 0)
  have kz1 := Ws.here (show w8.cell? ⟨w7.heap.size + 1, 1, none⟩ = some (.int .i64 g2.l) from (box_cells hz).1 1)
  have kz2 := Ws.here (show w8.cell? ⟨w7.heap.size + 1, 2, none⟩ = some (.int .i64 g2.p) from (box_cells hz).1 2)
  clear hv hr hp ha hb hq hx hy hz hN1 hN2 hN3 hN4 hK1 hK2 hK3 hK4 hs13 hs24
  refine wp_region_ws w8.heap.size (by kernel_rfl) (by kernel_rfl) ?_
  repeat (go_big_quiet_step (first | (go_at_call 10; exact hbg _) | (go_at_call 11; exact hck _) | (go_at_call 12; exact hcr _) | (go_at_call_of 13 x1; exact hs1 _) | (go_at_call_of 13 x2; exact hs2 _)))
  refine wpQuiet_nil ?_
  rintro _ ⟨u, rfl⟩
  have hbu := u.property
  generalize u.val = wu at hbu ⊢
  go_wp2
  go_ret
  exact ⟨rfl, hB.trans (hbu.mono hB.size)⟩
end Go.Proofs.YtpdhipjeobchfaaGreat
/- What SubVpc of the reference comes to. -/
namespace Go.Proofs.YtpdhipjeobchfaaGreat
open Go.RowKit Go.Shelf

theorem putSb_is {e : Sb} {qs rs : List Sb} : PutSb e qs rs ↔ PutG e (fun j => decide (e.id < (sbAt qs j).id)) qs rs := by
  unfold PutSb PutG
  simp
theorem sbAt_some {rs : List Sb} {k : Nat} (h : k < rs.length) : rs[k]? = some (sbAt rs k) := by
  unfold sbAt
  rw [List.getD_eq_getElem?_getD, List.getElem?_eq_getElem h]
  rfl
theorem InsG.mem {α : Type} {e : α} {gt : Nat → Bool} {xs qs : List α} {k : Nat} {d : Bool} (h : InsG e gt xs k d qs) : ∀ q ∈ qs, q = e ∨ q ∈ xs := fun q hq => by
  cases d with
  | true =>
    obtain ⟨i, -, -, -, h4⟩ := h.1 rfl
    rw [h4] at hq
    simp only [List.mem_append, List.mem_singleton] at hq
    rcases hq with (hq | hq) | hq
    · exact .inr (List.mem_of_mem_take hq)
    · exact .inl hq
    · exact .inr (List.mem_of_mem_take (List.mem_of_mem_drop hq))
  | false =>
    rw [(h.2 rfl).2] at hq
    exact .inr (List.mem_of_mem_take hq)
/-- The box of the network that is being made, from the call of OwnVpc on. -/
structure TSo (w5 W : World) (vid : Int) (vR vX : Value) : Prop where
  ho : W.heap[w5.heap.size]? = some (vpB vid vR vX)
  below : Below w5.heap.size w5 W
theorem TSo.put {w5 W : World} {vid : Int} {vR vX u : Value} (h : TSo w5 W vid vR vX) : TSo w5 (W.setCell ⟨w5.heap.size, 2, none⟩ u) vid vR u := by
  refine ⟨?_, h.below.setCell (p := ⟨w5.heap.size, 2, none⟩) (Nat.le_refl _) _⟩
  have := heap_setCell_same W w5.heap.size 2 _ 25 u h.ho
  simpa using this
theorem TSo.later {w5 W W' : World} {vid : Int} {vR vX : Value} (h : TSo w5 W vid vR vX) (hb : Below W.heap.size W W') : TSo w5 W' vid vR vX := ⟨heap_later hb h.ho, h.below.trans (hb.mono h.below.size)⟩
theorem TSo.grown {w5 W W' : World} {vid : Int} {vR vX : Value} {qs : List Sb} (h : TSo w5 W vid vR vX) (hq : OwnS W (w5.heap.size + 1) vX qs) (hg : W.grownBy W' vX.ownBlock) : TSo w5 W' vid vR vX :=
  ⟨grown_keep hg (hq.ne h.ho (by decide)) h.ho, below_grownr h.below hg (fun q e => by have := (hq.lt q e).1; omega)⟩
theorem sbs_cells (W : World) (r : Sb) : ∀ j u, (flatS [r])[j]? = some u → (W.alloc (.cells #[.int .i64 r.id, .int .i64 r.a, .int .i64 r.l, .slice r.x r.n r.c] 55)).cell? (Addr.add ⟨W.heap.size, 0, none⟩ j) = some u := fun j u hj => by
  have hn := heap_new (W := W) (.cells #[.int .i64 r.id, .int .i64 r.a, .int .i64 r.l, .slice r.x r.n r.c] 55) rfl
  rw [addr_add, Nat.zero_add]
  exact ((box_cells hn).1 j).trans (by rw [List.getElem?_toArray]; exact hj)
/-- Is the k-th subnet in the way of a new one? -/
def hitB (ss : List Sb) (id c m : Int) (k : Nat) : Bool := decide ((sbAt ss k).id = id) || mts (sbAt ss k).a (sbAt ss k).l c m
theorem hit_iff {sn : Nat} {ss : List Sb} {id c m : Int} : (0 ≤ fstAt sn (fun i => (sbAt ss i).id == id) ∨ anyAt sn (smB ss c m) = true) ↔ anyAt sn (hitB ss id c m) = true := by
  constructor
  · rintro (h | h)
    · rcases fstAt_cases sn (fun i => (sbAt ss i).id == id) with ⟨i, hi, hf, -⟩ | ⟨-, hf⟩
      · exact List.any_eq_true.2 ⟨i, List.mem_range.2 hi, by unfold hitB; simp at hf; simp [hf]⟩
      · rw [hf] at h; omega
    · obtain ⟨i, hi, hf⟩ := anyAt_ex h
      exact List.any_eq_true.2 ⟨i, List.mem_range.2 hi, by unfold hitB; unfold smB at hf; simp [hf]⟩
  · intro h
    obtain ⟨i, hi, hf⟩ := anyAt_ex h
    unfold hitB at hf
    rw [Bool.or_eq_true] at hf
    rcases hf with hf | hf
    · left
      rcases fstAt_cases sn (fun i => (sbAt ss i).id == id) with ⟨q, hq, -, -, hfq⟩ | ⟨hno, -⟩
      · rw [hfq]; omega
      · have := hno i hi
        simp at this hf
        exact absurd hf this
    · exact .inr (List.any_eq_true.2 ⟨i, List.mem_range.2 hi, hf⟩)

set_option maxRecDepth 100000 in
set_option maxHeartbeats 6400000 in
theorem subVpc_any (vid : Int) (rx : Option Addr) (rn rc : Nat) (rs : List Rg) (sx : Option Addr) (sn sc : Nat) (ss : List Sb) (id c m : Int) (w : World) (hv : Vp w rx rn rc rs sx sn sc ss) (hrn : rn ≤ 9223372036854775807) (hsn : sn ≤ 9223372036854775807) :
    Calls Tryz.prog 16 #[.agg #[.int .i64 vid, .slice rx rn rc, .slice sx sn sc], .int .i64 id, .agg #[.int .i64 c, .int .i64 m]] w (VPost (subE vid rn rs sn ss id c m) (SubR vid rs ss id c m) w) := by
  have hsl : Hid (ss.length = sn) := hv.subs.len
  go_enter Tryz.func16, Tryz.ntmps16
  go_upto_region 1 with fail
  obtain ⟨w0, hw0⟩ : ∃ w0, w0 = ((w.alloc (vpB vid (.slice rx rn rc) (.slice sx sn sc))).alloc (.cells #[.int .i64 c, .int .i64 m] 27)).alloc (vpB 0 (.slice none 0 0) (.slice none 0 0)) := ⟨_, rfl⟩
  rw [← hw0]
  have hT0 : TU w w0 vid rx rn rc sx sn sc c m := by
    rw [hw0]
    exact ⟨heap_old _ (heap_old _ (heap_new _ rfl)), heap_old _ (heap_new _ (by simp)), heap_new _ (by simp), (bl2 w _ _).alloc (by simp; omega) _⟩
  clear hw0
  have b0 : w0.cell? ⟨w.heap.size, 0, none⟩ = some (.int .i64 vid) := (box_cells hT0.hb).1 0
  have b1 : w0.cell? ⟨w.heap.size, 1, none⟩ = some (.slice rx rn rc) := (box_cells hT0.hb).1 1
  have b2 : w0.cell? ⟨w.heap.size, 2, none⟩ = some (.slice sx sn sc) := (box_cells hT0.hb).1 2
  have p0 : w0.cell? ⟨w.heap.size + 1, 0, none⟩ = some (.int .i64 c) := (box_cells hT0.hp).1 0
  have p1 : w0.cell? ⟨w.heap.size + 1, 1, none⟩ = some (.int .i64 m) := (box_cells hT0.hp).1 1
  have s0 : w0.cell? ⟨w.heap.size + 2, 0, none⟩ = some (.int .i64 0) := (box_cells hT0.hs).1 0
  have zs0 : w0.frozen? ⟨w.heap.size + 2, 0, none⟩ = false := (box_cells hT0.hs).2 0
  have s1 : w0.cell? ⟨w.heap.size + 2, 1, none⟩ = some (.slice none 0 0) := (box_cells hT0.hs).1 1
  have zs1 : w0.frozen? ⟨w.heap.size + 2, 1, none⟩ = false := (box_cells hT0.hs).2 1
  have s2 : w0.cell? ⟨w.heap.size + 2, 2, none⟩ = some (.slice none 0 0) := (box_cells hT0.hs).1 2
  have zs2 : w0.frozen? ⟨w.heap.size + 2, 2, none⟩ = false := (box_cells hT0.hs).2 2
  by_cases hc0 : chkV vid rn rs sn ss = 0
  · have hck := checkVpc_is vid rx rn rc rs sx sn sc ss 0 hc0 w0 (hv.later hT0.below) hrn hsn
    obtain ⟨f1, f2, f3, f4⟩ := chkV_few hc0
    have hE1 : Hid (subE vid rn rs sn ss id c m = if subB rn rs id c m = false then 3 else if 0 ≤ fstAt sn (fun i => (sbAt ss i).id == id) ∨ anyAt sn (smB ss c m) = true then 6 else if sn = 6 then 2 else 0) := if_neg (c := chkV vid rn rs sn ss ≠ 0) (by simp [hc0])
    clear hc0
    go_wp2_with fail
    refine (hck).mono ?_
    rintro e w1 ⟨rfl, hbw1⟩
    have hT1 := hT0.later hbw1
    clear b0 b1 b2 p0 p1 s0 zs0 s1 zs1 s2 zs2
    have b0 : w1.cell? ⟨w.heap.size, 0, none⟩ = some (.int .i64 vid) := (box_cells hT1.hb).1 0
    have b1 : w1.cell? ⟨w.heap.size, 1, none⟩ = some (.slice rx rn rc) := (box_cells hT1.hb).1 1
    have b2 : w1.cell? ⟨w.heap.size, 2, none⟩ = some (.slice sx sn sc) := (box_cells hT1.hb).1 2
    have p0 : w1.cell? ⟨w.heap.size + 1, 0, none⟩ = some (.int .i64 c) := (box_cells hT1.hp).1 0
    have p1 : w1.cell? ⟨w.heap.size + 1, 1, none⟩ = some (.int .i64 m) := (box_cells hT1.hp).1 1
    have s0 : w1.cell? ⟨w.heap.size + 2, 0, none⟩ = some (.int .i64 0) := (box_cells hT1.hs).1 0
    have zs0 : w1.frozen? ⟨w.heap.size + 2, 0, none⟩ = false := (box_cells hT1.hs).2 0
    have s1 : w1.cell? ⟨w.heap.size + 2, 1, none⟩ = some (.slice none 0 0) := (box_cells hT1.hs).1 1
    have zs1 : w1.frozen? ⟨w.heap.size + 2, 1, none⟩ = false := (box_cells hT1.hs).2 1
    have s2 : w1.cell? ⟨w.heap.size + 2, 2, none⟩ = some (.slice none 0 0) := (box_cells hT1.hs).1 2
    have zs2 : w1.frozen? ⟨w.heap.size + 2, 2, none⟩ = false := (box_cells hT1.hs).2 2
    cases hwi : wth id 1 65536 with
    | false =>
      have hne : Hid (subE vid rn rs sn ss id c m = 3 ∧ (3 : Int) ≠ 0) := ⟨hE1.out.trans (if_pos (by unfold subB; rw [hwi]; rfl)), by decide⟩
      have hwj := within_at id 1 65536 false hwi w1
      clear hwi
      go_wp2_with fail
      refine hwj.mono ?_
      rintro e w3 ⟨rfl, rfl⟩
      clear hwj
      go_wp2
      refine bodyPost_ret (v := .tuple #[.agg #[.int .i64 0, .slice none 0 0, .slice none 0 0], .int .i64 3]) (by simp [results, Tryz.results16, go_sem, s0, s1, s2]) rfl ?_
      exact VPost.err hne.out (((hT1.below.setCell (p := ⟨w.heap.size + 2, 0, none⟩) (Nat.le_add_right _ _) _).setCell (p := ⟨w.heap.size + 2, 1, none⟩) (Nat.le_add_right _ _) _).setCell (p := ⟨w.heap.size + 2, 2, none⟩) (Nat.le_add_right _ _) _)
    | true =>
      have hwj := within_at id 1 65536 true hwi w1
      go_wp2_with fail
      refine hwj.mono ?_
      rintro e w3 ⟨rfl, rfl⟩
      clear hwj
      cases hri : anyAt rn (riB rs c m) with
      | false =>
        have hne : Hid (subE vid rn rs sn ss id c m = 3 ∧ (3 : Int) ≠ 0) := ⟨hE1.out.trans (if_pos (by unfold subB; rw [hwi, hri]; rfl)), by decide⟩
        have hrj := inRange_is vid c m rx rn rc rs sx sn sc false hri w3 (hv.later hT1.below).ranges (by omega)
        clear hri hwi
        go_wp2_with fail
        refine (hrj).mono ?_
        rintro e w2 ⟨rfl, hbw2⟩
        have hT2 := hT1.later hbw2
        clear b0 b1 b2 p0 p1 s0 zs0 s1 zs1 s2 zs2
        have b0 : w2.cell? ⟨w.heap.size, 0, none⟩ = some (.int .i64 vid) := (box_cells hT2.hb).1 0
        have b1 : w2.cell? ⟨w.heap.size, 1, none⟩ = some (.slice rx rn rc) := (box_cells hT2.hb).1 1
        have b2 : w2.cell? ⟨w.heap.size, 2, none⟩ = some (.slice sx sn sc) := (box_cells hT2.hb).1 2
        have p0 : w2.cell? ⟨w.heap.size + 1, 0, none⟩ = some (.int .i64 c) := (box_cells hT2.hp).1 0
        have p1 : w2.cell? ⟨w.heap.size + 1, 1, none⟩ = some (.int .i64 m) := (box_cells hT2.hp).1 1
        have s0 : w2.cell? ⟨w.heap.size + 2, 0, none⟩ = some (.int .i64 0) := (box_cells hT2.hs).1 0
        have zs0 : w2.frozen? ⟨w.heap.size + 2, 0, none⟩ = false := (box_cells hT2.hs).2 0
        have s1 : w2.cell? ⟨w.heap.size + 2, 1, none⟩ = some (.slice none 0 0) := (box_cells hT2.hs).1 1
        have zs1 : w2.frozen? ⟨w.heap.size + 2, 1, none⟩ = false := (box_cells hT2.hs).2 1
        have s2 : w2.cell? ⟨w.heap.size + 2, 2, none⟩ = some (.slice none 0 0) := (box_cells hT2.hs).1 2
        have zs2 : w2.frozen? ⟨w.heap.size + 2, 2, none⟩ = false := (box_cells hT2.hs).2 2
        go_wp2
        refine bodyPost_ret (v := .tuple #[.agg #[.int .i64 0, .slice none 0 0, .slice none 0 0], .int .i64 3]) (by simp [results, Tryz.results16, go_sem, s0, s1, s2]) rfl ?_
        exact VPost.err hne.out (((hT2.below.setCell (p := ⟨w.heap.size + 2, 0, none⟩) (Nat.le_add_right _ _) _).setCell (p := ⟨w.heap.size + 2, 1, none⟩) (Nat.le_add_right _ _) _).setCell (p := ⟨w.heap.size + 2, 2, none⟩) (Nat.le_add_right _ _) _)
      | true =>
        have hE2 : Hid (subE vid rn rs sn ss id c m = if anyAt sn (hitB ss id c m) = true then 6 else if sn = 6 then 2 else 0) := by
          have h := hE1.out.trans (if_neg (by unfold subB; rw [hwi, hri]; decide))
          unfold Hid
          rw [h]
          by_cases hh : anyAt sn (hitB ss id c m) = true
          · rw [if_pos hh, if_pos (hit_iff.2 hh)]
          · rw [if_neg hh, if_neg (fun h => hh (hit_iff.1 h))]
        have hrj := inRange_is vid c m rx rn rc rs sx sn sc true hri w3 (hv.later hT1.below).ranges (by omega)
        clear hri hwi hE1
        go_wp2_with fail
        refine (hrj).mono ?_
        rintro e w2 ⟨rfl, hbw2⟩
        have hT2 := hT1.later hbw2
        clear b0 b1 b2 p0 p1 s0 zs0 s1 zs1 s2 zs2
        have b0 : w2.cell? ⟨w.heap.size, 0, none⟩ = some (.int .i64 vid) := (box_cells hT2.hb).1 0
        have b1 : w2.cell? ⟨w.heap.size, 1, none⟩ = some (.slice rx rn rc) := (box_cells hT2.hb).1 1
        have b2 : w2.cell? ⟨w.heap.size, 2, none⟩ = some (.slice sx sn sc) := (box_cells hT2.hb).1 2
        have p0 : w2.cell? ⟨w.heap.size + 1, 0, none⟩ = some (.int .i64 c) := (box_cells hT2.hp).1 0
        have p1 : w2.cell? ⟨w.heap.size + 1, 1, none⟩ = some (.int .i64 m) := (box_cells hT2.hp).1 1
        have s0 : w2.cell? ⟨w.heap.size + 2, 0, none⟩ = some (.int .i64 0) := (box_cells hT2.hs).1 0
        have zs0 : w2.frozen? ⟨w.heap.size + 2, 0, none⟩ = false := (box_cells hT2.hs).2 0
        have s1 : w2.cell? ⟨w.heap.size + 2, 1, none⟩ = some (.slice none 0 0) := (box_cells hT2.hs).1 1
        have zs1 : w2.frozen? ⟨w.heap.size + 2, 1, none⟩ = false := (box_cells hT2.hs).2 1
        have s2 : w2.cell? ⟨w.heap.size + 2, 2, none⟩ = some (.slice none 0 0) := (box_cells hT2.hs).1 2
        have zs2 : w2.frozen? ⟨w.heap.size + 2, 2, none⟩ = false := (box_cells hT2.hs).2 2
        have hown := ownVpc_any vid rx rn rc rs sx sn sc ss w2 (hv.later hT2.below) (by omega) (by omega) (fun i hi => by have := f3 i hi; omega) (fun i hi j hj => by have := f4 i hi j hj; omega)
        go_wp2_with fail
        refine hown.mono ?_
        rintro e w5 ⟨vR, vS, ts, rfl, hOR, hss, hOS, hb5⟩
        clear hown f1 f3 f4 hrj
        have hT5 := hT2.later hb5
        have htl : Hid (ts.length = sn) := by unfold Hid; rw [← hss.1]; exact hsl.out
        have hts2 : Hid (ts.length ≤ 6) := by unfold Hid; rw [htl.out]; exact f2
        have hts6 : ts.length ≤ 6 := hts2.out
        obtain ⟨xr, cr, rfl, -⟩ := hOR.rs
        obtain ⟨xt, ct, rfl, hSS, -, hct⟩ := hOS.subs
        have hhit : Hid (∀ k, k < sn → hitB ss id c m k = (decide ((sbAt ts k).id = id) || mts (sbAt ts k).a (sbAt ts k).l c m)) := fun k hk => by
          obtain ⟨h1, h2, h3, -⟩ := hss.2 k (by rw [hsl.out]; exact hk)
          unfold hitB
          rw [h1, h2, h3]
        have hsz3 : w.heap.size + 2 < w2.heap.size := (Array.getElem?_eq_some_iff.1 hT2.hs).1
        have hsz5 : w.heap.size + 2 < w5.heap.size := Nat.lt_of_lt_of_le hsz3 hb5.size
        clear b0 b1 b2 p0 p1 s0 zs0 s1 zs1 s2 zs2
        go_upto_region 7 with fail
        obtain ⟨w6, hw6⟩ : ∃ w6, w6 = w5.alloc (vpB vid (.slice xr rs.length cr) (.slice xt ts.length ct)) := ⟨_, rfl⟩
        rw [← hw6]
        have hTo6 : TSo w5 w6 vid (.slice xr rs.length cr) (.slice xt ts.length ct) := by rw [hw6]; exact ⟨heap_new _ rfl, bl1 _ _⟩
        clear hw6
        have m1 : w6.cell? ⟨w5.heap.size, 2, none⟩ = some (.slice xt ts.length ct) := (box_cells hTo6.ho).1 2
        have z1 := (box_cells hTo6.ho).2 2
        go_upto_region 9 with fail
        obtain ⟨w7, hw7⟩ : ∃ w7, w7 = w6.setCell ⟨w5.heap.size, 2, none⟩ (.slice none 0 0) := ⟨_, rfl⟩
        rw [← hw7]
        have hTo7 : TSo w5 w7 vid (.slice xr rs.length cr) (.slice none 0 0) := by rw [hw7]; exact hTo6.put
        clear hw7 m1 z1 hTo6
        go_wp2
        go_loopw [11, 12] (fun d i wr => ∃ (k : Nat) (t : Bool) (vX : Value) (qs : List Sb), d = .bool t ∧ i = .int .i64 k ∧ k ≤ ts.length ∧ TSo w5 wr vid (.slice xr rs.length cr) vX ∧ OwnS wr (w5.heap.size + 1) vX qs ∧ Hid (InsG (⟨id, c, m, none, 0, 0, []⟩ : Sb) (fun j => decide (id < (sbAt ts j).id)) ts k t qs) ∧ Hid (∀ j, j < k → hitB ss id c m j = false)) (fun _ i _ => ts.length - (intOf i).toNat)
        case atStart => exact ⟨0, false, _, [], rfl, rfl, by omega, hTo7, ⟨rfl, .inl ⟨rfl, rfl⟩⟩, InsG.start _ _ _, fun j hj => by omega⟩
        case round =>
          clear hTo7
          obtain ⟨k, t, vX, qs, rfl, rfl, hkn, hTo, hq, hins, hno⟩ := hrel
          have hTr := hT5.later hTo.below
          have hsr : w5.heap.size + 1 ≤ wr.heap.size := (Array.getElem?_eq_some_iff.1 hTo.ho).1
          have hqlen : Hid (qs.length ≤ 7) := by
            unfold Hid
            have h1 := hins.out.len hkn
            have h2 : t.toNat ≤ 1 := by cases t <;> decide
            have := hts2.out
            omega
          have b0 : wr.cell? ⟨w.heap.size, 0, none⟩ = some (.int .i64 vid) := (box_cells hTr.hb).1 0
          have b1 : wr.cell? ⟨w.heap.size, 1, none⟩ = some (.slice rx rn rc) := (box_cells hTr.hb).1 1
          have b2 : wr.cell? ⟨w.heap.size, 2, none⟩ = some (.slice sx sn sc) := (box_cells hTr.hb).1 2
          have p0 : wr.cell? ⟨w.heap.size + 1, 0, none⟩ = some (.int .i64 c) := (box_cells hTr.hp).1 0
          have p1 : wr.cell? ⟨w.heap.size + 1, 1, none⟩ = some (.int .i64 m) := (box_cells hTr.hp).1 1
          have s0 : wr.cell? ⟨w.heap.size + 2, 0, none⟩ = some (.int .i64 0) := (box_cells hTr.hs).1 0
          have zs0 : wr.frozen? ⟨w.heap.size + 2, 0, none⟩ = false := (box_cells hTr.hs).2 0
          have s1 : wr.cell? ⟨w.heap.size + 2, 1, none⟩ = some (.slice none 0 0) := (box_cells hTr.hs).1 1
          have zs1 : wr.frozen? ⟨w.heap.size + 2, 1, none⟩ = false := (box_cells hTr.hs).2 1
          have s2 : wr.cell? ⟨w.heap.size + 2, 2, none⟩ = some (.slice none 0 0) := (box_cells hTr.hs).1 2
          have zs2 : wr.frozen? ⟨w.heap.size + 2, 2, none⟩ = false := (box_cells hTr.hs).2 2
          by_cases hlt : k < ts.length
          · have hlth : Hid (k < ts.length) := hlt
            have hget : Hid (ts[k]? = some (sbAt ts k)) := sbAt_some hlt
            obtain ⟨b, o, hxt, c0, c1, c2, c3⟩ := (hSS.later hTo.below).cells k hlt
            subst hxt
            have hk0 : (0 : Int) ≤ k := by omega
            have hkn2 : (k : Int) < ts.length := by omega
            clear hlt
            have a3 := Ws.here p0
            have a4 := Ws.here p1
            have a5 := Ws.here c0
            have a6 := Ws.here c1
            have a7 := Ws.here c2
            obtain ⟨cc, hcc⟩ : ∃ cc, Hid (hitB ss id c m k = cc) := ⟨_, rfl⟩
            have hcc2 : Hid ((decide ((sbAt ts k).id = id) || mts (sbAt ts k).a (sbAt ts k).l c m) = cc) := by
              unfold Hid
              rw [← hhit.out k (by rw [← htl.out]; exact hlth.out)]
              exact hcc.out
            go_upto_region 13 with fail
            go_cut [55] (fun s wc => s = .bool cc ∧ Below wr.heap.size wr wc)
            case first =>
              by_cases hid : (sbAt ts k).id = id
              · refine wp_region_ws wr.heap.size (by kernel_rfl) (by kernel_rfl) ?_
                repeat (go_big_quiet_step (fail))
                refine wpQuiet_nil ?_
                rintro _ ⟨u, rfl⟩
                have hbu := u.property
                generalize u.val = wz at hbu ⊢
                clear u
                go_wp2
                go_meet
                case rel => exact ⟨by rw [← hcc2.out]; simp [hid], hbu⟩
              · have hid2 : decide ((sbAt ts k).id = id) = false := by simp [hid]
                have hid3 : ((sbAt ts k).id == id) = false := by simp [hid]
                obtain ⟨mt, hmt⟩ : ∃ mt, mts (sbAt ts k).a (sbAt ts k).l c m = mt := ⟨_, rfl⟩
                have hmi := meetR_is _ _ _ _ _ hmt
                have hmt' : Hid (mts (sbAt ts k).a (sbAt ts k).l c m = mt) := hmt
                clear hmt
                refine wp_region_ws wr.heap.size (by kernel_rfl) (by kernel_rfl) ?_
                repeat (go_big_quiet_step (first | (go_at_call 38; exact Calls.in_ws (Nat.le_refl _) (hmi _))))
                refine wpQuiet_nil ?_
                rintro _ ⟨u, rfl⟩
                have hbu := u.property
                generalize u.val = wz at hbu ⊢
                clear u
                go_wp2
                go_meet
                case rel => exact ⟨by rw [← hcc2.out, hmt'.out]; simp [hid], hbu⟩
            case rest =>
            obtain ⟨rfl, hbu⟩ := hcut
            obtain ⟨wu, rfl⟩ : ∃ wu, wu = wc := ⟨_, rfl⟩
            clear a3 a4 a5 a6 a7 c0 c1 c2 c3
            have hTu := hTr.later hbu
            have hTou := hTo.later hbu
            have hqu := OwnS.later hq hbu
            clear hbu hTo hq hTr hsr
            have hsr : w5.heap.size + 1 ≤ wu.heap.size := (Array.getElem?_eq_some_iff.1 hTou.ho).1
            clear b0 b1 b2 p0 p1 s0 zs0 s1 zs1 s2 zs2
            have b0 : wu.cell? ⟨w.heap.size, 0, none⟩ = some (.int .i64 vid) := (box_cells hTu.hb).1 0
            have b1 : wu.cell? ⟨w.heap.size, 1, none⟩ = some (.slice rx rn rc) := (box_cells hTu.hb).1 1
            have b2 : wu.cell? ⟨w.heap.size, 2, none⟩ = some (.slice sx sn sc) := (box_cells hTu.hb).1 2
            have p0 : wu.cell? ⟨w.heap.size + 1, 0, none⟩ = some (.int .i64 c) := (box_cells hTu.hp).1 0
            have p1 : wu.cell? ⟨w.heap.size + 1, 1, none⟩ = some (.int .i64 m) := (box_cells hTu.hp).1 1
            have s0 : wu.cell? ⟨w.heap.size + 2, 0, none⟩ = some (.int .i64 0) := (box_cells hTu.hs).1 0
            have zs0 : wu.frozen? ⟨w.heap.size + 2, 0, none⟩ = false := (box_cells hTu.hs).2 0
            have s1 : wu.cell? ⟨w.heap.size + 2, 1, none⟩ = some (.slice none 0 0) := (box_cells hTu.hs).1 1
            have zs1 : wu.frozen? ⟨w.heap.size + 2, 1, none⟩ = false := (box_cells hTu.hs).2 1
            have s2 : wu.cell? ⟨w.heap.size + 2, 2, none⟩ = some (.slice none 0 0) := (box_cells hTu.hs).1 2
            have zs2 : wu.frozen? ⟨w.heap.size + 2, 2, none⟩ = false := (box_cells hTu.hs).2 2
            cases cc with
            | true =>
              have hne : Hid (subE vid rn rs sn ss id c m = 6 ∧ (6 : Int) ≠ 0) := ⟨hE2.out.trans (if_pos (List.any_eq_true.2 ⟨k, List.mem_range.2 (by rw [← htl.out]; exact hlth.out), hcc.out⟩)), by decide⟩
              go_wp2
              refine bodyPost_ret (v := .tuple #[.agg #[.int .i64 0, .slice none 0 0, .slice none 0 0], .int .i64 6]) (by simp [results, Tryz.results16, go_sem, s0, s1, s2]) rfl ?_
              exact VPost.err hne.out (((hTu.below.setCell (p := ⟨w.heap.size + 2, 0, none⟩) (Nat.le_add_right _ _) _).setCell (p := ⟨w.heap.size + 2, 1, none⟩) (Nat.le_add_right _ _) _).setCell (p := ⟨w.heap.size + 2, 2, none⟩) (Nat.le_add_right _ _) _)
            | false =>
              have hno' : Hid (∀ j, j < k + 1 → hitB ss id c m j = false) := fun j hj => by
                by_cases hj2 : j < k
                · exact hno.out j hj2
                · obtain rfl : j = k := by omega
                  exact hcc.out
              obtain ⟨b', o', hbo, c0, c1, c2, c3⟩ := (hSS.later hTou.below).cells k hlth.out
              simp only [Option.some.injEq, Addr.mk.injEq, and_true] at hbo
              obtain ⟨rfl, rfl⟩ := hbo
              obtain ⟨cd, hcd⟩ : ∃ cd, Hid ((!t && decide (id < (sbAt ts k).id)) = cd) := ⟨_, rfl⟩
              go_upto_region 15 with fail
              go_cut [67] (fun s wc => s = .bool cd ∧ wc = wu)
              case first =>
                by_cases hgt : id < (sbAt ts k).id
                · cases t
                  · go_wp2
                    go_meet
                    case rel => exact ⟨by rw [← hcd.out]; simp [hgt], rfl⟩
                  · go_wp2
                    go_meet
                    case rel => exact ⟨by rw [← hcd.out]; simp, rfl⟩
                · cases t
                  · go_wp2
                    go_meet
                    case rel => exact ⟨by rw [← hcd.out]; simp [hgt], rfl⟩
                  · go_wp2
                    go_meet
                    case rel => exact ⟨by rw [← hcd.out]; simp, rfl⟩
              case rest =>
              obtain ⟨rfl, rfl⟩ := hcut
              obtain ⟨wz, rfl⟩ : ∃ wz, wz = wc := ⟨_, rfl⟩
              clear c0 c1 c2 c3
              have hq8 : Hid (qs.length ≤ 8) := by unfold Hid; have := hqlen.out; omega
              go_upto_if 67 with fail
              go_cut [11] (fun d wc => ∃ (t' : Bool) (vX' : Value) (qs' : List Sb), d = .bool t' ∧ TSo w5 wc vid (.slice xr rs.length cr) vX' ∧ OwnS wc (w5.heap.size + 1) vX' qs' ∧ Hid (qs'.length ≤ 8) ∧ Hid (InsG (⟨id, c, m, none, 0, 0, []⟩ : Sb) (fun j => decide (id < (sbAt ts j).id)) ts (k + 1) t' (qs' ++ [sbAt ts k])))
              case first =>
                cases cd with
                | true =>
                  have hi2 : Hid (InsG (⟨id, c, m, none, 0, 0, []⟩ : Sb) (fun j => decide (id < (sbAt ts j).id)) ts (k + 1) true (qs ++ [(⟨id, c, m, none, 0, 0, []⟩ : Sb)] ++ [sbAt ts k])) := by
                    have h := hcd.out
                    simp only [Bool.and_eq_true, Bool.not_eq_true', decide_eq_true_eq] at h
                    have h2 := hins.out
                    rw [h.1] at h2
                    exact h2.put hget.out (by simpa using h.2)
                  have o2 : wz.cell? ⟨w5.heap.size, 2, none⟩ = some vX := (box_cells hTou.ho).1 2
                  go_wp2_with (at_builtin; refine Hid.out ?_)
                  unfold Hid
                  refine wpList_append_S rfl _ _ rfl (w5.heap.size + 1) vX qs rfl (OwnS.later hqu (bl1 wz _)) ⟨wz.heap.size, 0, none⟩ 1 1 [(⟨id, c, m, none, 0, 0, []⟩ : Sb)] rfl rfl (sbs_cells wz (⟨id, c, m, none, 0, 0, []⟩ : Sb)) (by have := hqlen.out; omega) (by simp; omega) ?_
                  intro v9 w9 hR9 hg9
                  have hTo9 := (hTou.later (bl1 wz _)).grown (OwnS.later hqu (bl1 wz _)) hg9
                  have hl9 : Hid ((qs ++ [(⟨id, c, m, none, 0, 0, []⟩ : Sb)]).length = qs.length + 1) := by unfold Hid; simp
                  obtain ⟨x9, c9, hv9, -⟩ := hR9.mem
                  rw [hl9.out] at hv9
                  subst hv9
                  have o2' : w9.cell? ⟨w5.heap.size, 2, none⟩ = some vX := (box_cells hTo9.ho).1 2
                  have oz2 := (box_cells hTo9.ho).2 2
                  clear o2 hg9
                  go_wp2
                  go_meet
                  case rel => exact ⟨true, _, qs ++ [(⟨id, c, m, none, 0, 0, []⟩ : Sb)], rfl, hTo9.put, hR9.put (by omega), by unfold Hid; rw [hl9.out]; have := hqlen.out; omega, hi2⟩
                | false =>
                  have hi2 : Hid (InsG (⟨id, c, m, none, 0, 0, []⟩ : Sb) (fun j => decide (id < (sbAt ts j).id)) ts (k + 1) t (qs ++ [sbAt ts k])) := by
                    have h := hcd.out
                    have h2 := hins.out
                    cases t with
                    | true => exact h2.more hget.out
                    | false => exact h2.skip hget.out (by simpa using h)
                  go_wp2
                  go_meet
                  case rel => exact ⟨t, vX, qs, rfl, hTou, hqu, hq8, hi2⟩
              case rest =>
              obtain ⟨t', vX', qs', rfl, hToc, hqc, hq8', hi2⟩ := hcut
              clear hTou hqu hTu hqlen hins
              clear b0 b1 b2 p0 p1 s0 zs0 s1 zs1 s2 zs2
              have hTc := hT5.later hToc.below
              obtain ⟨b', o', hbo, c0, c1, c2, c3⟩ := (hSS.later hToc.below).cells k hlth.out
              simp only [Option.some.injEq, Addr.mk.injEq, and_true] at hbo
              obtain ⟨rfl, rfl⟩ := hbo
              have hsc : w5.heap.size + 1 ≤ wc.heap.size := (Array.getElem?_eq_some_iff.1 hToc.ho).1
              have a1 := Ws.here (show wc.cell? ⟨w5.heap.size, 2, none⟩ = some vX' from (box_cells hToc.ho).1 2)
              have a2 := Ws.here c0
              have a3 := Ws.here c1
              have a4 := Ws.here c2
              have a5 := Ws.here c3
              go_upto_region 18 with fail
              have hbd : Below wc.heap.size wc wc.drew := (Below.refl _ _).drew
              refine wp_region_V (fun w' => ∃ u : Ws wc.heap.size wc, w' = u.val) (fun j => decide (j < 7)) 10 _ (by kernel_rfl) rfl rfl ?_
              refine wpV_takes 4 [0, 1, 2, 3, 4, 5] rfl _ rfl (by kernel_rfl) (fun d _ _ _ _ h => by cases d <;> exact h) ⟨⟨_, hbd⟩, rfl⟩ ?_
              simp only [List.map_cons, List.map_nil, List.getD_cons_zero, List.getD_cons_succ]
              repeat (go_big_quiet_step (fail))
              refine wpQuiet_nil ?_
              clear a1 a2 a3 a4 a5 c0 c1 c2 c3
              refine wpV_one 6 _ _ (by kernel_rfl) (by kernel_rfl) rfl rfl ?_
              intro K hK
              simp only [List.getD_cons_zero, List.getD_cons_succ]
              go_wp2_with fail
              have hba : Below wc.heap.size wc (wc.alloc (.cells #[.int .i64 (sbAt ts k).id, .int .i64 (sbAt ts k).a, .int .i64 (sbAt ts k).l, .slice (sbAt ts k).x (sbAt ts k).n (sbAt ts k).c] 55)).drew := (bl1 wc _).drew
              refine wildK_normal (hK.out _ _ ⟨⟨_, hba⟩, rfl⟩ ?_)
              clear hK K
              refine wpV_tail [7, 8, 9] rfl (by kernel_rfl) ?_
              simp only [List.map_cons, List.map_nil, List.getD_cons_zero, List.getD_cons_succ]
              refine wpList_append_S rfl _ _ rfl (w5.heap.size + 1) vX' qs' rfl (OwnS.later hqc hba) ⟨wc.heap.size, 0, none⟩ 1 1 [sbAt ts k] rfl rfl (sbs_cells wc (sbAt ts k)) (by have := hq8'.out; omega) (Nat.le_trans hsc hba.size) ?_
              intro v9 w9 hR9 hg9
              have hTo9 := (hToc.later hba).grown (OwnS.later hqc hba) hg9
              have hl9 : Hid ((qs' ++ [sbAt ts k]).length = qs'.length + 1) := by unfold Hid; simp
              obtain ⟨x9, c9, hv9, -⟩ := hR9.mem
              rw [hl9.out] at hv9
              subst hv9
              have o2' : w9.cell? ⟨w5.heap.size, 2, none⟩ = some vX' := (box_cells hTo9.ho).1 2
              have oz2 := (box_cells hTo9.ho).2 2
              clear hg9
              go_wp2
              go_roundw
              case rel => exact ⟨k + 1, t', _, qs' ++ [sbAt ts k], rfl, by go_num, hlth.out, hTo9.put, hR9.put (by omega), hi2, hno'⟩
              case measure => have := hlth.out; simp [intOf]; omega
          · have hnk : ¬ (k : Int) < ts.length := by omega
            have hkt : Hid (k = ts.length) := by unfold Hid; omega
            have hany : Hid (anyAt sn (hitB ss id c m) = false) := by
              unfold Hid
              unfold anyAt
              rw [List.any_eq_false]
              intro j hj
              rw [hno.out j (by rw [hkt.out, htl.out]; exact List.mem_range.1 hj)]
              decide
            have hE3 : Hid (subE vid rn rs sn ss id c m = if sn = 6 then 2 else 0) := hE2.out.trans (if_neg (by rw [hany.out]; decide))
            have hlenq : Hid (qs.length = ts.length + t.toNat) := by unfold Hid; rw [← hkt.out]; exact hins.out.len hkn
            cases t with
            | true =>
              have hput : Hid (PutSb (⟨id, c, m, none, 0, 0, []⟩ : Sb) ts qs) := putSb_is.2 (by have := hins.out; rw [hkt.out] at this; exact this.all)
              have hmem : Hid (∀ q ∈ qs, q = (⟨id, c, m, none, 0, 0, []⟩ : Sb) ∨ q ∈ ts) := hins.out.mem
              obtain ⟨xq, cq, rfl, -⟩ := hq.mem
              have hTe := hT5.later hTo.below
              have e0 : wr.cell? ⟨w5.heap.size, 0, none⟩ = some (.int .i64 vid) := (box_cells hTo.ho).1 0
              have e1 : wr.cell? ⟨w5.heap.size, 1, none⟩ = some (.slice xr rs.length cr) := (box_cells hTo.ho).1 1
              have e2 : wr.cell? ⟨w5.heap.size, 2, none⟩ = some (.slice xq qs.length cq) := (box_cells hTo.ho).1 2
              clear b0 b1 b2 p0 p1 s0 zs0 s1 zs1 s2 zs2
              have b0 : wr.cell? ⟨w.heap.size, 0, none⟩ = some (.int .i64 vid) := (box_cells hTe.hb).1 0
              have b1 : wr.cell? ⟨w.heap.size, 1, none⟩ = some (.slice rx rn rc) := (box_cells hTe.hb).1 1
              have b2 : wr.cell? ⟨w.heap.size, 2, none⟩ = some (.slice sx sn sc) := (box_cells hTe.hb).1 2
              have p0 : wr.cell? ⟨w.heap.size + 1, 0, none⟩ = some (.int .i64 c) := (box_cells hTe.hp).1 0
              have p1 : wr.cell? ⟨w.heap.size + 1, 1, none⟩ = some (.int .i64 m) := (box_cells hTe.hp).1 1
              have s0 : wr.cell? ⟨w.heap.size + 2, 0, none⟩ = some (.int .i64 0) := (box_cells hTe.hs).1 0
              have zs0 : wr.frozen? ⟨w.heap.size + 2, 0, none⟩ = false := (box_cells hTe.hs).2 0
              have s1 : wr.cell? ⟨w.heap.size + 2, 1, none⟩ = some (.slice none 0 0) := (box_cells hTe.hs).1 1
              have zs1 : wr.frozen? ⟨w.heap.size + 2, 1, none⟩ = false := (box_cells hTe.hs).2 1
              have s2 : wr.cell? ⟨w.heap.size + 2, 2, none⟩ = some (.slice none 0 0) := (box_cells hTe.hs).1 2
              have zs2 : wr.frozen? ⟨w.heap.size + 2, 2, none⟩ = false := (box_cells hTe.hs).2 2
              by_cases h6 : sn = 6
              · have hgt : (6 : Int) < qs.length := by have h1 := hlenq.out; have h2 := htl.out; simp at h1; omega
                have hne : Hid (subE vid rn rs sn ss id c m = 2 ∧ (2 : Int) ≠ 0) := ⟨hE3.out.trans (if_pos h6), by decide⟩
                clear h6
                go_wp2
                refine bodyPost_ret (v := .tuple #[.agg #[.int .i64 0, .slice none 0 0, .slice none 0 0], .int .i64 2]) (by simp [results, Tryz.results16, go_sem, s0, s1, s2]) rfl ?_
                exact VPost.err hne.out (((hTe.below.setCell (p := ⟨w.heap.size + 2, 0, none⟩) (Nat.le_add_right _ _) _).setCell (p := ⟨w.heap.size + 2, 1, none⟩) (Nat.le_add_right _ _) _).setCell (p := ⟨w.heap.size + 2, 2, none⟩) (Nat.le_add_right _ _) _)
              · have hgt : ¬ (6 : Int) < qs.length := by have h1 := hlenq.out; have h2 := htl.out; simp at h1; omega
                have hE0 : Hid (subE vid rn rs sn ss id c m = 0) := hE3.out.trans (if_neg h6)
                clear h6
                go_wp2
                refine bodyPost_ret (v := .tuple #[.agg #[.int .i64 vid, .slice xr rs.length cr, .slice xq qs.length cq], .int .i64 0]) (by simp [results, Tryz.results16, go_sem, s0, s1, s2]) rfl ?_
                have hOSe := ((OSs.later hOS hTo.below).put (o := 0) (u := .int .i64 vid) hsz3).put (o := 1) (u := .slice xr rs.length cr) hsz3
                have hOSf := hOSe.put (o := 2) (u := .slice xq qs.length cq) hsz3
                refine VPost.ok hE0.out (((hTe.below.setCell (p := ⟨w.heap.size + 2, 0, none⟩) (Nat.le_add_right _ _) _).setCell (p := ⟨w.heap.size + 2, 1, none⟩) (Nat.le_add_right _ _) _).setCell (p := ⟨w.heap.size + 2, 2, none⟩) (Nat.le_add_right _ _) _) ⟨ts, qs, NV.mk ((((OwnR.later hOR hTo.below).put hsz3).put hsz3).put hsz3) (((hq.put (by omega)).put (by omega)).put (by omega)) (fun s hs => ?_), hss, hput.out⟩
                rcases hmem.out s hs with rfl | hs
                · exact ⟨Nat.le_refl _, by simp, ⟨rfl, fun i hi => absurd hi (Nat.not_lt_zero _), fun i hi => absurd hi (Nat.not_lt_zero _)⟩⟩
                · exact hOSf.all s hs
            | false =>
              have hput : Hid (PutSb (⟨id, c, m, none, 0, 0, []⟩ : Sb) ts (qs ++ [(⟨id, c, m, none, 0, 0, []⟩ : Sb)])) := putSb_is.2 (by have := hins.out; rw [hkt.out] at this; exact this.last)
              have hmem : Hid (∀ q ∈ qs ++ [(⟨id, c, m, none, 0, 0, []⟩ : Sb)], q = (⟨id, c, m, none, 0, 0, []⟩ : Sb) ∨ q ∈ ts) := fun q hq => by
                rcases List.mem_append.1 hq with h | h
                · exact hins.out.mem q h
                · exact .inl (by simpa using h)
              have o2 : wr.cell? ⟨w5.heap.size, 2, none⟩ = some vX := (box_cells hTo.ho).1 2
              go_wp2_with (at_builtin; refine Hid.out ?_)
              unfold Hid
              refine wpList_append_S rfl _ _ rfl (w5.heap.size + 1) vX qs rfl (OwnS.later hq (bl1 wr _)) ⟨wr.heap.size, 0, none⟩ 1 1 [(⟨id, c, m, none, 0, 0, []⟩ : Sb)] rfl rfl (sbs_cells wr (⟨id, c, m, none, 0, 0, []⟩ : Sb)) (by have := hqlen.out; omega) (by simp; omega) ?_
              intro v9 w9 hR9 hg9
              have hTo9 := (hTo.later (bl1 wr _)).grown (OwnS.later hq (bl1 wr _)) hg9
              have hl9 : Hid ((qs ++ [(⟨id, c, m, none, 0, 0, []⟩ : Sb)]).length = qs.length + 1) := by unfold Hid; simp
              obtain ⟨x9, c9, hv9, -⟩ := hR9.mem
              rw [hl9.out] at hv9
              subst hv9
              have o2' : w9.cell? ⟨w5.heap.size, 2, none⟩ = some vX := (box_cells hTo9.ho).1 2
              have oz2 := (box_cells hTo9.ho).2 2
              clear o2 hg9
              have hR10 := hR9.put (b := w5.heap.size) (o := 2) (u := .slice x9 (qs.length + 1) c9) (by omega)
              have hTo10 := hTo9.put (u := .slice x9 (qs.length + 1) c9)
              go_upto_region 21 with fail
              obtain ⟨we, hwe⟩ : ∃ we, we = w9.setCell ⟨w5.heap.size, 2, none⟩ (.slice x9 (qs.length + 1) c9) := ⟨_, rfl⟩
              rw [← hwe] at hR10 hTo10 ⊢
              clear hwe o2' oz2
              have hTe := hT5.later hTo10.below
              have e0 : we.cell? ⟨w5.heap.size, 0, none⟩ = some (.int .i64 vid) := (box_cells hTo10.ho).1 0
              have e1 : we.cell? ⟨w5.heap.size, 1, none⟩ = some (.slice xr rs.length cr) := (box_cells hTo10.ho).1 1
              have e2 : we.cell? ⟨w5.heap.size, 2, none⟩ = some (.slice x9 (qs.length + 1) c9) := (box_cells hTo10.ho).1 2
              clear b0 b1 b2 p0 p1 s0 zs0 s1 zs1 s2 zs2
              have b0 : we.cell? ⟨w.heap.size, 0, none⟩ = some (.int .i64 vid) := (box_cells hTe.hb).1 0
              have b1 : we.cell? ⟨w.heap.size, 1, none⟩ = some (.slice rx rn rc) := (box_cells hTe.hb).1 1
              have b2 : we.cell? ⟨w.heap.size, 2, none⟩ = some (.slice sx sn sc) := (box_cells hTe.hb).1 2
              have p0 : we.cell? ⟨w.heap.size + 1, 0, none⟩ = some (.int .i64 c) := (box_cells hTe.hp).1 0
              have p1 : we.cell? ⟨w.heap.size + 1, 1, none⟩ = some (.int .i64 m) := (box_cells hTe.hp).1 1
              have s0 : we.cell? ⟨w.heap.size + 2, 0, none⟩ = some (.int .i64 0) := (box_cells hTe.hs).1 0
              have zs0 : we.frozen? ⟨w.heap.size + 2, 0, none⟩ = false := (box_cells hTe.hs).2 0
              have s1 : we.cell? ⟨w.heap.size + 2, 1, none⟩ = some (.slice none 0 0) := (box_cells hTe.hs).1 1
              have zs1 : we.frozen? ⟨w.heap.size + 2, 1, none⟩ = false := (box_cells hTe.hs).2 1
              have s2 : we.cell? ⟨w.heap.size + 2, 2, none⟩ = some (.slice none 0 0) := (box_cells hTe.hs).1 2
              have zs2 : we.frozen? ⟨w.heap.size + 2, 2, none⟩ = false := (box_cells hTe.hs).2 2
              by_cases h6 : sn = 6
              · have hgt : (6 : Int) < (qs.length + 1) := by have h1 := hlenq.out; have h2 := htl.out; simp at h1; omega
                have hne : Hid (subE vid rn rs sn ss id c m = 2 ∧ (2 : Int) ≠ 0) := ⟨hE3.out.trans (if_pos h6), by decide⟩
                clear h6
                go_wp2
                refine bodyPost_ret (v := .tuple #[.agg #[.int .i64 0, .slice none 0 0, .slice none 0 0], .int .i64 2]) (by simp [results, Tryz.results16, go_sem, s0, s1, s2]) rfl ?_
                exact VPost.err hne.out (((hTe.below.setCell (p := ⟨w.heap.size + 2, 0, none⟩) (Nat.le_add_right _ _) _).setCell (p := ⟨w.heap.size + 2, 1, none⟩) (Nat.le_add_right _ _) _).setCell (p := ⟨w.heap.size + 2, 2, none⟩) (Nat.le_add_right _ _) _)
              · have hgt : ¬ (6 : Int) < (qs.length + 1) := by have h1 := hlenq.out; have h2 := htl.out; simp at h1; omega
                have hE0 : Hid (subE vid rn rs sn ss id c m = 0) := hE3.out.trans (if_neg h6)
                clear h6
                go_wp2
                refine bodyPost_ret (v := .tuple #[.agg #[.int .i64 vid, .slice xr rs.length cr, .slice x9 (qs.length + 1) c9], .int .i64 0]) (by simp [results, Tryz.results16, go_sem, s0, s1, s2]) rfl ?_
                have hOSe := ((OSs.later hOS hTo10.below).put (o := 0) (u := .int .i64 vid) hsz3).put (o := 1) (u := .slice xr rs.length cr) hsz3
                have hOSf := hOSe.put (o := 2) (u := .slice x9 (qs.length + 1) c9) hsz3
                refine VPost.ok hE0.out (((hTe.below.setCell (p := ⟨w.heap.size + 2, 0, none⟩) (Nat.le_add_right _ _) _).setCell (p := ⟨w.heap.size + 2, 1, none⟩) (Nat.le_add_right _ _) _).setCell (p := ⟨w.heap.size + 2, 2, none⟩) (Nat.le_add_right _ _) _) ⟨ts, (qs ++ [(⟨id, c, m, none, 0, 0, []⟩ : Sb)]), NV.mk ((((OwnR.later hOR hTo10.below).put hsz3).put hsz3).put hsz3) (((hR10.put (by omega)).put (by omega)).put (by omega)) (fun s hs => ?_), hss, hput.out⟩
                rcases hmem.out s hs with rfl | hs
                · exact ⟨Nat.le_refl _, by simp, ⟨rfl, fun i hi => absurd hi (Nat.not_lt_zero _), fun i hi => absurd hi (Nat.not_lt_zero _)⟩⟩
                · exact hOSf.all s hs
  · have hck := checkVpc_is vid rx rn rc rs sx sn sc ss _ rfl w0 (hv.later hT0.below) hrn hsn
    have hne : subE vid rn rs sn ss id c m = chkV vid rn rs sn ss ∧ chkV vid rn rs sn ss ≠ 0 := ⟨if_pos hc0, hc0⟩
    go_wp2_with fail
    refine (hck).mono ?_
    rintro e w1 ⟨rfl, hbw1⟩
    have hT1 := hT0.later hbw1
    clear b0 b1 b2 p0 p1 s0 zs0 s1 zs1 s2 zs2
    have b0 : w1.cell? ⟨w.heap.size, 0, none⟩ = some (.int .i64 vid) := (box_cells hT1.hb).1 0
    have b1 : w1.cell? ⟨w.heap.size, 1, none⟩ = some (.slice rx rn rc) := (box_cells hT1.hb).1 1
    have b2 : w1.cell? ⟨w.heap.size, 2, none⟩ = some (.slice sx sn sc) := (box_cells hT1.hb).1 2
    have p0 : w1.cell? ⟨w.heap.size + 1, 0, none⟩ = some (.int .i64 c) := (box_cells hT1.hp).1 0
    have p1 : w1.cell? ⟨w.heap.size + 1, 1, none⟩ = some (.int .i64 m) := (box_cells hT1.hp).1 1
    have s0 : w1.cell? ⟨w.heap.size + 2, 0, none⟩ = some (.int .i64 0) := (box_cells hT1.hs).1 0
    have zs0 : w1.frozen? ⟨w.heap.size + 2, 0, none⟩ = false := (box_cells hT1.hs).2 0
    have s1 : w1.cell? ⟨w.heap.size + 2, 1, none⟩ = some (.slice none 0 0) := (box_cells hT1.hs).1 1
    have zs1 : w1.frozen? ⟨w.heap.size + 2, 1, none⟩ = false := (box_cells hT1.hs).2 1
    have s2 : w1.cell? ⟨w.heap.size + 2, 2, none⟩ = some (.slice none 0 0) := (box_cells hT1.hs).1 2
    have zs2 : w1.frozen? ⟨w.heap.size + 2, 2, none⟩ = false := (box_cells hT1.hs).2 2
    go_wp2
    refine bodyPost_ret (v := .tuple #[.agg #[.int .i64 0, .slice none 0 0, .slice none 0 0], .int .i64 (chkV vid rn rs sn ss)]) (by simp [results, Tryz.results16, go_sem, s0, s1, s2]) rfl ?_
    exact VPost.err hne (((hT1.below.setCell (p := ⟨w.heap.size + 2, 0, none⟩) (Nat.le_add_right _ _) _).setCell (p := ⟨w.heap.size + 2, 1, none⟩) (Nat.le_add_right _ _) _).setCell (p := ⟨w.heap.size + 2, 2, none⟩) (Nat.le_add_right _ _) _)
end Go.Proofs.YtpdhipjeobchfaaGreat
/- What subAt, faceAt and UnsubVpc of the reference come to. -/
namespace Go.Proofs.YtpdhipjeobchfaaGreat
open Go.RowKit Go.Shelf

/-- append(s[:i], s[i+1:]...) of a row of subs of the call's own. -/
theorem cutS_run (base g k cap i : Nat) (es : List Sb) (w : World) (hO : OwnS w base (.slice (some ⟨g, 0, none⟩) (k + 1) cap) es) (hn : es.length = k + 1) (hi : i ≤ k) (hnc : k + 1 ≤ cap) :
    ∃ wa, (∀ q c', ((cap = i + 1 ∧ q = 0 ∧ c' = 0) ∨ (¬ cap = i + 1 ∧ q = (i + 1) * 4 ∧ c' = cap - (i + 1))) → (Builtin.append_ #[23, 23] 23 #[.slice (some ⟨g, 0, none⟩) i cap, .slice (some ⟨g, q, none⟩) (k - i) c']).run Tryz.prog w = .ok (.slice (some ⟨g, 0, none⟩) k cap) wa) ∧
      OwnS wa base (.slice (some ⟨g, 0, none⟩) k cap) (es.take i ++ es.drop (i + 1)) ∧ w.grownBy wa (some g) := by
  obtain ⟨i0, hi0, hz0, hz1, hz2⟩ := info_S'
  have hlt : (es.take i).length = i := by rw [List.length_take]; omega
  have hld : (es.drop (i + 1)).length = k - i := by rw [List.length_drop]; omega
  have hle : (es.take i ++ es.drop (i + 1)).length = k := by rw [List.length_append, hlt, hld]; omega
  have hOi := hO.take i (by omega)
  unfold OwnS at hOi
  rw [hlt] at hOi
  have Run_S : RunS w (some ⟨g, 0, none⟩) (k + 1) es := ⟨hn, fun _ => by simp, fun ad hx q u hq => by cases hx; exact World.ownsRow.cells hO (g := g) rfl q u hq⟩
  have hrun := Run_S.drop (i := i + 1) (c := cap) (by omega) hnc
  have hik : i + (k - i) = k := by omega
  by_cases hcj : cap = i + 1
  · rw [if_pos hcj] at hrun
    obtain ⟨wa, h1, h2, h3⟩ := run_append_own_spare (P := Tryz.prog) w base 23 23 55 i0 4 under_S hi0 hz1 g i cap _ hOi ⟨g, 0, none⟩ (k - i) 0 (flatS (es.drop (i + 1))) (by rw [flatS_len, hld]) (hrun.2.2 _ rfl) (flatS_one _) (by omega)
    rw [hik] at h1 h2
    have hO2 : OwnS wa base (.slice (some ⟨g, 0, none⟩) k cap) (es.take i ++ es.drop (i + 1)) := by unfold OwnS; rw [flatS_app, hle]; exact h2
    refine ⟨wa, fun q c' h => ?_, hO2, h3⟩
    rcases h with ⟨-, rfl, rfl⟩ | ⟨h, -⟩
    · exact h1
    · exact absurd hcj h
  · rw [if_neg hcj, Nat.zero_add] at hrun
    obtain ⟨wa, h1, h2, h3⟩ := run_append_own_spare (P := Tryz.prog) w base 23 23 55 i0 4 under_S hi0 hz1 g i cap _ hOi ⟨g, (i + 1) * 4, none⟩ (k - i) (cap - (i + 1)) (flatS (es.drop (i + 1))) (by rw [flatS_len, hld]) (hrun.2.2 _ rfl) (flatS_one _) (by omega)
    rw [hik] at h1 h2
    have hO2 : OwnS wa base (.slice (some ⟨g, 0, none⟩) k cap) (es.take i ++ es.drop (i + 1)) := by unfold OwnS; rw [flatS_app, hle]; exact h2
    refine ⟨wa, fun q c' h => ?_, hO2, h3⟩
    rcases h with ⟨h, -⟩ | ⟨-, rfl, rfl⟩
    · exact absurd h hcj
    · exact h1

/-- append(s[:i], s[i+1:]...) of a row of faces of the call's own. -/
theorem cutF_run (base g k cap i : Nat) (es : List Fc) (w : World) (hO : OwnF w base (.slice (some ⟨g, 0, none⟩) (k + 1) cap) es) (hn : es.length = k + 1) (hi : i ≤ k) (hnc : k + 1 ≤ cap) :
    ∃ wa, (∀ q c', ((cap = i + 1 ∧ q = 0 ∧ c' = 0) ∨ (¬ cap = i + 1 ∧ q = (i + 1) * 2 ∧ c' = cap - (i + 1))) → (Builtin.append_ #[53, 53] 53 #[.slice (some ⟨g, 0, none⟩) i cap, .slice (some ⟨g, q, none⟩) (k - i) c']).run Tryz.prog w = .ok (.slice (some ⟨g, 0, none⟩) k cap) wa) ∧
      OwnF wa base (.slice (some ⟨g, 0, none⟩) k cap) (es.take i ++ es.drop (i + 1)) ∧ w.grownBy wa (some g) := by
  obtain ⟨i0, hi0, hz0, hz1, hz2⟩ := info_F'
  have hlt : (es.take i).length = i := by rw [List.length_take]; omega
  have hld : (es.drop (i + 1)).length = k - i := by rw [List.length_drop]; omega
  have hle : (es.take i ++ es.drop (i + 1)).length = k := by rw [List.length_append, hlt, hld]; omega
  have hOi := hO.take i (by omega)
  unfold OwnF at hOi
  rw [hlt] at hOi
  have Run_F : RunF w (some ⟨g, 0, none⟩) (k + 1) es := ⟨hn, fun _ => by simp, fun ad hx q u hq => by cases hx; exact World.ownsRow.cells hO (g := g) rfl q u hq⟩
  have hrun := Run_F.drop (i := i + 1) (c := cap) (by omega) hnc
  have hik : i + (k - i) = k := by omega
  by_cases hcj : cap = i + 1
  · rw [if_pos hcj] at hrun
    obtain ⟨wa, h1, h2, h3⟩ := run_append_own_spare (P := Tryz.prog) w base 53 53 68 i0 2 under_F hi0 hz1 g i cap _ hOi ⟨g, 0, none⟩ (k - i) 0 (flatF (es.drop (i + 1))) (by rw [flatF_len, hld]) (hrun.2.2 _ rfl) (flatF_one _) (by omega)
    rw [hik] at h1 h2
    have hO2 : OwnF wa base (.slice (some ⟨g, 0, none⟩) k cap) (es.take i ++ es.drop (i + 1)) := by unfold OwnF; rw [flatF_app, hle]; exact h2
    refine ⟨wa, fun q c' h => ?_, hO2, h3⟩
    rcases h with ⟨-, rfl, rfl⟩ | ⟨h, -⟩
    · exact h1
    · exact absurd hcj h
  · rw [if_neg hcj, Nat.zero_add] at hrun
    obtain ⟨wa, h1, h2, h3⟩ := run_append_own_spare (P := Tryz.prog) w base 53 53 68 i0 2 under_F hi0 hz1 g i cap _ hOi ⟨g, (i + 1) * 2, none⟩ (k - i) (cap - (i + 1)) (flatF (es.drop (i + 1))) (by rw [flatF_len, hld]) (hrun.2.2 _ rfl) (flatF_one _) (by omega)
    rw [hik] at h1 h2
    have hO2 : OwnF wa base (.slice (some ⟨g, 0, none⟩) k cap) (es.take i ++ es.drop (i + 1)) := by unfold OwnF; rw [flatF_app, hle]; exact h2
    refine ⟨wa, fun q c' h => ?_, hO2, h3⟩
    rcases h with ⟨h, -⟩ | ⟨-, rfl, rfl⟩
    · exact absurd h hcj
    · exact h1

theorem wpList_append_runv {w w' : World} {ops : Array Oper} {rest : List Oper} {o : Oper} {a : Act} {Q : Exit → Act → World → Prop} (hgd : o.guard = none) (s x : Operand) (t : TypeId)
    (ho : o.op = .call { callee := .builtin .append, args := #[s, x], argTypes := #[t, t] }) (u v r : Value) (hs : a.eval s = u) (hx : a.eval x = v) (hrun : (Builtin.append_ #[t, t] o.type #[u, v]).run Tryz.prog w = .ok r w')
    (h : wpList Tryz.prog ops Q rest (a.put o.dst r) w') : wpList Tryz.prog ops Q (o :: rest) a w := by
  refine wpList_plain hgd fun K hK => ?_
  unfold Oper.wp
  simp [execOp, ho, resolve, invoke, builtin, hs, hx, hrun, Result.andThen]
  exact hK _ _ h


set_option maxRecDepth 20000 in
set_option maxHeartbeats 800000 in
theorem subAt_is (vid id : Int) (rx : Option Addr) (rn rc : Nat) (sx : Option Addr) (sn sc : Nat) (ss : List Sb) (t : Int) (h : fstAt sn (fun i => (sbAt ss i).id == id) = t) (w : World) (hp : SS w sx sn ss) (hn : sn ≤ 1048576) :
    Calls Tryz.prog 55 #[.agg #[.int .i64 vid, .slice rx rn rc, .slice sx sn sc], .int .i64 id] w fun e w' => e = .returned (.int .i64 t) ∧ Below w.heap.size w w' := by
  have ht : Hid (fstAt sn (fun i => (sbAt ss i).id == id) = t) := h
  clear h
  go_enter Tryz.func55, Tryz.ntmps55
  go_upto_region 1 with fail
  obtain ⟨w0, hw0⟩ : ∃ w0, w0 = w.alloc (vpB vid (.slice rx rn rc) (.slice sx sn sc)) := ⟨_, rfl⟩
  rw [← hw0]
  have hB0 : Below w.heap.size w w0 := by rw [hw0]; exact bl1 w _
  have hb0 : w0.heap[w.heap.size]? = some (vpB vid (.slice rx rn rc) (.slice sx sn sc)) := by rw [hw0]; exact heap_new _ rfl
  clear hw0
  have b2 : w0.cell? ⟨w.heap.size, 2, none⟩ = some (.slice sx sn sc) := (box_cells hb0).1 2
  have hp0 := hp.later hB0
  go_wp2
  go_loopw [5] (fun i wr => ∃ k : Nat, i = .int .i64 k ∧ k ≤ sn ∧ wr = w0 ∧ Hid (∀ j, j < k → (sbAt ss j).id ≠ id)) (fun i _ => sn - (intOf i).toNat)
  case atStart => exact ⟨0, rfl, by omega, rfl, fun j hj => by omega⟩
  case round =>
    obtain ⟨k, rfl, hkn, rfl, hno⟩ := hrel
    by_cases hlt : k < sn
    · obtain ⟨b, o, rfl, c0, c1, c2, c3⟩ := hp0.cells k hlt
      have hk0 : (0 : Int) ≤ k := by omega
      have hkn2 : (k : Int) < sn := by omega
      by_cases hid : (sbAt ss k).id = id
      · have hr : Hid (t = k) := by unfold Hid; rw [← ht.out]; exact fstAt_yes hlt (by simp [hid]) (fun j hj => by simpa using hno.out j hj)
        go_wp2
        go_ret
        exact ⟨by rw [hr.out]; rfl, hB0⟩
      · go_wp2
        go_roundw
        case rel => exact ⟨k + 1, by go_num, hlt, by trivial, fun j hj => by
          by_cases hj2 : j < k
          · exact hno.out j hj2
          · obtain rfl : j = k := by omega
            exact hid⟩
        case measure => simp [intOf]; omega
    · have hnk : ¬ (k : Int) < sn := by omega
      have hr : Hid (t = -1) := by unfold Hid; rw [← ht.out]; exact fstAt_no (fun j hj => by simpa using hno.out j (by omega))
      go_wp2
      go_ret
      exact ⟨by rw [hr.out]; rfl, hB0⟩
set_option maxRecDepth 20000 in
set_option maxHeartbeats 800000 in
theorem faceAt_is (s : Sb) (id : Int) (t : Int) (h : fstAt s.n (fun i => (fcAt s.fs i).id == id) = t) (w : World) (hp : FcS w s.x s.n s.fs) (hn : s.n ≤ 1048576) :
    Calls Tryz.prog 65 #[.agg #[.int .i64 s.id, .int .i64 s.a, .int .i64 s.l, .slice s.x s.n s.c], .int .i64 id] w fun e w' => e = .returned (.int .i64 t) ∧ Below w.heap.size w w' := by
  have ht : Hid (fstAt s.n (fun i => (fcAt s.fs i).id == id) = t) := h
  clear h
  go_enter Tryz.func65, Tryz.ntmps65
  go_upto_region 1 with fail
  obtain ⟨w0, hw0⟩ : ∃ w0, w0 = w.alloc (sbO s) := ⟨_, rfl⟩
  rw [← hw0]
  have hB0 : Below w.heap.size w w0 := by rw [hw0]; exact bl1 w _
  have hb0 : w0.heap[w.heap.size]? = some (sbO s) := by rw [hw0]; exact heap_new _ rfl
  clear hw0
  have b3 : w0.cell? ⟨w.heap.size, 3, none⟩ = some (.slice s.x s.n s.c) := (box_cells hb0).1 3
  have hp0 := hp.later hB0
  go_wp2
  go_loopw [5] (fun i wr => ∃ k : Nat, i = .int .i64 k ∧ k ≤ s.n ∧ wr = w0 ∧ Hid (∀ j, j < k → (fcAt s.fs j).id ≠ id)) (fun i _ => s.n - (intOf i).toNat)
  case atStart => exact ⟨0, rfl, by omega, rfl, fun j hj => by omega⟩
  case round =>
    obtain ⟨k, rfl, hkn, rfl, hno⟩ := hrel
    by_cases hlt : k < s.n
    · obtain ⟨b, o, hx, c0, c1⟩ := hp0.cells k hlt
      rw [hx] at b3
      have hk0 : (0 : Int) ≤ k := by omega
      have hkn2 : (k : Int) < s.n := by omega
      clear hx
      by_cases hid : (fcAt s.fs k).id = id
      · have hr : Hid (t = k) := by unfold Hid; rw [← ht.out]; exact fstAt_yes hlt (by simp [hid]) (fun j hj => by simpa using hno.out j hj)
        go_wp2
        go_ret
        exact ⟨by rw [hr.out]; rfl, hB0⟩
      · go_wp2
        go_roundw
        case rel => exact ⟨k + 1, by go_num, hlt, by trivial, fun j hj => by
          by_cases hj2 : j < k
          · exact hno.out j hj2
          · obtain rfl : j = k := by omega
            exact hid⟩
        case measure => simp [intOf]; omega
    · have hnk : ¬ (k : Int) < s.n := by omega
      have hr : Hid (t = -1) := by unfold Hid; rw [← ht.out]; exact fstAt_no (fun j hj => by simpa using hno.out j (by omega))
      go_wp2
      go_ret
      exact ⟨by rw [hr.out]; rfl, hB0⟩

set_option maxRecDepth 100000 in
set_option maxHeartbeats 6400000 in
theorem unsubVpc_any (vid : Int) (rx : Option Addr) (rn rc : Nat) (rs : List Rg) (sx : Option Addr) (sn sc : Nat) (ss : List Sb) (id : Int) (w : World) (hv : Vp w rx rn rc rs sx sn sc ss) (hrn : rn ≤ 9223372036854775807) (hsn : sn ≤ 9223372036854775807) :
    Calls Tryz.prog 17 #[.agg #[.int .i64 vid, .slice rx rn rc, .slice sx sn sc], .int .i64 id] w (VPost (unsubE vid rn rs sn ss id) (UnsubR vid rs ss id) w) := by
  have hsl : Hid (ss.length = sn) := hv.subs.len
  go_enter Tryz.func17, Tryz.ntmps17
  go_upto_region 1 with fail
  obtain ⟨w0, hw0⟩ : ∃ w0, w0 = (w.alloc (vpB vid (.slice rx rn rc) (.slice sx sn sc))).alloc (vpB 0 (.slice none 0 0) (.slice none 0 0)) := ⟨_, rfl⟩
  rw [← hw0]
  have hT0 : TN w w0 vid rx rn rc sx sn sc := by
    rw [hw0]
    exact ⟨heap_old _ (heap_new _ rfl), heap_new _ (by simp), bl2 w _ _⟩
  clear hw0
  have b0 : w0.cell? ⟨w.heap.size, 0, none⟩ = some (.int .i64 vid) := (box_cells hT0.hb).1 0
  have b1 : w0.cell? ⟨w.heap.size, 1, none⟩ = some (.slice rx rn rc) := (box_cells hT0.hb).1 1
  have b2 : w0.cell? ⟨w.heap.size, 2, none⟩ = some (.slice sx sn sc) := (box_cells hT0.hb).1 2
  have s0 : w0.cell? ⟨w.heap.size + 1, 0, none⟩ = some (.int .i64 0) := (box_cells hT0.hs).1 0
  have zs0 : w0.frozen? ⟨w.heap.size + 1, 0, none⟩ = false := (box_cells hT0.hs).2 0
  have s1 : w0.cell? ⟨w.heap.size + 1, 1, none⟩ = some (.slice none 0 0) := (box_cells hT0.hs).1 1
  have zs1 : w0.frozen? ⟨w.heap.size + 1, 1, none⟩ = false := (box_cells hT0.hs).2 1
  have s2 : w0.cell? ⟨w.heap.size + 1, 2, none⟩ = some (.slice none 0 0) := (box_cells hT0.hs).1 2
  have zs2 : w0.frozen? ⟨w.heap.size + 1, 2, none⟩ = false := (box_cells hT0.hs).2 2
  by_cases hc0 : chkV vid rn rs sn ss = 0
  · have hck := checkVpc_is vid rx rn rc rs sx sn sc ss 0 hc0 w0 (hv.later hT0.below) hrn hsn
    obtain ⟨f1, f2, f3, f4⟩ := chkV_few hc0
    have hE1 : Hid (unsubE vid rn rs sn ss id = if fstAt sn (fun i => (sbAt ss i).id == id) < 0 then 5 else if 0 < (sbAt ss (fstAt sn (fun i => (sbAt ss i).id == id)).toNat).n then 9 else 0) := if_neg (c := chkV vid rn rs sn ss ≠ 0) (by simp [hc0])
    clear hc0
    go_wp2_with fail
    refine (hck).mono ?_
    rintro e w1 ⟨rfl, hbw1⟩
    have hT1 := hT0.later hbw1
    clear b0 b1 b2 s0 zs0 s1 zs1 s2 zs2
    have b0 : w1.cell? ⟨w.heap.size, 0, none⟩ = some (.int .i64 vid) := (box_cells hT1.hb).1 0
    have b1 : w1.cell? ⟨w.heap.size, 1, none⟩ = some (.slice rx rn rc) := (box_cells hT1.hb).1 1
    have b2 : w1.cell? ⟨w.heap.size, 2, none⟩ = some (.slice sx sn sc) := (box_cells hT1.hb).1 2
    have s0 : w1.cell? ⟨w.heap.size + 1, 0, none⟩ = some (.int .i64 0) := (box_cells hT1.hs).1 0
    have zs0 : w1.frozen? ⟨w.heap.size + 1, 0, none⟩ = false := (box_cells hT1.hs).2 0
    have s1 : w1.cell? ⟨w.heap.size + 1, 1, none⟩ = some (.slice none 0 0) := (box_cells hT1.hs).1 1
    have zs1 : w1.frozen? ⟨w.heap.size + 1, 1, none⟩ = false := (box_cells hT1.hs).2 1
    have s2 : w1.cell? ⟨w.heap.size + 1, 2, none⟩ = some (.slice none 0 0) := (box_cells hT1.hs).1 2
    have zs2 : w1.frozen? ⟨w.heap.size + 1, 2, none⟩ = false := (box_cells hT1.hs).2 2
    have hsp := fun t h => subAt_is vid id rx rn rc sx sn sc ss t h w1 (hv.later hT1.below).subs (by omega)
    rcases fstAt_cases sn (fun i => (sbAt ss i).id == id) with ⟨i, hi, hf, hno, hfp⟩ | ⟨-, hfp⟩
    · have hsp' := hsp _ hfp
      have hE2 : Hid (unsubE vid rn rs sn ss id = if 0 < (sbAt ss i).n then 9 else 0) := by
        have := hE1.out
        rw [hfp, if_neg (by omega)] at this
        unfold Hid
        simpa using this
      clear hsp hfp hE1
      have hHf : Hid ((sbAt ss i).id = id ∧ ∀ j, j < i → (sbAt ss j).id ≠ id) := ⟨by simpa using hf, fun j hj => by simpa using hno j hj⟩
      clear hf hno
      have hi' : Hid (i < sn) := hi
      obtain ⟨b, o, rfl, c0, c1, c2, c3⟩ := hv.subs.cells i hi
      go_wp2_with fail
      refine (hsp').mono ?_
      rintro e w2 ⟨rfl, hbw2⟩
      have hT2 := hT1.later hbw2
      clear b0 b1 b2 s0 zs0 s1 zs1 s2 zs2
      have b0 : w2.cell? ⟨w.heap.size, 0, none⟩ = some (.int .i64 vid) := (box_cells hT2.hb).1 0
      have b1 : w2.cell? ⟨w.heap.size, 1, none⟩ = some (.slice rx rn rc) := (box_cells hT2.hb).1 1
      have b2 : w2.cell? ⟨w.heap.size, 2, none⟩ = some (.slice (some ⟨b, o, none⟩) sn sc) := (box_cells hT2.hb).1 2
      have s0 : w2.cell? ⟨w.heap.size + 1, 0, none⟩ = some (.int .i64 0) := (box_cells hT2.hs).1 0
      have zs0 : w2.frozen? ⟨w.heap.size + 1, 0, none⟩ = false := (box_cells hT2.hs).2 0
      have s1 : w2.cell? ⟨w.heap.size + 1, 1, none⟩ = some (.slice none 0 0) := (box_cells hT2.hs).1 1
      have zs1 : w2.frozen? ⟨w.heap.size + 1, 1, none⟩ = false := (box_cells hT2.hs).2 1
      have s2 : w2.cell? ⟨w.heap.size + 1, 2, none⟩ = some (.slice none 0 0) := (box_cells hT2.hs).1 2
      have zs2 : w2.frozen? ⟨w.heap.size + 1, 2, none⟩ = false := (box_cells hT2.hs).2 2
      have d3 := cell_later hT2.below c3
      clear c0 c1 c2 c3
      have i0 : (0 : Int) ≤ i := by omega
      have i1 : (i : Int) < sn := by omega
      by_cases hgt : 0 < (sbAt ss i).n
      · have hne : Hid (unsubE vid rn rs sn ss id = 9 ∧ (9 : Int) ≠ 0) := ⟨hE2.out.trans (if_pos hgt), by decide⟩
        have hgt' : (0 : Int) < (sbAt ss i).n := by omega
        go_wp2
        refine bodyPost_ret (v := .tuple #[.agg #[.int .i64 0, .slice none 0 0, .slice none 0 0], .int .i64 9]) (by simp [results, Tryz.results17, go_sem, s0, s1, s2]) rfl ?_
        exact VPost.err hne.out (((hT2.below.setCell (p := ⟨w.heap.size + 1, 0, none⟩) (Nat.le_add_right _ _) _).setCell (p := ⟨w.heap.size + 1, 1, none⟩) (Nat.le_add_right _ _) _).setCell (p := ⟨w.heap.size + 1, 2, none⟩) (Nat.le_add_right _ _) _)
      · have hE0 : Hid (unsubE vid rn rs sn ss id = 0) := hE2.out.trans (if_neg hgt)
        have hgt' : ¬ (0 : Int) < (sbAt ss i).n := by omega
        have hown := ownVpc_any vid rx rn rc rs (some ⟨b, o, none⟩) sn sc ss w2 (hv.later hT2.below) (by omega) (by omega) (fun i hi => by have := f3 i hi; omega) (fun i hi j hj => by have := f4 i hi j hj; omega)
        go_wp2_with fail
        refine hown.mono ?_
        rintro e w5 ⟨vR, vS, ts, rfl, hOR, hss, hOS, hb5⟩
        clear hown hgt hgt'
        have hT5 := hT2.later hb5
        have htl : ts.length = sn := by rw [← hss.1]; exact hsl.out
        obtain ⟨xr, cr, rfl, -⟩ := hOR.rs
        obtain ⟨k, hk⟩ : ∃ k, ts.length = k + 1 := ⟨ts.length - 1, by have := hi'.out; omega⟩
        have hik : i ≤ k := by have := hi'.out; omega
        obtain ⟨g, cap, hg5, cur, hgh, hcap1, hcap2, hvS⟩ : ∃ g cap, w2.heap.size ≤ g ∧ ∃ cur, w5.heap[g]? = some (.cells cur 55) ∧ k + 1 ≤ cap ∧ cap ≤ 9223372036854775807 ∧ vS = .slice (some ⟨g, 0, none⟩) (k + 1) cap := by
          obtain ⟨x2, c2, hv2, h1, h2, -, -⟩ := hOS.row.mem
          rcases hOS.row.2 with ⟨hv', -⟩ | ⟨g, cap, cur, hv', hg1, hg2, -⟩
          · rw [hv'] at hv2; simp only [Value.slice.injEq] at hv2; omega
          · rw [hv'] at hv2
            simp only [Value.slice.injEq] at hv2
            obtain ⟨-, -, rfl⟩ := hv2
            exact ⟨g, cap, hg1, cur, hg2, by omega, h2, by rw [hv', hk]⟩
        subst hvS
        have hk' : Hid (ts.length = k + 1) := hk
        have hit : Hid (i < ts.length) := by unfold Hid; omega
        clear d3 hk htl
        clear b0 b1 b2 s0 zs0 s1 zs1 s2 zs2
        have hgl : g < w5.heap.size := (Array.getElem?_eq_some_iff.1 hgh).1
        go_upto_region 10 with fail
        obtain ⟨w6, hw6⟩ : ∃ w6, w6 = w5.alloc (vpB vid (.slice xr rs.length cr) (.slice (some ⟨g, 0, none⟩) (k + 1) cap)) := ⟨_, rfl⟩
        rw [← hw6]
        have hb56 : Below w5.heap.size w5 w6 := by rw [hw6]; exact bl1 _ _
        have hn6 : w6.heap[w5.heap.size]? = some (vpB vid (.slice xr rs.length cr) (.slice (some ⟨g, 0, none⟩) (k + 1) cap)) := by rw [hw6]; exact heap_new _ rfl
        clear hw6
        have hT6 := hT5.later hb56
        have hg6 := heap_later hb56 hgh
        have hOR6 := OwnR.later hOR hb56
        have hOS6 := OSs.later hOS hb56
        have n2 : w6.cell? ⟨w5.heap.size, 2, none⟩ = some (.slice (some ⟨g, 0, none⟩) (k + 1) cap) := (box_cells hn6).1 2
        have hsz2 : w.heap.size + 1 < w2.heap.size := (Array.getElem?_eq_some_iff.1 hT2.hs).1
        have a1 : (i : Int) ≤ cap := by omega
        have a2 : (i : Int) + 1 ≤ (k : Int) + 1 := by omega
        have a3 : (k : Int) + 1 ≤ cap := by omega
        have a4 : (0 : Int) ≤ (i : Int) + 1 := by omega
        have a5 : i ≤ cap := by omega
        have a6 : i + 1 ≤ k + 1 := by omega
        have a7 : i ≤ k := by omega
        have a8 : (i : Int) ≤ (k : Int) := by omega
        have g1 := Ws.here n2
        have happ : Hid (∀ w7, Below w6.heap.size w6 w7 → ∃ w8, (∀ q c', ((cap = i + 1 ∧ q = 0 ∧ c' = 0) ∨ (¬ cap = i + 1 ∧ q = (i + 1) * 4 ∧ c' = cap - (i + 1))) → (Builtin.append_ #[23, 23] 23 #[.slice (some ⟨g, 0, none⟩) i cap, .slice (some ⟨g, q, none⟩) (k - i) c']).run Tryz.prog w7 = .ok (.slice (some ⟨g, 0, none⟩) k cap) w8) ∧ OwnS w8 w2.heap.size (.slice (some ⟨g, 0, none⟩) k cap) (ts.take i ++ ts.drop (i + 1)) ∧ w8.heap[w5.heap.size]? = some (vpB vid (.slice xr rs.length cr) (.slice (some ⟨g, 0, none⟩) (k + 1) cap)) ∧ w8.heap[w.heap.size + 1]? = some (vpB 0 (.slice none 0 0) (.slice none 0 0)) ∧ Below w.heap.size w w8 ∧ OwnR w8 w2.heap.size (.slice xr rs.length cr) rs ∧ OFa w8 w2.heap.size ts) := fun w7 hB7 => by
          have hOS7 := OSs.later hOS6 hB7
          obtain ⟨w8, hap, hO8, hg8⟩ := cutS_run w2.heap.size g k cap i ts w7 hOS7.row hk'.out hik hcap1
          have hgg7 := heap_later hB7 hg6
          have hOR7 := OwnR.later hOR6 hB7
          exact ⟨w8, hap, hO8, grown_box hg8 (by omega) (heap_later hB7 hn6), grown_box hg8 (by omega) (heap_later hB7 hT6.hs), below_grownr (hT6.later hB7).below hg8 (fun q e => by cases e; omega), hOR7.kept hg8 (fun q hq e => by subst e; exact hOR7.ne hgg7 (by decide) hq), hOS7.ofa.keptOf hg8 hgg7 (by decide) (by decide)⟩
        clear n2
        go_cut [8] (fun s wd => s = .pointer (some ⟨w5.heap.size, 0, none⟩) ∧ ∃ w8, OwnS w8 w2.heap.size (.slice (some ⟨g, 0, none⟩) k cap) (ts.take i ++ ts.drop (i + 1)) ∧ w8.heap[w5.heap.size]? = some (vpB vid (.slice xr rs.length cr) (.slice (some ⟨g, 0, none⟩) (k + 1) cap)) ∧ w8.heap[w.heap.size + 1]? = some (vpB 0 (.slice none 0 0) (.slice none 0 0)) ∧ Below w.heap.size w w8 ∧ OwnR w8 w2.heap.size (.slice xr rs.length cr) rs ∧ OFa w8 w2.heap.size ts ∧ wd = w8.setCell ⟨w5.heap.size, 2, none⟩ (.slice (some ⟨g, 0, none⟩) k cap))
        case first =>
          by_cases hcj : cap = i + 1
          · obtain rfl : i = k := by omega
            subst hcj
            refine wp_region_tail w6.heap.size 9 (by kernel_rfl) (by kernel_rfl) ?_
            simp only [List.take_succ_cons, List.take_zero, List.drop_succ_cons, List.drop_zero]
            repeat (go_big_quiet_step (fail))
            refine wpQuiet_nil ?_
            intro uu
            obtain ⟨w8, hap, hO8, hn8, hs8, hB8, hOR8, hF8⟩ := happ.out uu.val uu.property
            generalize uu.val = w7 at hap ⊢
            have hap1 := hap 0 0 (.inl ⟨rfl, rfl, rfl⟩)
            rw [Nat.sub_self] at hap1
            clear hap happ g1 uu
            refine wpList_append_runv rfl _ _ _ rfl _ _ _ rfl rfl hap1 ?_
            have q1 : w8.cell? ⟨w5.heap.size, 2, none⟩ = some (.slice (some ⟨g, 0, none⟩) (i + 1) (i + 1)) := (box_cells hn8).1 2
            have zq1 : w8.frozen? ⟨w5.heap.size, 2, none⟩ = false := (box_cells hn8).2 2
            go_wp2
            go_meet
            case rel => exact ⟨rfl, w8, hO8, hn8, hs8, hB8, hOR8, hF8, rfl⟩
          · have h1 : ¬ cap ≤ i + 1 := by omega
            have h2 : i + 1 < cap := by omega
            have h3 : ¬ i + 1 = cap := by omega
            refine wp_region_tail w6.heap.size 9 (by kernel_rfl) (by kernel_rfl) ?_
            simp only [List.take_succ_cons, List.take_zero, List.drop_succ_cons, List.drop_zero]
            repeat (go_big_quiet_step (fail))
            refine wpQuiet_nil ?_
            intro uu
            obtain ⟨w8, hap, hO8, hn8, hs8, hB8, hOR8, hF8⟩ := happ.out uu.val uu.property
            generalize uu.val = w7 at hap ⊢
            have hap1 := hap _ _ (.inr ⟨hcj, rfl, rfl⟩)
            clear hap happ g1 uu
            refine wpList_append_runv rfl _ _ _ rfl _ _ _ rfl rfl hap1 ?_
            have q1 : w8.cell? ⟨w5.heap.size, 2, none⟩ = some (.slice (some ⟨g, 0, none⟩) (k + 1) cap) := (box_cells hn8).1 2
            have zq1 : w8.frozen? ⟨w5.heap.size, 2, none⟩ = false := (box_cells hn8).2 2
            go_wp2
            go_meet
            case rel => exact ⟨rfl, w8, hO8, hn8, hs8, hB8, hOR8, hF8, rfl⟩
        case rest =>
        obtain ⟨rfl, w8, hO7, hn7, hs7, hB7, hOR7, hF7, hwd⟩ := hcut
        have hn9 : wc.heap[w5.heap.size]? = some (vpB vid (.slice xr rs.length cr) (.slice (some ⟨g, 0, none⟩) k cap)) := by
          rw [hwd]
          have := heap_setCell_same w8 w5.heap.size 2 _ 25 (.slice (some ⟨g, 0, none⟩) k cap) hn7
          simpa using this
        have hs9 : wc.heap[w.heap.size + 1]? = some (vpB 0 (.slice none 0 0) (.slice none 0 0)) := by rw [hwd]; exact (heap_setCell_other _ _ _ _ (by show w.heap.size + 1 ≠ w5.heap.size; omega)).trans hs7
        have hfin : Below w.heap.size w wc := by rw [hwd]; exact hB7.setCell (p := ⟨w5.heap.size, 2, none⟩) (by show w.heap.size ≤ w5.heap.size; omega) _
        have hor : OwnR wc w2.heap.size (.slice xr rs.length cr) rs := by rw [hwd]; exact hOR7.putBox hn7 (by decide)
        have hoq : OwnS wc w2.heap.size (.slice (some ⟨g, 0, none⟩) k cap) (ts.take i ++ ts.drop (i + 1)) := by rw [hwd]; exact hO7.putBox hn7 (by decide)
        have hfa : OFa wc w2.heap.size ts := by rw [hwd]; exact hF7.keptOf (set_grown _ _ _ _) hn7 (by decide) (by decide)
        clear hwd g1 happ hO7 hn7 hs7 hB7 hOR7 hF7
        have m0 : wc.cell? ⟨w5.heap.size, 0, none⟩ = some (.int .i64 vid) := (box_cells hn9).1 0
        have m1 : wc.cell? ⟨w5.heap.size, 1, none⟩ = some (.slice xr rs.length cr) := (box_cells hn9).1 1
        have m2 : wc.cell? ⟨w5.heap.size, 2, none⟩ = some (.slice (some ⟨g, 0, none⟩) k cap) := (box_cells hn9).1 2
        have s0 : wc.cell? ⟨w.heap.size + 1, 0, none⟩ = some (.int .i64 0) := (box_cells hs9).1 0
        have s1 : wc.cell? ⟨w.heap.size + 1, 1, none⟩ = some (.slice none 0 0) := (box_cells hs9).1 1
        have s2 : wc.cell? ⟨w.heap.size + 1, 2, none⟩ = some (.slice none 0 0) := (box_cells hs9).1 2
        have zs0 : wc.frozen? ⟨w.heap.size + 1, 0, none⟩ = false := (box_cells hs9).2 0
        have zs1 : wc.frozen? ⟨w.heap.size + 1, 1, none⟩ = false := (box_cells hs9).2 1
        have zs2 : wc.frozen? ⟨w.heap.size + 1, 2, none⟩ = false := (box_cells hs9).2 2
        go_wp2
        refine bodyPost_ret (v := .tuple #[.agg #[.int .i64 vid, .slice xr rs.length cr, .slice (some ⟨g, 0, none⟩) k cap], .int .i64 0]) (by simp [results, Tryz.results17, go_sem, s0, s1, s2]) rfl ?_
        refine VPost.ok hE0.out (((hfin.setCell (p := ⟨w.heap.size + 1, 0, none⟩) (Nat.le_add_right _ _) _).setCell (p := ⟨w.heap.size + 1, 1, none⟩) (Nat.le_add_right _ _) _).setCell (p := ⟨w.heap.size + 1, 2, none⟩) (Nat.le_add_right _ _) _) ⟨ts, i, hss, hit.out, hHf.out.1, hHf.out.2, NV.mk (((hor.put hsz2).put hsz2).put hsz2) (((hoq.put hsz2).put hsz2).put hsz2) ((((hfa.put hsz2).put hsz2).put hsz2).part (fun s hs => ?_)).fcb⟩
        rcases List.mem_append.1 hs with hs | hs
        · exact List.mem_of_mem_take hs
        · exact List.mem_of_mem_drop hs
    · have hsp' := hsp _ hfp
      have hne : Hid (unsubE vid rn rs sn ss id = 5 ∧ (5 : Int) ≠ 0) := ⟨hE1.out.trans (if_pos (by rw [hfp]; decide)), by decide⟩
      clear hfp hE1 hsp
      go_wp2_with fail
      refine (hsp').mono ?_
      rintro e w2 ⟨rfl, hbw2⟩
      have hT2 := hT1.later hbw2
      clear b0 b1 b2 s0 zs0 s1 zs1 s2 zs2
      have b0 : w2.cell? ⟨w.heap.size, 0, none⟩ = some (.int .i64 vid) := (box_cells hT2.hb).1 0
      have b1 : w2.cell? ⟨w.heap.size, 1, none⟩ = some (.slice rx rn rc) := (box_cells hT2.hb).1 1
      have b2 : w2.cell? ⟨w.heap.size, 2, none⟩ = some (.slice sx sn sc) := (box_cells hT2.hb).1 2
      have s0 : w2.cell? ⟨w.heap.size + 1, 0, none⟩ = some (.int .i64 0) := (box_cells hT2.hs).1 0
      have zs0 : w2.frozen? ⟨w.heap.size + 1, 0, none⟩ = false := (box_cells hT2.hs).2 0
      have s1 : w2.cell? ⟨w.heap.size + 1, 1, none⟩ = some (.slice none 0 0) := (box_cells hT2.hs).1 1
      have zs1 : w2.frozen? ⟨w.heap.size + 1, 1, none⟩ = false := (box_cells hT2.hs).2 1
      have s2 : w2.cell? ⟨w.heap.size + 1, 2, none⟩ = some (.slice none 0 0) := (box_cells hT2.hs).1 2
      have zs2 : w2.frozen? ⟨w.heap.size + 1, 2, none⟩ = false := (box_cells hT2.hs).2 2
      go_wp2
      refine bodyPost_ret (v := .tuple #[.agg #[.int .i64 0, .slice none 0 0, .slice none 0 0], .int .i64 5]) (by simp [results, Tryz.results17, go_sem, s0, s1, s2]) rfl ?_
      exact VPost.err hne.out (((hT2.below.setCell (p := ⟨w.heap.size + 1, 0, none⟩) (Nat.le_add_right _ _) _).setCell (p := ⟨w.heap.size + 1, 1, none⟩) (Nat.le_add_right _ _) _).setCell (p := ⟨w.heap.size + 1, 2, none⟩) (Nat.le_add_right _ _) _)
  · have hck := checkVpc_is vid rx rn rc rs sx sn sc ss _ rfl w0 (hv.later hT0.below) hrn hsn
    have hne : unsubE vid rn rs sn ss id = chkV vid rn rs sn ss ∧ chkV vid rn rs sn ss ≠ 0 := ⟨if_pos hc0, hc0⟩
    go_wp2_with fail
    refine (hck).mono ?_
    rintro e w1 ⟨rfl, hbw1⟩
    have hT1 := hT0.later hbw1
    clear b0 b1 b2 s0 zs0 s1 zs1 s2 zs2
    have b0 : w1.cell? ⟨w.heap.size, 0, none⟩ = some (.int .i64 vid) := (box_cells hT1.hb).1 0
    have b1 : w1.cell? ⟨w.heap.size, 1, none⟩ = some (.slice rx rn rc) := (box_cells hT1.hb).1 1
    have b2 : w1.cell? ⟨w.heap.size, 2, none⟩ = some (.slice sx sn sc) := (box_cells hT1.hb).1 2
    have s0 : w1.cell? ⟨w.heap.size + 1, 0, none⟩ = some (.int .i64 0) := (box_cells hT1.hs).1 0
    have zs0 : w1.frozen? ⟨w.heap.size + 1, 0, none⟩ = false := (box_cells hT1.hs).2 0
    have s1 : w1.cell? ⟨w.heap.size + 1, 1, none⟩ = some (.slice none 0 0) := (box_cells hT1.hs).1 1
    have zs1 : w1.frozen? ⟨w.heap.size + 1, 1, none⟩ = false := (box_cells hT1.hs).2 1
    have s2 : w1.cell? ⟨w.heap.size + 1, 2, none⟩ = some (.slice none 0 0) := (box_cells hT1.hs).1 2
    have zs2 : w1.frozen? ⟨w.heap.size + 1, 2, none⟩ = false := (box_cells hT1.hs).2 2
    go_wp2
    refine bodyPost_ret (v := .tuple #[.agg #[.int .i64 0, .slice none 0 0, .slice none 0 0], .int .i64 (chkV vid rn rs sn ss)]) (by simp [results, Tryz.results17, go_sem, s0, s1, s2]) rfl ?_
    exact VPost.err hne (((hT1.below.setCell (p := ⟨w.heap.size + 1, 0, none⟩) (Nat.le_add_right _ _) _).setCell (p := ⟨w.heap.size + 1, 1, none⟩) (Nat.le_add_right _ _) _).setCell (p := ⟨w.heap.size + 1, 2, none⟩) (Nat.le_add_right _ _) _)
end Go.Proofs.YtpdhipjeobchfaaGreat
/- What least of the reference comes to. -/
namespace Go.Proofs.YtpdhipjeobchfaaGreat
open Go.RowKit Go.Shelf

theorem allNs_snoc (fs : List Fc) (k : Nat) (hk : k < fs.length) : allNs (fs.take (k + 1)) = allNs (fs.take k) ++ (fcAt fs k).ns := by
  have h : fs[k]? = some (fcAt fs k) := by
    unfold fcAt
    rw [List.getD_eq_getElem?_getD, List.getElem?_eq_getElem hk]
    rfl
  rw [take_one h]
  simp [allNs]
theorem inAt_some {ns : List Int} {k : Nat} (h : k < ns.length) : ns[k]? = some (inAt ns k) := by
  unfold inAt
  rw [List.getD_eq_getElem?_getD, List.getElem?_eq_getElem h]
  rfl
theorem free_next (t t' : Bool) (ns : List Int) (j : Nat) (y x : Int) (hx : ns[j]? = some x) (h : t' = (t && !decide (y ∈ ns.take j))) : (t && !decide (y ∈ ns.take (j + 1))) = (t' && decide (x ≠ y)) := by
  rw [h, take_one hx]
  have e : decide (y ∈ ns.take j ++ [x]) = (decide (y ∈ ns.take j) || decide (x = y)) := by
    rw [Bool.eq_iff_iff]
    simp only [List.mem_append, List.mem_singleton, decide_eq_true_eq, Bool.or_eq_true]
    exact ⟨fun h => h.imp (fun h => h) (fun h => h.symm), fun h => h.imp (fun h => h) (fun h => h.symm)⟩
  have e2 : decide (x ≠ y) = !decide (x = y) := by simp
  rw [e, e2]
  cases t <;> cases decide (y ∈ ns.take j) <;> cases decide (x = y) <;> rfl
theorem free_end (b : Bool) (A B : List Int) (y : Int) : ((b && !decide (y ∈ A)) && !decide (y ∈ B)) = (b && !decide (y ∈ A ++ B)) := by
  have e : decide (y ∈ A ++ B) = (decide (y ∈ A) || decide (y ∈ B)) := by
    rw [Bool.eq_iff_iff]
    simp
  rw [e]
  cases b <;> cases decide (y ∈ A) <;> cases decide (y ∈ B) <;> rfl
def LeastRPost (s : Sb) (w : World) (e : Ending) (w' : World) : Prop :=
  Below w.heap.size w w' ∧ ((∃ y, e = .returned (.int .i64 y) ∧ 0 ≤ y ∧ Least s y) ∨ (e = .returned (.int .i64 (-1)) ∧ ∀ z, usB s.a s.l z = true → z ∈ allNs s.fs))

set_option maxRecDepth 100000 in
set_option maxHeartbeats 3200000 in
theorem leastR_any (s : Sb) (w : World) (hrt : rt s.a s.l = true) (hp : FcS w s.x s.n s.fs) (hn : s.n ≤ 64) (hm : ∀ i, i < s.n → (fcAt s.fs i).n ≤ 64) :
    Calls Tryz.prog 64 #[.agg #[.int .i64 s.id, .int .i64 s.a, .int .i64 s.l, .slice s.x s.n s.c]] w (LeastRPost s w) := by
  obtain ⟨h0, h1, h2, h3, h4⟩ := rt_range hrt
  have htop := rt_top hrt
  have hpos := sp_pos s.l
  have hlast := fun W => last_any s.a s.l W h0 h1 h2 h3
  have hinn := fun y t ht W => inner_is s.id s.a s.l s.x s.n s.c y t ht W hrt
  have hfl : Hid (s.fs.length = s.n) := hp.len
  go_enter Tryz.func64, Tryz.ntmps64
  go_upto_region 1 with fail
  obtain ⟨w0, hw0⟩ : ∃ w0, w0 = w.alloc (sbO s) := ⟨_, rfl⟩
  rw [← hw0]
  have hB0 : Below w.heap.size w w0 := by rw [hw0]; exact bl1 w _
  have hb0 : w0.heap[w.heap.size]? = some (sbO s) := by rw [hw0]; exact heap_new _ rfl
  clear hw0
  have c1 : w0.cell? ⟨w.heap.size, 1, none⟩ = some (.int .i64 s.a) := (box_cells hb0).1 1
  go_wp2
  clear c1
  go_loopw [3] (fun i wr => ∃ y : Int, i = .int .i64 y ∧ s.a ≤ y ∧ y ≤ s.a + sp s.l ∧ Below w0.heap.size w0 wr ∧ Hid (∀ z, s.a < z → z < y → usB s.a s.l z = true → z ∈ allNs s.fs)) (fun i _ => (s.a + sp s.l - intOf i).toNat)
  case atStart => exact ⟨s.a, rfl, by omega, by omega, Below.refl _ _, fun z h5 h6 => by omega⟩
  case round =>
    obtain ⟨y, rfl, hy1, hy2, hBy, hall⟩ := hrel
    have hbx := heap_later hBy hb0
    have c1 : wr.cell? ⟨w.heap.size, 1, none⟩ = some (.int .i64 s.a) := (box_cells hbx).1 1
    have c2 : wr.cell? ⟨w.heap.size, 2, none⟩ = some (.int .i64 s.l) := (box_cells hbx).1 2
    by_cases hle : y ≤ s.a + sp s.l - 1
    · go_wp2_with fail
      refine (hlast wr).mono ?_
      rintro e w1 ⟨rfl, hb1⟩
      have hB1 := hBy.trans (hb1.mono hBy.size)
      have hbx1 := heap_later hb1 hbx
      clear c1 c2
      have c0 : w1.cell? ⟨w.heap.size, 0, none⟩ = some (.int .i64 s.id) := (box_cells hbx1).1 0
      have c1 : w1.cell? ⟨w.heap.size, 1, none⟩ = some (.int .i64 s.a) := (box_cells hbx1).1 1
      have c2 : w1.cell? ⟨w.heap.size, 2, none⟩ = some (.int .i64 s.l) := (box_cells hbx1).1 2
      have c3 : w1.cell? ⟨w.heap.size, 3, none⟩ = some (.slice s.x s.n s.c) := (box_cells hbx1).1 3
      obtain ⟨b0, hb00⟩ : ∃ b0, Hid (usB s.a s.l y = b0) := ⟨_, rfl⟩
      have hin := hinn y b0 hb00.out w1
      go_wp2_with fail
      refine hin.mono ?_
      rintro e w2 ⟨rfl, hb2⟩
      have hB2 := hB1.trans (hb2.mono hB1.size)
      have hbx2 := heap_later hb2 hbx1
      clear c0 c1 c2 c3 hin
      have hp2 := hp.later (hB0.trans (hB2.mono hB0.size))
      have c3 : w2.cell? ⟨w.heap.size, 3, none⟩ = some (.slice s.x s.n s.c) := (box_cells hbx2).1 3
      go_wp2
      obtain ⟨wo, rfl⟩ : ∃ wo, wo = wr := ⟨_, rfl⟩
      go_loopw [4, 5] (fun d i wq => ∃ (k : Nat) (t : Bool), d = .bool t ∧ i = .int .i64 k ∧ k ≤ s.n ∧ wq = w2 ∧ Hid (t = (b0 && !decide (y ∈ allNs (s.fs.take k))))) (fun _ i _ => s.n - (intOf i).toNat)
      case atStart => exact ⟨0, b0, rfl, rfl, by omega, rfl, by unfold Hid; simp [allNs]⟩
      case round =>
        obtain ⟨k, t, rfl, rfl, hkn, rfl, ht⟩ := hrel
        by_cases hlt : k < s.n
        · obtain ⟨b, o, hx, q0, q1⟩ := hp2.cells k hlt
          obtain ⟨hac, ham, hAS⟩ := hp2.addrs k hlt
          have c3' : wr.cell? ⟨w.heap.size, 3, none⟩ = some (.slice (some ⟨b, o, none⟩) s.n s.c) := by rw [← hx]; exact c3
          have hlth : Hid (k < s.n) := hlt
          have hmk := hm k hlt
          have hk0 : (0 : Int) ≤ k := by omega
          have hkn2 : (k : Int) < s.n := by omega
          have hc3 : Hid (wr.cell? ⟨w.heap.size, 3, none⟩ = some (.slice s.x s.n s.c)) := c3
          clear c3 hlt hx
          go_wp2
          go_loopw [4, 6] (fun d i wq => ∃ (j : Nat) (t' : Bool), d = .bool t' ∧ i = .int .i64 j ∧ j ≤ (fcAt s.fs k).n ∧ wq = wr ∧ Hid (t' = (t && !decide (y ∈ (fcAt s.fs k).ns.take j)))) (fun _ i _ => (fcAt s.fs k).n - (intOf i).toNat)
          case atStart => exact ⟨0, t, rfl, rfl, by omega, by trivial, by unfold Hid; simp⟩
          case round =>
            obtain ⟨j, t', rfl, rfl, hjn, rfl, ht'⟩ := hrel
            by_cases hltj : j < (fcAt s.fs k).n
            · obtain ⟨b2, o2, hx2, r0⟩ := hAS.cells j hltj
              have q1' : wr.cell? ⟨b, o + k * 2 + 1, none⟩ = some (.slice (some ⟨b2, o2, none⟩) (fcAt s.fs k).n (fcAt s.fs k).c) := by rw [← hx2]; exact q1
              have hltjh : Hid (j < (fcAt s.fs k).n) := hltj
              have hj0 : (0 : Int) ≤ j := by omega
              have hjn2 : (j : Int) < (fcAt s.fs k).n := by omega
              have hnext : Hid ((t && !decide (y ∈ (fcAt s.fs k).ns.take (j + 1))) = (t' && decide (inAt (fcAt s.fs k).ns j ≠ y))) := free_next t t' _ j y _ (inAt_some (by rw [hAS.len]; exact hltj)) ht'.out
              have hq1 : Hid (wr.cell? ⟨b, o + k * 2 + 1, none⟩ = some (.slice (fcAt s.fs k).x (fcAt s.fs k).n (fcAt s.fs k).c)) := q1
              clear q1 hltj hx2
              cases t' with
              | true =>
                by_cases hne : inAt (fcAt s.fs k).ns j = y
                · go_wp2
                  go_roundw
                  case rel => exact ⟨j + 1, false, rfl, by go_num, hltjh.out, by trivial, by unfold Hid; rw [hnext.out]; simp [hne]⟩
                  case measure => have := hltjh.out; simp [intOf]; omega
                · have hne2 : (inAt (fcAt s.fs k).ns j != y) = true := by simp [hne]
                  go_wp2
                  go_roundw
                  case rel => exact ⟨j + 1, true, rfl, by go_num, hltjh.out, by trivial, by unfold Hid; rw [hnext.out]; simp [hne]⟩
                  case measure => have := hltjh.out; simp [intOf]; omega
              | false =>
                go_wp2
                go_roundw
                case rel => exact ⟨j + 1, false, rfl, by go_num, hltjh.out, by trivial, by unfold Hid; rw [hnext.out]; simp⟩
                case measure => have := hltjh.out; simp [intOf]; omega
            · have hnj : ¬ (j : Int) < (fcAt s.fs k).n := by omega
              have hend : Hid (t' = (b0 && !decide (y ∈ allNs (s.fs.take (k + 1))))) := by
                unfold Hid
                have e3 : (fcAt s.fs k).ns.take j = (fcAt s.fs k).ns := List.take_of_length_le (by rw [hAS.len]; omega)
                rw [ht'.out, ht.out, allNs_snoc _ _ (by rw [hfl.out]; exact hlth.out), e3]
                exact free_end _ _ _ _
              go_wp2
              go_roundw
              case rel => exact ⟨k + 1, t', rfl, by go_num, hlth.out, by trivial, hend⟩
              case measure => have := hlth.out; simp [intOf]; omega
        · have hnk : ¬ (k : Int) < s.n := by omega
          have hfree : Hid (t = (b0 && !decide (y ∈ allNs s.fs))) := by
            unfold Hid
            rw [ht.out, List.take_of_length_le (by rw [hfl.out]; omega)]
          cases t with
          | true =>
            have hh : Hid (usB s.a s.l y = true ∧ y ∉ allNs s.fs) := by
              have := hfree.out
              simp only [Bool.true_eq, Bool.and_eq_true, Bool.not_eq_true', decide_eq_false_iff_not] at this
              exact ⟨hb00.out.trans this.1, this.2⟩
            have hL : Hid (Least s y) := ⟨hh.out.1, hh.out.2, fun z hz1 hz2 => hall.out z hz1 hz2 (by
              have hu := hh.out.1
              unfold usB at hu ⊢
              simp only [Bool.and_eq_true, decide_eq_true_eq] at hu ⊢
              omega)⟩
            go_wp2
            go_ret
            exact ⟨hB0.trans (hB2.mono hB0.size), .inl ⟨y, rfl, by omega, hL.out⟩⟩
          | false =>
            have hh : Hid (usB s.a s.l y = true → y ∈ allNs s.fs) := fun hu => by
              have h5 := hfree.out
              rw [← hb00.out, hu] at h5
              simpa using h5
            go_wp2
            go_roundw
            case rel => exact ⟨y + 1, by go_num, by omega, by omega, hB2, fun z hz1 hz2 hz3 => by
              by_cases hzy : z < y
              · exact hall.out z hz1 hzy hz3
              · obtain rfl : z = y := by omega
                exact hh.out hz3⟩
            case measure => simp [intOf]; omega
    · have hgt : ¬ y ≤ s.a + sp s.l - 1 := hle
      go_wp2_with fail
      refine (hlast wr).mono ?_
      rintro e w1 ⟨rfl, hb1⟩
      go_wp2
      go_ret
      refine ⟨hB0.trans ((hBy.trans (hb1.mono hBy.size)).mono hB0.size), .inr ⟨rfl, fun z hz => hall.out z ?_ ?_ hz⟩⟩
      · unfold usB at hz
        simp only [Bool.and_eq_true, decide_eq_true_eq] at hz
        exact hz.1
      · unfold usB at hz
        simp only [Bool.and_eq_true, decide_eq_true_eq] at hz
        omega
end Go.Proofs.YtpdhipjeobchfaaGreat
