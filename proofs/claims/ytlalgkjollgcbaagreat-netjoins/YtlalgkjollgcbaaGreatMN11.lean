/- usesOf and uses.twice of package vpc: a map that counts. -/
import Derived.Test.YtlalgkjollgcbaaGreatMN10
import Derived.Maps.OwnOps
import Derived.Maps.RangeWalk
import Derived.Maps.Views
namespace Go.Proofs.YtlalgkjollgcbaaGreat
open Go.RowKit Go.Shelf Go.Maps

theorem key_law : Keyed Tryz.prog 3 := int_keyed under_int
theorem zero_int (w : World) : (zeroValue 3).run Tryz.prog w = .ok (.int .i64 0) w := by kernel_rfl
theorem under_uses : Tryz.prog.underlying 137 = some (.map 3 3) := by kernel_rfl
/-- The map tells of each number how often it stands in the list. -/
structure Counts (D : DataW Unit) (L : List Int) : Prop where
  isMap : IsMap D
  at_ : ∀ a : Int, D.atKey (.int .i64 a) (.lit (.int .i64 0)) = .lit (.int .i64 (L.count a))
  has_ : ∀ a : Int, has D (.int .i64 a) = decide (a ∈ L)
theorem Counts.empty : Counts (.map []) [] := ⟨isMap_empty, fun _ => rfl, fun _ => rfl⟩
theorem Counts.put {D : DataW Unit} {L : List Int} (h : Counts D L) (a : Int) : Counts (D.put (.int .i64 a) (.lit (.int .i64 ((L.count a : Nat) + 1)))) (L ++ [a]) where
  isMap := h.isMap.put _ _
  at_ := fun b => by
    by_cases e : b = a
    · subst e
      rw [atKey_put_same h.isMap (by trivial), List.count_append]
      simp
    · rw [atKey_put_other (by intro e2; exact e (by cases e2; rfl)), h.at_ b, List.count_append]
      simp [Ne.symm e]
  has_ := fun b => by
    by_cases e : b = a
    · subst e
      rw [has_put_same h.isMap (by trivial)]
      simp
    · rw [has_put_other (by intro e2; exact e (by cases e2; rfl)), h.has_ b]
      simp [e]
/-- All addresses of these faces. -/
def allNs (fs : List Fc) : List Int := fs.flatMap (·.ns)
theorem fcAt_get {fs : List Fc} {i : Nat} (h : i < fs.length) : fcAt fs i = fs[i] := by simp [fcAt, List.getD_eq_getElem?_getD, h]
theorem allNs_take {fs : List Fc} {k : Nat} (h : k < fs.length) : allNs (fs.take (k + 1)) = allNs (fs.take k) ++ (fcAt fs k).ns := by
  unfold allNs
  rw [List.take_add_one, List.getElem?_eq_getElem h, fcAt_get h, Option.toList_some, List.flatMap_append]
  simp only [List.flatMap_cons, List.flatMap_nil, List.append_nil]
theorem inAt_get {ns : List Int} {i : Nat} (h : i < ns.length) : inAt ns i = ns[i] := by simp [inAt, List.getD_eq_getElem?_getD, h]
theorem ns_take {ns : List Int} {k : Nat} (h : k < ns.length) : ns.take (k + 1) = ns.take k ++ [inAt ns k] := by
  rw [List.take_add_one, List.getElem?_eq_getElem h, inAt_get h, Option.toList_some]
theorem wf_small {a : Int} (h0 : 0 ≤ a) (h1 : a ≤ 1000000) : (Lit.int .i64 a).wf = true := by
  have e1 : IntKind.i64.min = -9223372036854775808 := by decide
  have e2 : IntKind.i64.max = 9223372036854775807 := by decide
  simp only [Lit.wf, e1, e2, Bool.and_eq_true, decide_eq_true_eq]
  omega
abbrev sbO (p : Sb) : Obj := .cells #[.int .i64 p.id, .int .i64 p.a, .int .i64 p.l, .slice p.x p.n p.c] 90
abbrev fcO (p : Fc) : Obj := .cells #[.int .i64 p.id, .slice p.x p.n p.c] 99

set_option maxRecDepth 100000 in
set_option maxHeartbeats 1600000 in
theorem usesOf_any (id a l : Int) (x : Option Addr) (n c : Nat) (fs : List Fc) (w : World) (hp : FcS w x n fs) (hn : n ≤ 64) (hm : ∀ i, i < n → (fcAt fs i).n ≤ 64)
    (hr : ∀ i, i < n → ∀ j, j < (fcAt fs i).n → 0 ≤ inAt (fcAt fs i).ns j ∧ inAt (fcAt fs i).ns j ≤ 1000000) :
    Calls Tryz.prog 124 #[.agg #[.int .i64 id, .int .i64 a, .int .i64 l, .slice x n c]] w fun e w' => ∃ bm D, e = .returned (.map (some bm)) ∧ w.heap.size ≤ bm ∧ w'.ownsMap Tryz.prog 3 (plainElem Tryz.prog 3) bm (allNs fs).length D ∧ Counts D (allNs fs) ∧ Below w.heap.size w w' := by
  have hmm := @run_makeMap Tryz.prog
  have hfl : Hid (fs.length = n) := hp.len
  go_enter Tryz.func124, Tryz.ntmps124
  go_wp2
  go_loopw [12] (fun i wr => ∃ (k : Nat) (D : DataW Unit), k ≤ n ∧ i = .int .i64 k ∧ Below w.heap.size w wr ∧ wr.ownsMap Tryz.prog 3 (plainElem Tryz.prog 3) (w.heap.size + 1) (allNs (fs.take k)).length D ∧ Counts D (allNs (fs.take k)) ∧ (allNs (fs.take k)).length ≤ k * 64) (fun i _ => n - (intOf i).toNat)
  case atStart =>
    refine ⟨0, .map [], by omega, rfl, ?_, ?_, ?_, ?_⟩
    · exact bl2 w _ _
    · have := World.ownsMap_made (H := Unit) (w.alloc (.cells #[.int .i64 id, .int .i64 a, .int .i64 l, .slice x n c] 90)) Tryz.prog 3 (plainElem Tryz.prog 3)
      simpa [allNs] using this
    · exact Counts.empty
    · simp [allNs]
  case round =>
    obtain ⟨k, D, hk, rfl, hB, hO, hC, hL⟩ := hrel
    by_cases hlt : k < n
    · have hlt' : Hid (k < n) := hlt
      have hpr := hp.later hB
      obtain ⟨b, o, rfl, c0, c1⟩ := hpr.cells k hlt
      have hI := (hp.addrs k hlt).2.2
      have hm1 := hm k hlt
      have hr1 := hr k hlt
      have hsz := hB.size
      have hst : Hid (allNs (fs.take (k + 1)) = allNs (fs.take k) ++ (fcAt fs k).ns) := allNs_take (by rw [hfl.out]; exact hlt)
      generalize hf : fcAt fs k = f at *
      obtain ⟨fid, fx, fn, fc, ns⟩ := f
      simp only at *
      clear hf
      go_wp2
      obtain ⟨wo, rfl⟩ : ∃ wo, wo = wr := ⟨_, rfl⟩
      go_loopw [19] (fun i wr => ∃ (q : Nat) (D : DataW Unit), q ≤ fn ∧ i = .int .i64 q ∧ Below w.heap.size w wr ∧ wr.ownsMap Tryz.prog 3 (plainElem Tryz.prog 3) (w.heap.size + 1) (allNs (fs.take k) ++ ns.take q).length D ∧ Counts D (allNs (fs.take k) ++ ns.take q)) (fun i _ => fn - (intOf i).toNat)
      case atStart => exact ⟨0, D, by omega, rfl, hB.trans ((bl1 wo _).mono hsz), by simpa using hO.alloc _, by simpa using hC⟩
      case round =>
        obtain ⟨q, D2, hq, rfl, hB2, hO2, hC2⟩ := hrel
        by_cases hq2 : q < fn
        · have hq' : Hid (q < fn) := hq2
          have hL2 : Hid ((allNs (fs.take k) ++ ns.take q).length ≤ k * 64 + q) := by
            show _ ≤ _
            rw [List.length_append, List.length_take]
            omega
          have hst2 : Hid (allNs (fs.take k) ++ ns.take (q + 1) = (allNs (fs.take k) ++ ns.take q) ++ [inAt ns q]) := by
            show _ = _
            rw [ns_take (by rw [hI.len]; exact hq2), List.append_assoc]
          obtain ⟨b2, o2, rfl, d0⟩ := (hI.later hB2).cells q hq2
          have hkey : keyOf Tryz.prog 3 (.int .i64 (inAt ns q)) = some (.int .i64 (inAt ns q)) := keyOf_int_mk under_int (wf_small (hr1 q hq2).1 (hr1 q hq2).2)
          generalize hLd : allNs (fs.take k) ++ ns.take q = L at *
          have hat := hC2.at_ (inAt ns q)
          have hcl : Hid (L.count (inAt ns q) ≤ L.length) := List.count_le_length
          have hmx : L.length < maxLen := by have := hL2.out; unfold maxLen; omega
          go_wp2_with (first
            | (at_lookup; refine wpList_lookup_own_int _ rfl _ _ 137 rfl 3 3 .i64 key_law under_uses under_int (zero_int _) (w.heap.size + 1) _ _ rfl hO2 _ _ rfl hkey ?_; intro cc hat2 hwc; obtain rfl : cc = (L.count (inAt ns q) : Nat) := (by rw [hat] at hat2; cases hat2; rfl))
            | (at_mapUpdate; refine wpList_mapUpdate_own _ rfl _ _ _ 137 rfl 3 3 key_law under_uses _ (w.heap.size + 1) _ _ rfl hO2 hmx _ _ _ rfl rfl hkey _ [] (plainElem_int under_int (wrap64_wf _)) ?_; intro w1 hown1 hgrow1)
            | go_in)
          have hP := hC2.put (inAt ns q)
          have hwr : wrap64 ((L.count (inAt ns q) : Nat) + 1) = (L.count (inAt ns q) : Nat) + 1 := by
            have := hcl.out
            have := hL2.out
            unfold wrap64
            omega
          go_roundw
          case rel =>
            refine ⟨q + 1, D2.put (.int .i64 (inAt ns q)) (.lit (.int .i64 ((L.count (inAt ns q) : Nat) + 1))), hq'.out, by go_num, hB2.grown hgrow1 hB2.size (fun j hj => by cases hj; omega), ?_, ?_⟩
            · rw [hst2.out, List.length_append]
              rw [hwr] at hown1
              exact hown1
            · rw [hst2.out]
              exact hP
          case measure => simp [intOf]; have := hq'.out; omega
        · obtain rfl : q = fn := by omega
          have e : ns.take q = ns := by rw [← hI.len, List.take_length]
          rw [e, ← hst.out] at hO2 hC2
          go_wp2
          go_roundw
          case rel => exact ⟨k + 1, D2, hlt'.out, by go_num, hB2, hO2, hC2, by rw [hst.out, List.length_append, hI.len]; omega⟩
          case measure => simp [intOf]; have := hlt'.out; omega
    · obtain rfl : k = n := by omega
      have e : fs.take k = fs := by rw [← hfl.out, List.take_length]
      rw [e] at hO hC
      go_wp2
      go_ret
      exact ⟨_, D, rfl, by omega, hO, hC, hB⟩

theorem count_nodup : ∀ L : List Int, (∀ a, L.count a ≤ 1) ↔ L.Nodup
  | [] => by simp
  | x :: L => by
    rw [List.nodup_cons, ← count_nodup L]
    constructor
    · intro h
      have h1 := h x
      rw [List.count_cons_self] at h1
      refine ⟨fun hm => ?_, fun a => ?_⟩
      · have := List.count_pos_iff.2 hm
        omega
      · have := h a
        rw [List.count_cons] at this
        omega
    · rintro ⟨h1, h2⟩ a
      by_cases e : a = x
      · subst e
        rw [List.count_cons_self, List.count_eq_zero.2 h1]
        omega
      · rw [List.count_cons_of_ne (Ne.symm e)]
        exact h2 a
/-- Does a number stand in the list twice? -/
def dupB (L : List Int) : Bool := !decide L.Nodup
theorem dup_yes {L : List Int} {a : Int} (h : 1 < L.count a) : dupB L = true := by
  unfold dupB
  rw [decide_eq_false]
  · rfl
  · intro hn
    have := (count_nodup L).2 hn a
    omega
theorem dup_no {L : List Int} (h : ∀ a, L.count a ≤ 1) : dupB L = false := by
  unfold dupB
  rw [decide_eq_true ((count_nodup L).1 h)]
  rfl
set_option maxRecDepth 100000 in
set_option maxHeartbeats 1600000 in
theorem twice_any (bm m : Nat) (D : DataW Unit) (L : List Int) (w : World) (hO : w.ownsMap Tryz.prog 3 (plainElem Tryz.prog 3) bm m D) (hC : Counts D L) :
    Calls Tryz.prog 125 #[.map (some bm)] w fun e w' => e = .returned (.bool (dupB L)) ∧ Below w.heap.size w w' := by
  have hDb : Hid (Counts D L) := hC
  go_enter Tryz.func125, Tryz.ntmps125
  go_wp2_with (first | (at_range; refine wpList_range_own _ rfl _ 137 rfl 3 3 key_law under_uses _ bm m D rfl hO ?_; intro w0 hrg0 hg0 hs0) | go_in)
  go_frame
  go_loopw [] (fun wr => ∃ left cnt, wr.ranges Tryz.prog 3 (plainElem Tryz.prog 3) bm w.heap.size m D left cnt ∧ Below w.heap.size w wr ∧ (∀ a : Int, has D (.int .i64 a) = true → left (.int .i64 a) = true ∨ L.count a ≤ 1)) (fun wr => wr.rangeLeft bm w.heap.size)
  case atStart => exact ⟨_, _, hrg0, (Below.refl _ _).grown hg0 (Nat.le_refl _) (fun j hj => by cases hj), fun a h => .inl h⟩
  case round =>
    obtain ⟨left, cnt, hrg, hB, hall⟩ := hrel
    go_wp2_with (first
      | (at_next; refine wpList_next_ranges_ii _ rfl _ rfl 3 3 .i64 .i64 key_law under_int under_int bm w.heap.size m _ _ _ rfl hrg ?_ ?_)
      | go_in)
    · intro hc0 hl0
      go_wp2
      go_ret
      exact ⟨ret_bool (dup_no fun a => by
        by_cases hm : a ∈ L
        · rcases hall a (by rw [hDb.out.has_ a]; simpa using hm) with h | h
          · rw [hl0] at h; cases h
          · exact h
        · rw [List.count_eq_zero.2 hm]; omega).symm, hB⟩
    · intro x c w1 cnt1 hwx hwc hlx hat hrg1 hlt hg1 hs1 hen
      have hcx : c = (L.count x : Nat) := by
        have := hat (.lit (.int .i64 0))
        rw [hDb.out.at_ x] at this
        cases this
        rfl
      have hB1 : Below w.heap.size w w1 := hB.grown hg1 hB.size (fun j hj => by cases hj; omega)
      by_cases hgt : c > 1
      · go_wp2
        go_ret
        exact ⟨ret_bool (dup_yes (a := x) (by omega)).symm, hB1⟩
      · go_wp2
        go_roundw
        case rel => exact ⟨_, cnt1, hrg1, hB1, fun a ha => by
          by_cases e : a = x
          · subst e
            exact .inr (by omega)
          · rcases hall a ha with h | h
            · refine .inl ?_
              rw [h, sameKey_ne (by intro e2; exact e (by cases e2; rfl))]
              rfl
            · exact .inr h⟩
        case measure => rw [hrg1.left_eq, hrg.left_eq]; omega
end Go.Proofs.YtlalgkjollgcbaaGreat
/- facesRight of package vpc. -/
namespace Go.Proofs.YtlalgkjollgcbaaGreat
open Go.RowKit Go.Shelf

/-- Is the i-th face right? -/
def fcsAt (a l : Int) (fs : List Fc) (i : Nat) : Bool := wth (fcAt fs i).id 1 65536 && decide (0 < (fcAt fs i).n) && adB a l (fcAt fs i).n (fcAt fs i).ns
/-- Are the faces right? -/
def fcsB (a l : Int) (n : Nat) (fs : List Fc) : Bool := (List.range n).all (fcsAt a l fs) && riseFB fs && !dupB (allNs fs)
theorem us_range {a l x : Int} (hr : rt a l = true) (h : usB a l x = true) : 0 ≤ x ∧ x ≤ 1000000 := by
  obtain ⟨h0, h1, h2, h3, -⟩ := rt_range hr
  obtain ⟨s0, s1⟩ := sp_range h0 h1
  unfold usB at h
  simp only [Bool.and_eq_true, decide_eq_true_eq] at h
  omega
theorem ad_us {a l : Int} {n : Nat} {ns : List Int} (h : adB a l n ns = true) : ∀ j, j < n → usB a l (inAt ns j) = true := by
  intro j hj
  unfold adB at h
  rw [Bool.and_eq_true] at h
  cases hu : usB a l (inAt ns j)
  · have := any_yes (f := fun i => !usB a l (inAt ns i)) hj (by rw [hu]; rfl)
    rw [this] at h
    exact absurd h.2 (by simp)
  · rfl

set_option maxRecDepth 100000 in
set_option maxHeartbeats 1600000 in
theorem facesRight_any (id a l : Int) (x : Option Addr) (n c : Nat) (fs : List Fc) (w : World) (hr : rt a l = true) (hp : FcS w x n fs) (hn : n ≤ 8) (hm : ∀ i, i < n → (fcAt fs i).n ≤ 4) :
    Calls Tryz.prog 108 #[.agg #[.int .i64 id, .int .i64 a, .int .i64 l, .slice x n c]] w fun e w' => e = .returned (.bool (fcsB a l n fs)) ∧ Below w.heap.size w w' := by
  have hbd : Hid (fcsB a l n fs = ((List.range n).all (fcsAt a l fs) && riseFB fs && !dupB (allNs fs))) := rfl
  go_enter Tryz.func108, Tryz.ntmps108
  go_upto_region 1 with fail
  obtain ⟨w2, hw2⟩ : ∃ w2, w2 = w.alloc (.cells #[.int .i64 id, .int .i64 a, .int .i64 l, .slice x n c] 90) := ⟨_, rfl⟩
  rw [← hw2]
  have h02 : Below w.heap.size w w2 := by rw [hw2]; exact bl1 w _
  have hbox : w2.heap[w.heap.size]? = some (.cells #[.int .i64 id, .int .i64 a, .int .i64 l, .slice x n c] 90) := by rw [hw2]; exact heap_new _ rfl
  clear hw2
  have hp2 := hp.later h02
  obtain ⟨hcl, -⟩ := box_cells hbox
  have q0 : w2.cell? ⟨w.heap.size, 0, none⟩ = some (.int .i64 id) := hcl 0
  have q1 : w2.cell? ⟨w.heap.size, 1, none⟩ = some (.int .i64 a) := hcl 1
  have q2 : w2.cell? ⟨w.heap.size, 2, none⟩ = some (.int .i64 l) := hcl 2
  have q3 : w2.cell? ⟨w.heap.size, 3, none⟩ = some (.slice x n c) := hcl 3
  clear hcl hbox
  generalize hbk : w.heap.size = bk at *
  go_wp2
  go_loopw [8] (fun i wr => ∃ k : Nat, k ≤ n ∧ i = .int .i64 k ∧ Below w2.heap.size w2 wr ∧ (∀ j, j < k → fcsAt a l fs j = true)) (fun i _ => n - (intOf i).toNat)
  case atStart => exact ⟨0, by omega, rfl, Below.refl _ _, fun j hj => by omega⟩
  case round =>
    obtain ⟨k, hk, rfl, hB, hok⟩ := hrel
    have r0 := cell_later hB q0
    have r1 := cell_later hB q1
    have r2 := cell_later hB q2
    have r3 := cell_later hB q3
    have hall : Below bk w wr := h02.trans (hB.mono (by have := h02.size; omega))
    clear q0 q1 q2 q3
    by_cases hlt : k < n
    · have hlt' : Hid (k < n) := hlt
      have hpr := hp2.later hB
      obtain ⟨b, o, rfl, c0, c1⟩ := hpr.cells k hlt
      have hI := (hpr.addrs k hlt).2.2
      have hm1 := hm k hlt
      have hta : Hid (fcsAt a l fs k = (wth (fcAt fs k).id 1 65536 && decide (0 < (fcAt fs k).n) && adB a l (fcAt fs k).n (fcAt fs k).ns)) := rfl
      generalize hf : fcAt fs k = f at *
      obtain ⟨fid, fx, fn, fcc, ns⟩ := f
      simp only at *
      clear hf
      go_upto_region 4 with fail
      obtain ⟨w3, hw3⟩ : ∃ w3, w3 = wr.alloc (.cells #[.int .i64 fid, .slice fx fn fcc] 99) := ⟨_, rfl⟩
      rw [← hw3]
      have h23 : Below wr.heap.size wr w3 := by rw [hw3]; exact bl1 wr _
      have hbox : w3.heap[wr.heap.size]? = some (.cells #[.int .i64 fid, .slice fx fn fcc] 99) := by rw [hw3]; exact heap_new _ rfl
      clear hw3 c0 c1
      have s0 := cell_later h23 r0
      have s1 := cell_later h23 r1
      have s2 := cell_later h23 r2
      have s3 := cell_later h23 r3
      clear r0 r1 r2 r3
      obtain ⟨hcl, -⟩ := box_cells hbox
      have t0 : w3.cell? ⟨wr.heap.size, 0, none⟩ = some (.int .i64 fid) := hcl 0
      have t1 : w3.cell? ⟨wr.heap.size, 1, none⟩ = some (.slice fx fn fcc) := hcl 1
      clear hcl hbox
      have hall3 : Below bk w w3 := hall.trans (h23.mono (by have := h02.size; have := hB.size; omega))
      have hB3 : Below w2.heap.size w2 w3 := hB.trans (h23.mono hB.size)
      have hI3 := hI.later h23
      cases hw : wth fid 1 65536
      · go_wp2_with (go_at_call 25; refine (isId_is _ _ hw _).mono ?_; rintro e w4 ⟨rfl, rfl⟩)
        go_ret
        exact ⟨ret_bool (by rw [hbd.out, allR_no hlt'.out (by rw [hta.out, hw]; rfl)]; rfl), by rw [hbk]; exact hall3⟩
      · by_cases h0 : 0 < fn
        · have hd : Hid (decide (0 < fn) = true) := by show _ = _; simpa using h0
          have hne : ((fn : Int) == 0) = false := by simp; omega
          cases had : adB a l fn ns
          · go_wp2_with (first | (go_at_call 25; refine (isId_is _ _ hw _).mono ?_; rintro e w4 ⟨rfl, rfl⟩) | (go_at_call 121; refine (addrsRight_is _ _ _ _ _ _ _ had _ hr hI3 (by omega)).mono ?_; rintro e w4 ⟨rfl, hb4⟩))
            go_ret
            exact ⟨ret_bool (by rw [hbd.out, allR_no hlt'.out (by rw [hta.out, hw, hd.out, had]; rfl)]; rfl), by rw [hbk]; exact hall3.trans (hb4.mono (by have := hall3.size; omega))⟩
          · go_wp2_with (first | (go_at_call 25; refine (isId_is _ _ hw _).mono ?_; rintro e w4 ⟨rfl, rfl⟩) | (go_at_call 121; refine (addrsRight_is _ _ _ _ _ _ _ had _ hr hI3 (by omega)).mono ?_; rintro e w4 ⟨rfl, hb4⟩))
            go_roundw
            case rel => exact ⟨k + 1, hlt'.out, by go_num, hB3.trans (hb4.mono hB3.size), fun j hj => by
              by_cases hj2 : j < k
              · exact hok j hj2
              · obtain rfl : j = k := by omega
                rw [hta.out, hw, hd.out, had]; rfl⟩
            case measure => simp [intOf]; have := hlt'.out; omega
        · obtain rfl : fn = 0 := by omega
          go_wp2_with (go_at_call 25; refine (isId_is _ _ hw _).mono ?_; rintro e w4 ⟨rfl, rfl⟩)
          go_ret
          exact ⟨ret_bool (by rw [hbd.out, allR_no hlt'.out (by rw [hta.out, hw]; rfl)]; rfl), by rw [hbk]; exact hall3⟩
    · obtain rfl : k = n := by omega
      have hpr := hp2.later hB
      go_wp2_with fail
      refine (riseF_any x k c fs wr.heap.size 1 _ (hpr.later (bl1 wr _)) (by omega) (by simp)).mono ?_
      rintro e w3 ⟨rfl, hb3⟩
      have h23 := (bl1 wr _).trans (hb3.mono (by simp))
      clear hb3
      have hall3 : Below bk w w3 := hall.trans (h23.mono (by have := h02.size; have := hB.size; omega))
      have s0 := cell_later h23 r0
      have s1 := cell_later h23 r1
      have s2 := cell_later h23 r2
      have s3 := cell_later h23 r3
      clear r0 r1 r2 r3
      cases hri : riseFB fs
      · go_wp2
        go_ret
        exact ⟨ret_bool (by rw [hbd.out, hri]; simp), by rw [hbk]; exact hall3⟩
      · go_wp2_with fail
        refine (usesOf_any id a l x k c fs _ (hpr.later h23) (by omega) (fun i hi => by have := hm i hi; omega) (fun i hi j hj => us_range hr (ad_us (by
          have := hok i hi
          unfold fcsAt at this
          simp only [Bool.and_eq_true] at this
          exact this.2) j hj))).mono ?_
        rintro e w4 ⟨bm, D, rfl, hbm, hO, hC, hb4⟩
        go_wp2_with (go_at_call 125; refine (twice_any _ _ _ _ _ hO hC).mono ?_; rintro e w5 ⟨rfl, hb5⟩)
        go_ret
        have h4 := hall3.trans (hb4.mono (by have := hall3.size; omega))
        exact ⟨ret_bool (by rw [hbd.out, hri, allR_yes hok]; simp), by rw [hbk]; exact h4.trans (hb5.mono (by have := h4.size; omega))⟩
theorem facesRight_is (id a l : Int) (x : Option Addr) (n c : Nat) (fs : List Fc) (t : Bool) (h : fcsB a l n fs = t) (w : World) (hr : rt a l = true) (hp : FcS w x n fs) (hn : n ≤ 8) (hm : ∀ i, i < n → (fcAt fs i).n ≤ 4) :
    Calls Tryz.prog 108 #[.agg #[.int .i64 id, .int .i64 a, .int .i64 l, .slice x n c]] w fun e w' => e = .returned (.bool t) ∧ Below w.heap.size w w' := by
  subst h
  exact facesRight_any id a l x n c fs w hr hp hn hm
end Go.Proofs.YtlalgkjollgcbaaGreat
/- subsRight and Check of package vpc. -/
namespace Go.Proofs.YtlalgkjollgcbaaGreat
open Go.RowKit Go.Shelf

/-- Is the i-th subnet right, and does it meet none ahead of it? -/
def sbsAt (rn : Nat) (rs : List Rg) (ss : List Sb) (i : Nat) : Bool := subB rn rs (sbAt ss i).id (sbAt ss i).a (sbAt ss i).l && !anyAt i (smB ss (sbAt ss i).a (sbAt ss i).l) && fcsB (sbAt ss i).a (sbAt ss i).l (sbAt ss i).n (sbAt ss i).fs
def sbsB (rn : Nat) (rs : List Rg) (n : Nat) (ss : List Sb) : Bool := (List.range n).all (sbsAt rn rs ss) && riseSB ss
theorem anyAt_ex {n : Nat} {f : Nat → Bool} (h : anyAt n f = true) : ∃ i, i < n ∧ f i = true := by
  unfold anyAt at h
  rw [List.any_eq_true] at h
  obtain ⟨i, hi, hf⟩ := h
  exact ⟨i, by simpa using hi, hf⟩
theorem sub_rt {rn : Nat} {rs : List Rg} {id a l : Int} (h : subB rn rs id a l = true) : rt a l = true := by
  unfold subB at h
  rw [Bool.and_eq_true] at h
  obtain ⟨i, -, hi⟩ := anyAt_ex h.2
  unfold riB ins at hi
  simp only [Bool.and_eq_true] at hi
  exact hi.1.1.1

set_option maxRecDepth 100000 in
set_option maxHeartbeats 3200000 in
theorem subsRight_any (vid : Int) (rx : Option Addr) (rn rc : Nat) (rs : List Rg) (x : Option Addr) (n c : Nat) (ss : List Sb) (w : World) (hR : RS w rx rn rs) (hrn : rn ≤ 4) (hp : SS w x n ss) (hn : n ≤ 6) (hnc : n ≤ c)
    (hm : ∀ i, i < n → (sbAt ss i).n ≤ 8) (hm2 : ∀ i, i < n → ∀ j, j < (sbAt ss i).n → (fcAt (sbAt ss i).fs j).n ≤ 4) :
    Calls Tryz.prog 84 #[.agg #[.int .i64 vid, .slice rx rn rc, .slice x n c]] w fun e w' => e = .returned (.bool (sbsB rn rs n ss)) ∧ Below w.heap.size w w' := by
  have hbd : Hid (sbsB rn rs n ss = ((List.range n).all (sbsAt rn rs ss) && riseSB ss)) := rfl
  go_enter Tryz.func84, Tryz.ntmps84
  go_upto_region 1 with fail
  obtain ⟨w2, hw2⟩ : ∃ w2, w2 = w.alloc (.cells #[.int .i64 vid, .slice rx rn rc, .slice x n c] 52) := ⟨_, rfl⟩
  rw [← hw2]
  have h02 : Below w.heap.size w w2 := by rw [hw2]; exact bl1 w _
  have hbox : w2.heap[w.heap.size]? = some (.cells #[.int .i64 vid, .slice rx rn rc, .slice x n c] 52) := by rw [hw2]; exact heap_new _ rfl
  clear hw2
  have hp2 := hp.later h02
  have hR2 := hR.later h02
  obtain ⟨hcl, -⟩ := box_cells hbox
  have q0 : w2.cell? ⟨w.heap.size, 0, none⟩ = some (.int .i64 vid) := hcl 0
  have q1 : w2.cell? ⟨w.heap.size, 1, none⟩ = some (.slice rx rn rc) := hcl 1
  have q2 : w2.cell? ⟨w.heap.size, 2, none⟩ = some (.slice x n c) := hcl 2
  clear hcl hbox
  generalize hbk : w.heap.size = bk at *
  go_wp2
  go_loopw [8] (fun i wr => ∃ k : Nat, k ≤ n ∧ i = .int .i64 k ∧ Below w2.heap.size w2 wr ∧ (∀ j, j < k → sbsAt rn rs ss j = true)) (fun i _ => n - (intOf i).toNat)
  case atStart => exact ⟨0, by omega, rfl, Below.refl _ _, fun j hj => by omega⟩
  case round =>
    obtain ⟨k, hk, rfl, hB, hok⟩ := hrel
    have r0 := cell_later hB q0
    have r1 := cell_later hB q1
    have r2 := cell_later hB q2
    have hall : Below bk w wr := h02.trans (hB.mono (by have := h02.size; omega))
    clear q0 q1 q2
    by_cases hlt : k < n
    · have hlt' : Hid (k < n) := hlt
      have hpr := hp2.later hB
      obtain ⟨b, o, rfl, c0, c1, c2, c3⟩ := hpr.cells k hlt
      have hF := (hpr.faces k hlt).2.2
      have hm1 := hm k hlt
      have hm3 := hm2 k hlt
      have hta : Hid (sbsAt rn rs ss k = (subB rn rs (sbAt ss k).id (sbAt ss k).a (sbAt ss k).l && !anyAt k (smB ss (sbAt ss k).a (sbAt ss k).l) && fcsB (sbAt ss k).a (sbAt ss k).l (sbAt ss k).n (sbAt ss k).fs)) := rfl
      generalize hf : sbAt ss k = s at *
      obtain ⟨sid, sa, sl, sx, sn, scc, fs⟩ := s
      simp only at *
      clear hf
      go_upto_region 4 with fail
      obtain ⟨w3, hw3⟩ : ∃ w3, w3 = wr.alloc (.cells #[.int .i64 sid, .int .i64 sa, .int .i64 sl, .slice sx sn scc] 90) := ⟨_, rfl⟩
      rw [← hw3]
      have h23 : Below wr.heap.size wr w3 := by rw [hw3]; exact bl1 wr _
      have hbox : w3.heap[wr.heap.size]? = some (.cells #[.int .i64 sid, .int .i64 sa, .int .i64 sl, .slice sx sn scc] 90) := by rw [hw3]; exact heap_new _ rfl
      clear hw3 c0 c1 c2 c3
      have s0 := cell_later h23 r0
      have s1 := cell_later h23 r1
      have s2 := cell_later h23 r2
      clear r0 r1 r2
      obtain ⟨hcl, -⟩ := box_cells hbox
      have t0 : w3.cell? ⟨wr.heap.size, 0, none⟩ = some (.int .i64 sid) := hcl 0
      have t1 : w3.cell? ⟨wr.heap.size, 1, none⟩ = some (.int .i64 sa) := hcl 1
      have t2 : w3.cell? ⟨wr.heap.size, 2, none⟩ = some (.int .i64 sl) := hcl 2
      have t3 : w3.cell? ⟨wr.heap.size, 3, none⟩ = some (.slice sx sn scc) := hcl 3
      clear hcl hbox
      have hall3 : Below bk w w3 := hall.trans (h23.mono (by have := h02.size; have := hB.size; omega))
      have hB3 : Below w2.heap.size w2 w3 := hB.trans (h23.mono hB.size)
      have hF3 := hF.later h23
      have hR3 := hR2.later hB3
      have hp3 := hp2.later hB3
      have g0 := Ws.here s0
      have g1 := Ws.here s1
      have g2 := Ws.here s2
      have k0 := Ws.here t0
      have k1 := Ws.here t1
      have k2 := Ws.here t2
      have k3 := Ws.here t3
      clear s0 s1 s2 t0 t1 t2 t3
      cases hu : subB rn rs sid sa sl
      · refine wp_region_ws w3.heap.size (by kernel_rfl) (by kernel_rfl) ?_
        repeat (go_big_quiet_step ((go_at_call 106; exact Calls.in_ws (Nat.le_refl _) (subRight_is _ _ _ _ _ _ _ _ _ _ _ _ hu _ (hR3.later (Ws.property _)) (by omega)))))
        refine wpQuiet_nil ?_
        rintro _ ⟨u, rfl⟩
        have hu2 := hall3.trans (u.property.mono (by have := hall3.size; omega))
        generalize u.val = wu at hu2 ⊢
        clear u g0 g1 g2 k0 k1 k2 k3
        go_wp2
        go_ret
        exact ⟨ret_bool (by rw [hbd.out, allR_no hlt'.out (by rw [hta.out, hu]; rfl)]; rfl), by rw [hbk]; exact hu2⟩
      · have hrt := sub_rt hu
        cases ha : anyAt k (smB ss sa sl)
        · cases hfb : fcsB sa sl sn fs
          all_goals refine wp_region_ws w3.heap.size (by kernel_rfl) (by kernel_rfl) ?_
          all_goals repeat (go_big_quiet_step (first | (go_at_call 106; exact Calls.in_ws (Nat.le_refl _) (subRight_is _ _ _ _ _ _ _ _ _ _ _ _ hu _ (hR3.later (Ws.property _)) (by omega))) | (go_at_call 107; exact Calls.in_ws (Nat.le_refl _) (meetsSub_at ss k _ n _ _ _ (hp3.later (Ws.property _)) (by omega) (by omega) _ _ ha)) | (go_at_call 108; exact Calls.in_ws (Nat.le_refl _) (facesRight_is _ _ _ _ _ _ _ _ hfb _ hrt (hF3.later (Ws.property _)) hm1 hm3))))
          all_goals refine wpQuiet_nil ?_
          all_goals rintro _ ⟨u, rfl⟩
          all_goals have hu2 := hall3.trans (u.property.mono (by have := hall3.size; omega))
          all_goals have hu3 := hB3.trans (u.property.mono hB3.size)
          all_goals generalize u.val = wu at hu2 hu3 ⊢
          all_goals clear u g0 g1 g2 k0 k1 k2 k3
          · go_wp2
            go_ret
            exact ⟨ret_bool (by rw [hbd.out, allR_no hlt'.out (by rw [hta.out, hu, ha, hfb]; rfl)]; rfl), by rw [hbk]; exact hu2⟩
          · go_wp2
            go_roundw
            case rel => exact ⟨k + 1, hlt'.out, by go_num, hu3, fun j hj => by
              by_cases hj2 : j < k
              · exact hok j hj2
              · obtain rfl : j = k := by omega
                rw [hta.out, hu, ha, hfb]; rfl⟩
            case measure => simp [intOf]; have := hlt'.out; omega
        · refine wp_region_ws w3.heap.size (by kernel_rfl) (by kernel_rfl) ?_
          repeat (go_big_quiet_step (first | (go_at_call 106; exact Calls.in_ws (Nat.le_refl _) (subRight_is _ _ _ _ _ _ _ _ _ _ _ _ hu _ (hR3.later (Ws.property _)) (by omega))) | (go_at_call 107; exact Calls.in_ws (Nat.le_refl _) (meetsSub_at ss k _ n _ _ _ (hp3.later (Ws.property _)) (by omega) (by omega) _ _ ha))))
          refine wpQuiet_nil ?_
          rintro _ ⟨u, rfl⟩
          have hu2 := hall3.trans (u.property.mono (by have := hall3.size; omega))
          generalize u.val = wu at hu2 ⊢
          clear u g0 g1 g2 k0 k1 k2 k3
          go_wp2
          go_ret
          exact ⟨ret_bool (by rw [hbd.out, allR_no hlt'.out (by rw [hta.out, hu, ha]; rfl)]; rfl), by rw [hbk]; exact hu2⟩
    · obtain rfl : k = n := by omega
      have hpr := hp2.later hB
      go_wp2_with fail
      refine (riseS_any x k c ss wr.heap.size 1 _ (hpr.later (bl1 wr _)) (by omega) (by simp)).mono ?_
      rintro e w3 ⟨rfl, hb3⟩
      have h23 := (bl1 wr _).trans (hb3.mono (by simp))
      clear hb3
      have hall3 : Below bk w w3 := hall.trans (h23.mono (by have := h02.size; have := hB.size; omega))
      go_wp2
      go_ret
      exact ⟨ret_bool (by rw [hbd.out, allR_yes hok]; rfl), by rw [hbk]; exact hall3⟩
theorem subsRight_is (vid : Int) (rx : Option Addr) (rn rc : Nat) (rs : List Rg) (x : Option Addr) (n c : Nat) (ss : List Sb) (t : Bool) (h : sbsB rn rs n ss = t) (w : World) (hR : RS w rx rn rs) (hrn : rn ≤ 4) (hp : SS w x n ss) (hn : n ≤ 6) (hnc : n ≤ c)
    (hm : ∀ i, i < n → (sbAt ss i).n ≤ 8) (hm2 : ∀ i, i < n → ∀ j, j < (sbAt ss i).n → (fcAt (sbAt ss i).fs j).n ≤ 4) :
    Calls Tryz.prog 84 #[.agg #[.int .i64 vid, .slice rx rn rc, .slice x n c]] w fun e w' => e = .returned (.bool t) ∧ Below w.heap.size w w' := by
  subst h
  exact subsRight_any vid rx rn rc rs x n c ss w hR hrn hp hn hnc hm hm2

/-- What Check tells. -/
def chkV (vid : Int) (rn : Nat) (rs : List Rg) (sn : Nat) (ss : List Sb) : Int := if vmanyB rn sn ss then 2 else if wth vid 1 65536 && rgsB rn rs && sbsB rn rs sn ss then 0 else 1
theorem few {rn sn : Nat} {ss : List Sb} (h : vmanyB rn sn ss = false) : rn ≤ 4 ∧ sn ≤ 6 ∧ (∀ i, i < sn → (sbAt ss i).n ≤ 8) ∧ ∀ i, i < sn → ∀ j, j < (sbAt ss i).n → (fcAt (sbAt ss i).fs j).n ≤ 4 := by
  unfold vmanyB at h
  simp only [Bool.or_eq_false_iff, decide_eq_false_iff_not] at h
  obtain ⟨⟨h1, h2⟩, h3⟩ := h
  have h4 : ∀ i, i < sn → smanyB (sbAt ss i) = false := fun i hi => by
    cases e : smanyB (sbAt ss i)
    · rfl
    · have := any_yes (f := fun i => smanyB (sbAt ss i)) hi e
      rw [this] at h3; cases h3
  have h5 : ∀ i, i < sn → (sbAt ss i).n ≤ 8 ∧ ∀ j, j < (sbAt ss i).n → (fcAt (sbAt ss i).fs j).n ≤ 4 := fun i hi => by
    have := h4 i hi
    unfold smanyB at this
    simp only [Bool.or_eq_false_iff, decide_eq_false_iff_not] at this
    refine ⟨by omega, fun j hj => ?_⟩
    by_cases e : 4 < (fcAt (sbAt ss i).fs j).n
    · have h6 := any_yes (f := fun j => decide (4 < (fcAt (sbAt ss i).fs j).n)) hj (by simpa using e)
      rw [h6] at this; cases this.2
    · omega
  exact ⟨by omega, by omega, fun i hi => (h5 i hi).1, fun i hi => (h5 i hi).2⟩
theorem tooMany_is (vid : Int) (rx sx : Option Addr) (rn rc sn sc : Nat) (ss : List Sb) (t : Bool) (h : vmanyB rn sn ss = t) (w : World) (hr63 : rn ≤ 9223372036854775807) (hp : SS w sx sn ss) (hs : sn ≤ 9223372036854775807) :
    Calls Tryz.prog 82 #[.agg #[.int .i64 vid, .slice rx rn rc, .slice sx sn sc]] w fun e w' => e = .returned (.bool t) ∧ Below w.heap.size w w' := by
  subst h
  exact tooMany_any vid rx sx rn rc sn sc ss w hr63 hp hs

set_option maxRecDepth 100000 in
set_option maxHeartbeats 1600000 in
theorem checkV_any (vid : Int) (rx : Option Addr) (rn rc : Nat) (rs : List Rg) (sx : Option Addr) (sn sc : Nat) (ss : List Sb) (w : World) (hv : Vp w rx rn rc rs sx sn sc ss) (hrn : rn ≤ 9223372036854775807) (hsn : sn ≤ 9223372036854775807) (hrc : rc ≤ 9223372036854775807) :
    Calls Tryz.prog 55 #[.agg #[.int .i64 vid, .slice rx rn rc, .slice sx sn sc]] w fun e w' => e = .returned (.int .i64 (chkV vid rn rs sn ss)) ∧ Below w.heap.size w w' := by
  have hbd : Hid (chkV vid rn rs sn ss = if vmanyB rn sn ss then 2 else if wth vid 1 65536 && rgsB rn rs && sbsB rn rs sn ss then 0 else 1) := rfl
  go_enter Tryz.func55, Tryz.ntmps55
  go_upto_region 1 with fail
  obtain ⟨w2, hw2⟩ : ∃ w2, w2 = w.alloc (.cells #[.int .i64 vid, .slice rx rn rc, .slice sx sn sc] 52) := ⟨_, rfl⟩
  rw [← hw2]
  have h02 : Below w.heap.size w w2 := by rw [hw2]; exact bl1 w _
  have hbox : w2.heap[w.heap.size]? = some (.cells #[.int .i64 vid, .slice rx rn rc, .slice sx sn sc] 52) := by rw [hw2]; exact heap_new _ rfl
  clear hw2
  have hv2 := hv.later h02
  obtain ⟨hcl, -⟩ := box_cells hbox
  have q0 : w2.cell? ⟨w.heap.size, 0, none⟩ = some (.int .i64 vid) := hcl 0
  have q1 : w2.cell? ⟨w.heap.size, 1, none⟩ = some (.slice rx rn rc) := hcl 1
  have q2 : w2.cell? ⟨w.heap.size, 2, none⟩ = some (.slice sx sn sc) := hcl 2
  clear hcl hbox
  have hsz : Hid (w.heap.size ≤ w2.heap.size) := h02.size
  generalize hbk : w.heap.size = bk at *
  cases hmy : vmanyB rn sn ss
  · obtain ⟨f1, f2, f3, f4⟩ := few hmy
    go_wp2_with fail
    refine (tooMany_is _ _ _ _ _ _ _ _ _ hmy _ hrn hv2.subs hsn).mono ?_
    rintro e w3 ⟨rfl, hb3⟩
    have r0 := cell_later hb3 q0
    have r1 := cell_later hb3 q1
    have r2 := cell_later hb3 q2
    clear q0 q1 q2
    have hv3 := hv2.later hb3
    have h03 : Below bk w w3 := h02.trans (hb3.mono hsz.out)
    have hsz3 : Hid (bk ≤ w3.heap.size) := Nat.le_trans hsz.out hb3.size
    cases hw : wth vid 1 65536
    · go_wp2_with (go_at_call 25; refine (isId_is _ _ hw _).mono ?_; rintro e w4 ⟨rfl, rfl⟩)
      go_ret
      exact ⟨ret_int (by rw [hbd.out, hmy, hw]; rfl), by rw [hbk]; exact h03⟩
    · go_wp2_with fail
      refine (isId_is _ _ hw _).mono ?_
      rintro e w4 ⟨rfl, rfl⟩
      cases hr : rgsB rn rs
      · go_wp2_with (go_at_call 83; refine (rangesRight_is _ _ _ _ _ hr _ hv3.ranges (by omega) hv3.rcap hrc).mono ?_; rintro e w4 ⟨rfl, hb4⟩)
        go_ret
        exact ⟨ret_int (by rw [hbd.out, hmy, hw, hr]; rfl), by rw [hbk]; exact h03.trans (hb4.mono hsz3.out)⟩
      · go_wp2_with fail
        refine (rangesRight_is _ _ _ _ _ hr _ hv3.ranges (by omega) hv3.rcap hrc).mono ?_
        rintro e w4 ⟨rfl, hb4⟩
        have s0 := cell_later hb4 r0
        have s1 := cell_later hb4 r1
        have s2 := cell_later hb4 r2
        clear r0 r1 r2
        have hv4 := hv3.later hb4
        have h04 : Below bk w w4 := h03.trans (hb4.mono hsz3.out)
        have hsz4 : Hid (bk ≤ w4.heap.size) := Nat.le_trans hsz3.out hb4.size
        cases hs : sbsB rn rs sn ss
        all_goals go_wp2_with (go_at_call 84; refine (subsRight_is _ _ _ _ _ _ _ _ _ _ hs _ hv4.ranges f1 hv4.subs f2 hv4.scap f3 f4).mono ?_; rintro e w5 ⟨rfl, hb5⟩)
        all_goals go_ret
        all_goals exact ⟨ret_int (by rw [hbd.out, hmy, hw, hr, hs]; rfl), by rw [hbk]; exact h04.trans (hb5.mono hsz4.out)⟩
  · go_wp2_with (go_at_call 82; refine (tooMany_is _ _ _ _ _ _ _ _ _ hmy _ hrn hv2.subs hsn).mono ?_; rintro e w3 ⟨rfl, hb3⟩)
    go_ret
    exact ⟨ret_int (by rw [hbd.out, hmy]; rfl), by rw [hbk]; exact h02.trans (hb3.mono hsz.out)⟩
theorem checkV_is (vid : Int) (rx : Option Addr) (rn rc : Nat) (rs : List Rg) (sx : Option Addr) (sn sc : Nat) (ss : List Sb) (t : Int) (h : chkV vid rn rs sn ss = t) (w : World) (hv : Vp w rx rn rc rs sx sn sc ss) (hrn : rn ≤ 9223372036854775807) (hsn : sn ≤ 9223372036854775807) (hrc : rc ≤ 9223372036854775807) :
    Calls Tryz.prog 55 #[.agg #[.int .i64 vid, .slice rx rn rc, .slice sx sn sc]] w fun e w' => e = .returned (.int .i64 t) ∧ Below w.heap.size w w' := by
  subst h
  exact checkV_any vid rx rn rc rs sx sn sc ss w hv hrn hsn hrc
end Go.Proofs.YtlalgkjollgcbaaGreat
/- Networks in a slice; slices.IndexFunc and ContainsFunc over networks, links and routes; Rise over networks. -/
namespace Go.Proofs.YtlalgkjollgcbaaGreat
open Go.RowKit Go.Shelf

/-- A network: its Id, its ranges, its subnets. -/
structure Vn where
  id : Int
  rx : Option Addr
  rn : Nat
  rc : Nat
  rs : List Rg
  sx : Option Addr
  sn : Nat
  sc : Nat
  ss : List Sb
def vnZ : Vn := ⟨0, none, 0, 0, [], none, 0, 0, []⟩
def vnAt (vs : List Vn) (i : Nat) : Vn := vs.getD i vnZ
/-- The slice (x, n) holds these networks. -/
structure VS (w : World) (x : Option Addr) (n : Nat) (vs : List Vn) : Prop where
  len : vs.length = n
  cells : ∀ i, i < n → ∃ b o, x = some ⟨b, o, none⟩ ∧ w.cell? ⟨b, o + i * 3, none⟩ = some (.int .i64 (vnAt vs i).id) ∧ w.cell? ⟨b, o + i * 3 + 1, none⟩ = some (.slice (vnAt vs i).rx (vnAt vs i).rn (vnAt vs i).rc) ∧ w.cell? ⟨b, o + i * 3 + 2, none⟩ = some (.slice (vnAt vs i).sx (vnAt vs i).sn (vnAt vs i).sc)
  vps : ∀ i, i < n → (vnAt vs i).rn ≤ 9223372036854775807 ∧ (vnAt vs i).sn ≤ 9223372036854775807 ∧ (vnAt vs i).rc ≤ 9223372036854775807 ∧ Vp w (vnAt vs i).rx (vnAt vs i).rn (vnAt vs i).rc (vnAt vs i).rs (vnAt vs i).sx (vnAt vs i).sn (vnAt vs i).sc (vnAt vs i).ss
theorem VS.later {w w' : World} {x : Option Addr} {n : Nat} {vs : List Vn} (h : VS w x n vs) (hb : Below w.heap.size w w') : VS w' x n vs where
  len := h.len
  cells := fun i hi => by
    obtain ⟨b, o, hx, h0, h1, h2⟩ := h.cells i hi
    exact ⟨b, o, hx, cell_later hb h0, cell_later hb h1, cell_later hb h2⟩
  vps := fun i hi => by
    obtain ⟨h1, h2, h3, h4⟩ := h.vps i hi
    exact ⟨h1, h2, h3, h4.later hb⟩
theorem vnAt_take {vs : List Vn} {i j : Nat} (h : j < i) : vnAt (vs.take i) j = vnAt vs j := by
  unfold vnAt
  rw [List.getD_eq_getElem?_getD, List.getD_eq_getElem?_getD, List.getElem?_take_of_lt h]
theorem VS.take {w : World} {x : Option Addr} {n i : Nat} {vs : List Vn} (h : VS w x n vs) (hi : i ≤ n) : VS w x i (vs.take i) where
  len := by rw [List.length_take, h.len]; omega
  cells := fun j hj => by rw [vnAt_take hj]; exact h.cells j (by omega)
  vps := fun j hj => by rw [vnAt_take hj]; exact h.vps j (by omega)

/-- What the function value g (with what it has captured) answers at the i-th prefix, in every world that comes. -/
def FnVnAt (g : Nat) (cap : Array Value) (n : Nat) (ps : List Vn) (f : Nat → Bool) (w : World) : Prop :=
  ∀ i, i < n → ∀ W, Below w.heap.size w W → Calls Tryz.prog g (#[.agg #[.int .i64 (vnAt ps i).id, .slice (vnAt ps i).rx (vnAt ps i).rn (vnAt ps i).rc, .slice (vnAt ps i).sx (vnAt ps i).sn (vnAt ps i).sc]] ++ cap) W fun e W' => e = .returned (.bool (f i)) ∧ Below W.heap.size W W'

set_option maxRecDepth 20000 in
set_option maxHeartbeats 800000 in
theorem indexFuncVn_any (g : Nat) (cap : Array Value) (x : Option Addr) (n c : Nat) (ps : List Vn) (f : Nat → Bool) (w : World) (hp : VS w x n ps) (hn : n ≤ 1048576) (hF : FnVnAt g cap n ps f w)
    (hg : ∀ args W, (callFunc g args).run Tryz.prog W = .ok (.enter g args) W) :
    Calls Tryz.prog 47 #[.slice x n c, .func (.func g) #[] cap] w fun e w' => (∃ r : Int, e = .returned (.int .i64 r) ∧ ((∃ i : Nat, i < n ∧ f i = true ∧ (∀ j, j < i → f j = false) ∧ r = i) ∨ ((∀ j, j < n → f j = false) ∧ r = -1))) ∧ Below w.heap.size w w' := by
  have HF : Hid (FnVnAt g cap n ps f w) := hF
  clear hF
  go_enter Tryz.func47, Tryz.ntmps47
  go_wp2
  go_loopw [8] (fun i wr => ∃ k : Nat, k ≤ n ∧ i = .int .i64 k ∧ Below w.heap.size w wr ∧ (∀ j, j < k → f j = false)) (fun i _ => n - (intOf i).toNat)
  case atStart => exact ⟨0, by omega, rfl, Below.refl _ _, fun j hj => by omega⟩
  case round =>
    obtain ⟨k, hk, rfl, hB, hno⟩ := hrel
    by_cases hlt : k < n
    · obtain ⟨b, o, rfl, c0, c1, c2⟩ := hp.cells k hlt
      have d0 := cell_later hB c0
      have d1 := cell_later hB c1
      have d2 := cell_later hB c2
      go_wp2_with fail
      refine (HF.out k hlt _ hB).mono ?_
      rintro e w1 ⟨rfl, hb1⟩
      have hC := hB.trans (hb1.mono hB.size)
      cases hf : f k
      · go_wp2
        go_roundw
        case rel => exact ⟨k + 1, hlt, by go_num, hC, fun j hj => by
          by_cases hj2 : j < k
          · exact hno j hj2
          · obtain rfl : j = k := by omega
            exact hf⟩
        case measure => simp [intOf]; omega
      · go_wp2
        go_ret
        exact ⟨⟨_, rfl, .inl ⟨k, hlt, hf, hno, rfl⟩⟩, hC⟩
    · go_wp2
      go_ret
      exact ⟨⟨_, rfl, .inr ⟨fun j hj => hno j (by omega), rfl⟩⟩, hB⟩
set_option maxRecDepth 20000 in
set_option maxHeartbeats 800000 in
theorem containsFuncVn_any (g : Nat) (cap : Array Value) (x : Option Addr) (n c : Nat) (ps : List Vn) (f : Nat → Bool) (w : World) (hp : VS w x n ps) (hn : n ≤ 1048576) (hF : FnVnAt g cap n ps f w)
    (hg : ∀ args W, (callFunc g args).run Tryz.prog W = .ok (.enter g args) W) :
    Calls Tryz.prog 68 #[.slice x n c, .func (.func g) #[] cap] w fun e w' => e = .returned (.bool (anyAt n f)) ∧ Below w.heap.size w w' := by
  have H := indexFuncVn_any g cap x n c ps f w hp hn hF hg
  have H' : Hid (Calls Tryz.prog 47 #[.slice x n c, .func (.func g) #[] cap] w fun e w' => (∃ r : Int, e = .returned (.int .i64 r) ∧ decide (r ≥ 0) = anyAt n f) ∧ Below w.heap.size w w') := (H.mono fun e w' h => by
    obtain ⟨⟨r, rfl, hr⟩, hb⟩ := h
    refine ⟨⟨r, rfl, ?_⟩, hb⟩
    rcases hr with ⟨i, hi, hfi, _, rfl⟩ | ⟨hno, rfl⟩
    · rw [any_yes hi hfi]; simp
    · rw [any_no hno]; rfl)
  clear hF H
  go_enter Tryz.func68, Tryz.ntmps68
  go_wp2_with fail
  refine H'.out.mono ?_
  rintro e w1 ⟨⟨r, rfl, hr⟩, hb1⟩
  go_wp2
  go_ret
  exact ⟨rfl, hb1⟩

/-- What the function value g (with what it has captured) answers at the i-th prefix, in every world that comes. -/
def FnLkAt (g : Nat) (cap : Array Value) (n : Nat) (ps : List (Int × Int)) (f : Nat → Bool) (w : World) : Prop :=
  ∀ i, i < n → ∀ W, Below w.heap.size w W → Calls Tryz.prog g (#[.agg #[.int .i64 (at0 ps i), .int .i64 (at1 ps i)]] ++ cap) W fun e W' => e = .returned (.bool (f i)) ∧ Below W.heap.size W W'

set_option maxRecDepth 20000 in
set_option maxHeartbeats 800000 in
theorem indexFuncLk_any (g : Nat) (cap : Array Value) (x : Option Addr) (n c : Nat) (ps : List (Int × Int)) (f : Nat → Bool) (w : World) (hp : PS w x n ps) (hn : n ≤ 1048576) (hF : FnLkAt g cap n ps f w)
    (hg : ∀ args W, (callFunc g args).run Tryz.prog W = .ok (.enter g args) W) :
    Calls Tryz.prog 73 #[.slice x n c, .func (.func g) #[] cap] w fun e w' => (∃ r : Int, e = .returned (.int .i64 r) ∧ ((∃ i : Nat, i < n ∧ f i = true ∧ (∀ j, j < i → f j = false) ∧ r = i) ∨ ((∀ j, j < n → f j = false) ∧ r = -1))) ∧ Below w.heap.size w w' := by
  have HF : Hid (FnLkAt g cap n ps f w) := hF
  clear hF
  go_enter Tryz.func73, Tryz.ntmps73
  go_wp2
  go_loopw [8] (fun i wr => ∃ k : Nat, k ≤ n ∧ i = .int .i64 k ∧ Below w.heap.size w wr ∧ (∀ j, j < k → f j = false)) (fun i _ => n - (intOf i).toNat)
  case atStart => exact ⟨0, by omega, rfl, Below.refl _ _, fun j hj => by omega⟩
  case round =>
    obtain ⟨k, hk, rfl, hB, hno⟩ := hrel
    by_cases hlt : k < n
    · obtain ⟨b, o, rfl, c0, c1⟩ := hp.cells k hlt
      have d0 := cell_later hB c0
      have d1 := cell_later hB c1
      go_wp2_with fail
      refine (HF.out k hlt _ hB).mono ?_
      rintro e w1 ⟨rfl, hb1⟩
      have hC := hB.trans (hb1.mono hB.size)
      cases hf : f k
      · go_wp2
        go_roundw
        case rel => exact ⟨k + 1, hlt, by go_num, hC, fun j hj => by
          by_cases hj2 : j < k
          · exact hno j hj2
          · obtain rfl : j = k := by omega
            exact hf⟩
        case measure => simp [intOf]; omega
      · go_wp2
        go_ret
        exact ⟨⟨_, rfl, .inl ⟨k, hlt, hf, hno, rfl⟩⟩, hC⟩
    · go_wp2
      go_ret
      exact ⟨⟨_, rfl, .inr ⟨fun j hj => hno j (by omega), rfl⟩⟩, hB⟩
set_option maxRecDepth 20000 in
set_option maxHeartbeats 800000 in
theorem containsFuncLk_any (g : Nat) (cap : Array Value) (x : Option Addr) (n c : Nat) (ps : List (Int × Int)) (f : Nat → Bool) (w : World) (hp : PS w x n ps) (hn : n ≤ 1048576) (hF : FnLkAt g cap n ps f w)
    (hg : ∀ args W, (callFunc g args).run Tryz.prog W = .ok (.enter g args) W) :
    Calls Tryz.prog 71 #[.slice x n c, .func (.func g) #[] cap] w fun e w' => e = .returned (.bool (anyAt n f)) ∧ Below w.heap.size w w' := by
  have H := indexFuncLk_any g cap x n c ps f w hp hn hF hg
  have H' : Hid (Calls Tryz.prog 73 #[.slice x n c, .func (.func g) #[] cap] w fun e w' => (∃ r : Int, e = .returned (.int .i64 r) ∧ decide (r ≥ 0) = anyAt n f) ∧ Below w.heap.size w w') := (H.mono fun e w' h => by
    obtain ⟨⟨r, rfl, hr⟩, hb⟩ := h
    refine ⟨⟨r, rfl, ?_⟩, hb⟩
    rcases hr with ⟨i, hi, hfi, _, rfl⟩ | ⟨hno, rfl⟩
    · rw [any_yes hi hfi]; simp
    · rw [any_no hno]; rfl)
  clear hF H
  go_enter Tryz.func71, Tryz.ntmps71
  go_wp2_with fail
  refine H'.out.mono ?_
  rintro e w1 ⟨⟨r, rfl, hr⟩, hb1⟩
  go_wp2
  go_ret
  exact ⟨rfl, hb1⟩

/-- What the function value g (with what it has captured) answers at the i-th prefix, in every world that comes. -/
def FnRtAt (g : Nat) (cap : Array Value) (n : Nat) (ps : List Rg) (f : Nat → Bool) (w : World) : Prop :=
  ∀ i, i < n → ∀ W, Below w.heap.size w W → Calls Tryz.prog g (#[.agg #[.int .i64 (rgAt ps i).a, .int .i64 (rgAt ps i).l, .int .i64 (rgAt ps i).p]] ++ cap) W fun e W' => e = .returned (.bool (f i)) ∧ Below W.heap.size W W'

theorem vpcId_any (p : Vn) (w : World) :
    Calls Tryz.prog 28 #[.agg #[.int .i64 p.id, .slice p.rx p.rn p.rc, .slice p.sx p.sn p.sc]] w fun e w' => e = .returned (.int .i64 p.id) ∧ Below w.heap.size w w' := by
  go_enter Tryz.func28, Tryz.ntmps28
  go_wp2
  go_ret
  exact ⟨rfl, bl1 _ _⟩
theorem call_vpcId (args : Array Value) (W : World) : (callFunc 28 args).run Tryz.prog W = .ok (.enter 28 args) W := by simp [go_sem]

set_option maxRecDepth 100000 in
set_option maxHeartbeats 1600000 in
theorem compareV_is (p r : Vn) (v : Int) (hv : Cmp p.id r.id v) (bb kk : Nat) (w : World) (hby : w.cell? ⟨bb, 0, none⟩ = some (.func (.func 28) #[] #[])) :
    Calls Tryz.prog 53 #[.agg #[.int .i64 p.id, .slice p.rx p.rn p.rc, .slice p.sx p.sn p.sc], .agg #[.int .i64 r.id, .slice r.rx r.rn r.rc, .slice r.sx r.sn r.sc], .slice (some ⟨bb, 0, none⟩) 1 kk] w fun e w' => e = .returned (.int .i64 v) ∧ Below w.heap.size w w' := by
  have hcall := call_vpcId
  go_enter Tryz.func53, Tryz.ntmps53
  go_wp2
  go_loopw [12] (fun i wr => ∃ j : Nat, (j = 0 ∨ (j = 1 ∧ v = 0)) ∧ i = .int .i64 j ∧ Below (w.heap.size + 1 + 1) ((w.alloc (.cells #[.int .i64 p.id, .slice p.rx p.rn p.rc, .slice p.sx p.sn p.sc] 52)).alloc (.cells #[.int .i64 r.id, .slice r.rx r.rn r.rc, .slice r.sx r.sn r.sc] 52)) wr) (fun i _ => 1 - (intOf i).toNat)
  case atStart => exact ⟨0, .inl rfl, rfl, Below.refl _ _⟩
  case round =>
    obtain ⟨j, hj, rfl, hB⟩ := hrel
    rcases hj with rfl | ⟨rfl, hv0⟩
    · have hz := hB.size
      simp only [World.size_alloc] at hz
      have hbl : bb < w.heap.size := block_lt_of_cell hby
      have e0 : wr.cell? ⟨w.heap.size, 0, none⟩ = some (.int .i64 p.id) := (hB.cell (p := ⟨w.heap.size, 0, none⟩) (by show w.heap.size < _; omega)).trans (by simp)
      have f0 : wr.cell? ⟨w.heap.size + 1, 0, none⟩ = some (.int .i64 r.id) := (hB.cell (p := ⟨w.heap.size + 1, 0, none⟩) (by show w.heap.size + 1 < _; omega)).trans (by simp)
      have e1 : wr.cell? ⟨w.heap.size, 1, none⟩ = some (.slice p.rx p.rn p.rc) := (hB.cell (p := ⟨w.heap.size, 1, none⟩) (by show w.heap.size < _; omega)).trans (by simp)
      have f1 : wr.cell? ⟨w.heap.size + 1, 1, none⟩ = some (.slice r.rx r.rn r.rc) := (hB.cell (p := ⟨w.heap.size + 1, 1, none⟩) (by show w.heap.size + 1 < _; omega)).trans (by simp)
      have e2 : wr.cell? ⟨w.heap.size, 2, none⟩ = some (.slice p.sx p.sn p.sc) := (hB.cell (p := ⟨w.heap.size, 2, none⟩) (by show w.heap.size < _; omega)).trans (by simp)
      have f2 : wr.cell? ⟨w.heap.size + 1, 2, none⟩ = some (.slice r.sx r.sn r.sc) := (hB.cell (p := ⟨w.heap.size + 1, 2, none⟩) (by show w.heap.size + 1 < _; omega)).trans (by simp)
      have e9 : wr.cell? ⟨bb, 0, none⟩ = some (.func (.func 28) #[] #[]) := (hB.cell (p := ⟨bb, 0, none⟩) (by show bb < _; omega)).trans (cell_later (bl2 w _ _) hby)
      have g0 := Ws.here e0
      have k0 := Ws.here f0
      have g1 := Ws.here e1
      have k1 := Ws.here f1
      have g2 := Ws.here e2
      have k2 := Ws.here f2
      go_upto_region 4 with fail
      clear e0 f0 e1 f1 e2 f2 e9
      refine wp_region_ws wr.heap.size (by kernel_rfl) (by kernel_rfl) ?_
      repeat (go_big_quiet_step (first | (go_at_call 28; exact Calls.in_ws (Nat.le_refl _) (vpcId_any _ _)) | (go_at_call 80; exact Calls.in_ws_same (cmp_is _ _ _ hv _))))
      refine wpQuiet_nil ?_
      rintro _ ⟨u, rfl⟩
      have hu := hB.trans (u.property.mono hz)
      generalize u.val = wu at hu ⊢
      clear u g0 k0 g1 k1 g2 k2
      rcases hv with ⟨h, rfl⟩ | ⟨h, rfl⟩ | ⟨h, rfl⟩
      · go_wp2
        go_ret
        exact ⟨rfl, (bl2 w _ _).trans (hu.mono (by omega))⟩
      · go_wp2
        go_roundw
        case rel => exact ⟨1, .inr ⟨rfl, trivial⟩, by go_num, hu⟩
        case measure => simp [intOf]
      · go_wp2
        go_ret
        exact ⟨rfl, (bl2 w _ _).trans (hu.mono (by omega))⟩
    · subst hv0
      go_wp2
      go_ret
      exact ⟨rfl, (bl2 w _ _).trans (hB.mono (by omega))⟩
/-- They rise. -/
def riseVAt (ps : List Vn) (i : Nat) : Bool := i == 0 || decide ((vnAt ps (i - 1)).id < (vnAt ps i).id)
def riseVB (ps : List Vn) : Bool := (List.range ps.length).all (riseVAt ps)
theorem riseV_no {ps : List Vn} {k : Nat} (hk : k < ps.length) (h : riseVAt ps k = false) : riseVB ps = false := by
  unfold riseVB
  rw [List.all_eq_false]
  exact ⟨k, by simpa using hk, by simp [h]⟩
theorem riseV_yes {ps : List Vn} (h : ∀ j, j < ps.length → riseVAt ps j = true) : riseVB ps = true := by
  unfold riseVB
  rw [List.all_eq_true]
  intro j hj
  exact h j (by simpa using hj)

set_option maxRecDepth 100000 in
set_option maxHeartbeats 1600000 in
theorem riseV_any (x : Option Addr) (n c : Nat) (ps : List Vn) (bb kk : Nat) (w : World) (hp : VS w x n ps) (hn : n ≤ 64) (hby : w.cell? ⟨bb, 0, none⟩ = some (.func (.func 28) #[] #[])) :
    Calls Tryz.prog 67 #[.slice x n c, .slice (some ⟨bb, 0, none⟩) 1 kk] w fun e w' => e = .returned (.bool (riseVB ps)) ∧ Below w.heap.size w w' := by
  go_enter Tryz.func67, Tryz.ntmps67
  go_wp2
  go_loopw [5] (fun i wr => ∃ j : Nat, 1 ≤ j ∧ j ≤ n + 1 ∧ i = .int .i64 j ∧ Below w.heap.size w wr ∧ (∀ i, i < j → i < n → riseVAt ps i = true)) (fun i _ => n + 1 - (intOf i).toNat)
  case atStart => exact ⟨1, by omega, by omega, rfl, Below.refl _ _, fun i hi _ => by
    obtain rfl : i = 0 := by omega
    rfl⟩
  case round =>
    obtain ⟨j, hj1, hjn, rfl, hB, hok⟩ := hrel
    have hz := hB.size
    have hpl := hp.len
    by_cases hlt : j < n
    · obtain ⟨i, rfl⟩ : ∃ i, j = i + 1 := ⟨j - 1, by omega⟩
      have hp2 := hp.later hB
      obtain ⟨b, o, rfl, c0, c1, c2⟩ := hp2.cells i (by omega)
      obtain ⟨b2, o2, hbo, d0, d1, d2⟩ := hp2.cells (i + 1) (by omega)
      simp only [Option.some.injEq, Addr.mk.injEq, and_true] at hbo
      obtain ⟨rfl, rfl⟩ := hbo
      have hby' := cell_later hB hby
      have hlt' := hlt
      have g0 := Ws.here c0
      have k0 := Ws.here d0
      have g1 := Ws.here c1
      have k1 := Ws.here d1
      have g2 := Ws.here c2
      have k2 := Ws.here d2
      have g9 := Ws.here hby'
      have hv : ∃ v, Cmp ((vnAt ps i).id) ((vnAt ps (i + 1)).id) v ∧ (decide ((vnAt ps i).id < (vnAt ps (i + 1)).id) = !(decide (0 ≤ v))) := by
        rcases Int.lt_trichotomy ((vnAt ps i).id) ((vnAt ps (i + 1)).id) with h | h | h
        · exact ⟨-1, .inl ⟨h, rfl⟩, by simp [h]⟩
        · exact ⟨0, .inr (.inl ⟨h, rfl⟩), by simp [h]⟩
        · exact ⟨1, .inr (.inr ⟨h, rfl⟩), by simp; omega⟩
      obtain ⟨v, hv, hd⟩ := hv
      go_upto_region 4 with fail
      clear c0 d0 c1 d1 c2 d2
      refine wp_region_ws wr.heap.size (by kernel_rfl) (by kernel_rfl) ?_
      cases hg : decide (0 ≤ v)
      all_goals rw [hg] at hd
      all_goals have hge : decide (v ≥ 0) = _ := hg
      all_goals repeat (go_big_quiet_step ((go_at_call 53; exact Calls.in_ws (Nat.le_refl _) (compareV_is (vnAt ps i) (vnAt ps (i + 1)) _ hv _ _ _ (g9 _)))))
      all_goals refine wpQuiet_nil ?_
      all_goals rintro _ ⟨u, rfl⟩
      all_goals have hu := hB.trans (u.property.mono hz)
      all_goals generalize u.val = wu at hu ⊢
      all_goals clear u g9 g0 k0 g1 k1 g2 k2
      all_goals go_wp2
      · go_roundw
        case rel => exact ⟨i + 1 + 1, by omega, by omega, by go_num, hu, fun q hq hqn => by
          by_cases hq2 : q < i + 1
          · exact hok q hq2 hqn
          · obtain rfl : q = i + 1 := by omega
            simp only [riseVAt, Nat.add_sub_cancel, hd]
            simp⟩
        case measure => simp [intOf]; omega
      · go_ret
        exact ⟨ret_bool (riseV_no (k := i + 1) (by omega) (by simp only [riseVAt, Nat.add_sub_cancel, hd]; simp)).symm, hu⟩
    · go_wp2
      go_ret
      exact ⟨ret_bool (riseV_yes (fun i hi => hok i (by omega) (by omega))).symm, hB⟩
end Go.Proofs.YtlalgkjollgcbaaGreat
/- place, vpcsRight and meet of package net. -/
namespace Go.Proofs.YtlalgkjollgcbaaGreat
open Go.RowKit Go.Shelf

/-- Where the network with that Id is, or -1. -/
def vplace (n : Nat) (vs : List Vn) (id : Int) : Int := match (List.range n).find? (fun i => (vnAt vs i).id == id) with | some i => i | none => -1
theorem vplace_yes {n i : Nat} {vs : List Vn} {id : Int} (hi : i < n) (h : ((vnAt vs i).id == id) = true) (hno : ∀ j, j < i → ((vnAt vs j).id == id) = false) : vplace n vs id = i := by
  unfold vplace
  have : (List.range n).find? (fun i => (vnAt vs i).id == id) = some i := by
    rw [List.find?_range_eq_some]
    exact ⟨h, by simpa using hi, fun j hj => by simp [hno j hj]⟩
  rw [this]
theorem vplace_no {n : Nat} {vs : List Vn} {id : Int} (hno : ∀ j, j < n → ((vnAt vs j).id == id) = false) : vplace n vs id = -1 := by
  unfold vplace
  have : (List.range n).find? (fun i => (vnAt vs i).id == id) = none := by
    rw [List.find?_eq_none]
    intro j hj
    simp [hno j (by simpa using hj)]
  rw [this]
set_option maxRecDepth 20000 in
theorem place1_any (id : Int) (p : Vn) (b : Nat) (w : World) (h0 : w.cell? ⟨b, 0, none⟩ = some (.int .i64 id)) :
    Calls Tryz.prog 48 #[.agg #[.int .i64 p.id, .slice p.rx p.rn p.rc, .slice p.sx p.sn p.sc], .pointer (some ⟨b, 0, none⟩)] w fun e w' => e = .returned (.bool (p.id == id)) ∧ Below w.heap.size w w' := by
  have k0 : ∀ q, (w.alloc q).cell? ⟨b, 0, none⟩ = some (.int .i64 id) := fun q => cell_later (bl1 w q) h0
  go_enter Tryz.func48, Tryz.ntmps48
  go_wp2
  go_ret
  exact ⟨rfl, bl1 w _⟩
theorem call_place1 (args : Array Value) (W : World) : (callFunc 48 args).run Tryz.prog W = .ok (.enter 48 args) W := by simp [go_sem]
set_option maxRecDepth 20000 in
set_option maxHeartbeats 800000 in
theorem place_any (id : Int) (x : Option Addr) (n c : Nat) (vs : List Vn) (lx : Option Addr) (ln lc : Nat) (w : World) (hp : VS w x n vs) (hn : n ≤ 1048576) :
    Calls Tryz.prog 22 #[.agg #[.slice x n c, .slice lx ln lc], .int .i64 id] w fun e w' => e = .returned (.int .i64 (vplace n vs id)) ∧ Below w.heap.size w w' := by
  go_enter Tryz.func22, Tryz.ntmps22
  go_wp2_with fail
  refine (indexFuncVn_any 48 #[.pointer (some ⟨w.heap.size + 1, 0, none⟩)] x n c vs (fun i => (vnAt vs i).id == id) _ (hp.later (bl2 w _ _)) hn (fun i _ W hW => place1_any id (vnAt vs i) (w.heap.size + 1) W (cell_later hW (by simp))) call_place1).mono ?_
  rintro e w1 ⟨⟨r, rfl, hr⟩, hb1⟩
  have hrv : r = vplace n vs id := by
    rcases hr with ⟨i, hi, hf, hno, rfl⟩ | ⟨hno, rfl⟩
    · exact (vplace_yes hi hf hno).symm
    · exact (vplace_no hno).symm
  subst hrv
  go_wp2
  go_ret
  exact ⟨rfl, (bl2 w _ _).trans (hb1.mono (by simp; omega))⟩
theorem place_is (id : Int) (x : Option Addr) (n c : Nat) (vs : List Vn) (lx : Option Addr) (ln lc : Nat) (t : Int) (h : vplace n vs id = t) (w : World) (hp : VS w x n vs) (hn : n ≤ 1048576) :
    Calls Tryz.prog 22 #[.agg #[.slice x n c, .slice lx ln lc], .int .i64 id] w fun e w' => e = .returned (.int .i64 t) ∧ Below w.heap.size w w' := by
  subst h
  exact place_any id x n c vs lx ln lc w hp hn

/-- Is it no right network? -/
def vbad (v : Vn) : Bool := !(chkV v.id v.rn v.rs v.sn v.ss == 0)
set_option maxRecDepth 20000 in
set_option maxHeartbeats 800000 in
theorem vpcsRight1_any (p : Vn) (w : World) (hr : p.rn ≤ 9223372036854775807) (hs : p.sn ≤ 9223372036854775807) (hrc : p.rc ≤ 9223372036854775807) (hv : Vp w p.rx p.rn p.rc p.rs p.sx p.sn p.sc p.ss) :
    Calls Tryz.prog 69 #[.agg #[.int .i64 p.id, .slice p.rx p.rn p.rc, .slice p.sx p.sn p.sc]] w fun e w' => e = .returned (.bool (vbad p)) ∧ Below w.heap.size w w' := by
  go_enter Tryz.func69, Tryz.ntmps69
  go_wp2_with (go_at_call 55; refine (checkV_any _ _ _ _ _ _ _ _ _ _ (hv.later (bl1 w _)) hr hs hrc).mono ?_; rintro e w1 ⟨rfl, hb1⟩)
  go_ret
  exact ⟨ret_bool (by unfold vbad; simp [bne]), (bl1 w _).trans (hb1.mono (by simp))⟩
theorem call_vpcsRight1 (args : Array Value) (W : World) : (callFunc 69 args).run Tryz.prog W = .ok (.enter 69 args) W := by simp [go_sem]
/-- Are these networks right, and do they rise? -/
def vpcsB (n : Nat) (vs : List Vn) : Bool := riseVB vs && !anyAt n fun i => vbad (vnAt vs i)
set_option maxRecDepth 20000 in
set_option maxHeartbeats 800000 in
theorem vpcsRight_any (x : Option Addr) (n c : Nat) (vs : List Vn) (w : World) (hp : VS w x n vs) (hn : n ≤ 64) :
    Calls Tryz.prog 37 #[.slice x n c] w fun e w' => e = .returned (.bool (vpcsB n vs)) ∧ Below w.heap.size w w' := by
  have hbd : Hid (vpcsB n vs = (riseVB vs && !anyAt n fun i => vbad (vnAt vs i))) := rfl
  go_enter Tryz.func37, Tryz.ntmps37
  go_wp2_with fail
  refine (riseV_any x n c vs w.heap.size 1 _ (hp.later (bl1 w _)) hn (by simp)).mono ?_
  rintro e w1 ⟨rfl, hb1⟩
  have hB := (bl1 w _).trans (hb1.mono (by simp))
  clear hb1
  cases hr : riseVB vs
  · go_wp2
    go_ret
    exact ⟨ret_bool (by rw [hbd.out, hr]; rfl), hB⟩
  · have hp1 := hp.later hB
    go_wp2_with fail
    refine (containsFuncVn_any 69 #[] x n c vs _ _ hp1 (by omega) (fun i hi W hW => vpcsRight1_any (vnAt vs i) W (hp1.vps i hi).1 (hp1.vps i hi).2.1 (hp1.vps i hi).2.2.1 ((hp1.vps i hi).2.2.2.later hW)) call_vpcsRight1).mono ?_
    rintro e w2 ⟨rfl, hb2⟩
    go_wp2
    go_ret
    exact ⟨ret_bool (by rw [hbd.out, hr]; simp), hB.trans (hb2.mono hB.size)⟩
theorem vpcsRight_is (x : Option Addr) (n c : Nat) (vs : List Vn) (t : Bool) (h : vpcsB n vs = t) (w : World) (hp : VS w x n vs) (hn : n ≤ 64) :
    Calls Tryz.prog 37 #[.slice x n c] w fun e w' => e = .returned (.bool t) ∧ Below w.heap.size w w' := by
  subst h
  exact vpcsRight_any x n c vs w hp hn

/-- Have these networks an address in common? -/
def meetB (rn : Nat) (rs : List Rg) (qn : Nat) (qs : List Rg) : Bool := anyAt rn fun i => anyAt qn fun j => mts (rgAt rs i).a (rgAt rs i).l (rgAt qs j).a (rgAt qs j).l
set_option maxRecDepth 20000 in
set_option maxHeartbeats 800000 in
theorem meet11_any (c m : Int) (p : Rg) (b : Nat) (w : World) (h0 : w.cell? ⟨b, 0, none⟩ = some (.int .i64 c)) (h1 : w.cell? ⟨b, 1, none⟩ = some (.int .i64 m)) :
    Calls Tryz.prog 94 #[.agg #[.int .i64 p.a, .int .i64 p.l, .int .i64 p.p], .pointer (some ⟨b, 0, none⟩)] w fun e w' => e = .returned (.bool (mts c m p.a p.l)) ∧ Below w.heap.size w w' := by
  have k0 : ∀ q, (w.alloc q).cell? ⟨b, 0, none⟩ = some (.int .i64 c) := fun q => cell_later (bl1 w q) h0
  have k1 : ∀ q, (w.alloc q).cell? ⟨b, 1, none⟩ = some (.int .i64 m) := fun q => cell_later (bl1 w q) h1
  go_enter Tryz.func94, Tryz.ntmps94
  go_wp2_with (go_at_call 88; refine (meets_any _ _ _ _ _).mono ?_; rintro e w1 ⟨rfl, hb1⟩)
  go_ret
  exact ⟨rfl, (bl1 w _).trans (hb1.mono (by simp))⟩
theorem call_meet11 (args : Array Value) (W : World) : (callFunc 94 args).run Tryz.prog W = .ok (.enter 94 args) W := by simp [go_sem]
set_option maxRecDepth 20000 in
set_option maxHeartbeats 800000 in
theorem meet1_any (p : Rg) (qx : Option Addr) (qn qc : Nat) (qs : List Rg) (b : Nat) (w : World) (hq : RS w qx qn qs) (hqn : qn ≤ 64) (h1 : w.cell? ⟨b, 1, none⟩ = some (.slice qx qn qc)) :
    Calls Tryz.prog 93 #[.agg #[.int .i64 p.a, .int .i64 p.l, .int .i64 p.p], .pointer (some ⟨b, 0, none⟩)] w fun e w' => e = .returned (.bool (anyAt qn fun j => mts p.a p.l (rgAt qs j).a (rgAt qs j).l)) ∧ Below w.heap.size w w' := by
  have k1 : ∀ q, (w.alloc q).cell? ⟨b, 1, none⟩ = some (.slice qx qn qc) := fun q => cell_later (bl1 w q) h1
  go_enter Tryz.func93, Tryz.ntmps93
  go_wp2_with fail
  refine (containsFuncRg_any 94 #[.pointer (some ⟨w.heap.size, 0, none⟩)] qx qn qc qs (fun j => mts p.a p.l (rgAt qs j).a (rgAt qs j).l) _ (hq.later (bl1 w _)) (by omega) (fun i _ W hW => meet11_any p.a p.l (rgAt qs i) w.heap.size W (cell_later hW (by simp)) (cell_later hW (by simp))) call_meet11).mono ?_
  rintro e w1 ⟨rfl, hb1⟩
  go_wp2
  go_ret
  exact ⟨rfl, (bl1 w _).trans (hb1.mono (by simp))⟩
theorem call_meet1 (args : Array Value) (W : World) : (callFunc 93 args).run Tryz.prog W = .ok (.enter 93 args) W := by simp [go_sem]
set_option maxRecDepth 20000 in
set_option maxHeartbeats 800000 in
theorem nmeet_any (p q : Vn) (w : World) (hp : RS w p.rx p.rn p.rs) (hq : RS w q.rx q.rn q.rs) (hpn : p.rn ≤ 64) (hqn : q.rn ≤ 64) :
    Calls Tryz.prog 60 #[.agg #[.int .i64 p.id, .slice p.rx p.rn p.rc, .slice p.sx p.sn p.sc], .agg #[.int .i64 q.id, .slice q.rx q.rn q.rc, .slice q.sx q.sn q.sc]] w fun e w' => e = .returned (.bool (meetB p.rn p.rs q.rn q.rs)) ∧ Below w.heap.size w w' := by
  go_enter Tryz.func60, Tryz.ntmps60
  go_wp2_with fail
  refine (containsFuncRg_any 93 #[.pointer (some ⟨w.heap.size + 1, 0, none⟩)] p.rx p.rn p.rc p.rs (fun i => anyAt q.rn fun j => mts (rgAt p.rs i).a (rgAt p.rs i).l (rgAt q.rs j).a (rgAt q.rs j).l) _ (hp.later (bl2 w _ _)) (by omega) (fun i _ W hW => meet1_any (rgAt p.rs i) q.rx q.rn q.rc q.rs (w.heap.size + 1) W ((hq.later (bl2 w _ _)).later hW) hqn (cell_later hW (by simp))) call_meet1).mono ?_
  rintro e w1 ⟨rfl, hb1⟩
  go_wp2
  go_ret
  exact ⟨rfl, (bl2 w _ _).trans (hb1.mono (by simp; omega))⟩
theorem nmeet_is (p q : Vn) (t : Bool) (h : meetB p.rn p.rs q.rn q.rs = t) (w : World) (hp : RS w p.rx p.rn p.rs) (hq : RS w q.rx q.rn q.rs) (hpn : p.rn ≤ 64) (hqn : q.rn ≤ 64) :
    Calls Tryz.prog 60 #[.agg #[.int .i64 p.id, .slice p.rx p.rn p.rc, .slice p.sx p.sn p.sc], .agg #[.int .i64 q.id, .slice q.rx q.rn q.rc, .slice q.sx q.sn q.sc]] w fun e w' => e = .returned (.bool t) ∧ Below w.heap.size w w' := by
  subst h
  exact nmeet_any p q w hp hq hpn hqn
end Go.Proofs.YtlalgkjollgcbaaGreat
/- Links: compare, Rise by two numbers; linksRight of package net. -/
namespace Go.Proofs.YtlalgkjollgcbaaGreat
open Go.RowKit Go.Shelf

theorem linkA_any (a b : Int) (w : World) :
    Calls Tryz.prog 43 #[.agg #[.int .i64 a, .int .i64 b]] w fun e w' => e = .returned (.int .i64 a) ∧ Below w.heap.size w w' := by
  go_enter Tryz.func43, Tryz.ntmps43
  go_wp2
  go_ret
  exact ⟨rfl, bl1 _ _⟩
theorem linkB_any (a b : Int) (w : World) :
    Calls Tryz.prog 44 #[.agg #[.int .i64 a, .int .i64 b]] w fun e w' => e = .returned (.int .i64 b) ∧ Below w.heap.size w w' := by
  go_enter Tryz.func44, Tryz.ntmps44
  go_wp2
  go_ret
  exact ⟨rfl, bl1 _ _⟩
theorem call_linkA (args : Array Value) (W : World) : (callFunc 43 args).run Tryz.prog W = .ok (.enter 43 args) W := by simp [go_sem]
theorem call_linkB (args : Array Value) (W : World) : (callFunc 44 args).run Tryz.prog W = .ok (.enter 44 args) W := by simp [go_sem]
/-- Compared by the one, then by the other. -/
def Cmp2 (a l c m v : Int) : Prop := (a < c ∧ v = -1) ∨ (a = c ∧ Cmp l m v) ∨ (c < a ∧ v = 1)
set_option maxRecDepth 100000 in
set_option maxHeartbeats 1600000 in
theorem compareL_is (a l c m v : Int) (hv : Cmp2 a l c m v) (bb k : Nat) (w : World) (hby : w.cell? ⟨bb, 0, none⟩ = some (.func (.func 43) #[] #[])) (hby2 : w.cell? ⟨bb, 1, none⟩ = some (.func (.func 44) #[] #[])) :
    Calls Tryz.prog 75 #[.agg #[.int .i64 a, .int .i64 l], .agg #[.int .i64 c, .int .i64 m], .slice (some ⟨bb, 0, none⟩) 2 k] w fun e w' => e = .returned (.int .i64 v) ∧ Below w.heap.size w w' := by
  have hcall := call_linkA
  have hcall2 := call_linkB
  go_enter Tryz.func75, Tryz.ntmps75
  go_wp2
  go_loopw [12] (fun i wr => ∃ j : Nat, (j = 0 ∨ (j = 1 ∧ a = c ∧ Cmp l m v) ∨ (j = 2 ∧ v = 0)) ∧ i = .int .i64 j ∧ Below (w.heap.size + 1 + 1) ((w.alloc (.cells #[.int .i64 a, .int .i64 l] 63)).alloc (.cells #[.int .i64 c, .int .i64 m] 63)) wr) (fun i _ => 2 - (intOf i).toNat)
  case atStart => exact ⟨0, .inl rfl, rfl, Below.refl _ _⟩
  case round =>
    obtain ⟨j, hj, rfl, hB⟩ := hrel
    rcases hj with rfl | ⟨rfl, hac, hv2⟩ | ⟨rfl, hv0⟩
    · obtain ⟨v1, hw⟩ : ∃ v1, Cmp a c v1 := by
        rcases Int.lt_trichotomy a c with h | h | h
        · exact ⟨-1, .inl ⟨h, rfl⟩⟩
        · exact ⟨0, .inr (.inl ⟨h, rfl⟩)⟩
        · exact ⟨1, .inr (.inr ⟨h, rfl⟩)⟩
      have hz := hB.size
      simp only [World.size_alloc] at hz
      have hbl : bb < w.heap.size := block_lt_of_cell hby
      have e0 : wr.cell? ⟨w.heap.size, 0, none⟩ = some (.int .i64 a) := (hB.cell (p := ⟨w.heap.size, 0, none⟩) (by show w.heap.size < _; omega)).trans (by simp)
      have e1 : wr.cell? ⟨w.heap.size, 1, none⟩ = some (.int .i64 l) := (hB.cell (p := ⟨w.heap.size, 1, none⟩) (by show w.heap.size < _; omega)).trans (by simp)
      have e2 : wr.cell? ⟨w.heap.size + 1, 0, none⟩ = some (.int .i64 c) := (hB.cell (p := ⟨w.heap.size + 1, 0, none⟩) (by show w.heap.size + 1 < _; omega)).trans (by simp)
      have e3 : wr.cell? ⟨w.heap.size + 1, 1, none⟩ = some (.int .i64 m) := (hB.cell (p := ⟨w.heap.size + 1, 1, none⟩) (by show w.heap.size + 1 < _; omega)).trans (by simp)
      have e4 : wr.cell? ⟨bb, 0, none⟩ = some (.func (.func 43) #[] #[]) := (hB.cell (p := ⟨bb, 0, none⟩) (by show bb < _; omega)).trans (cell_later (bl2 w _ _) hby)
      have e5 : wr.cell? ⟨bb, 1, none⟩ = some (.func (.func 44) #[] #[]) := (hB.cell (p := ⟨bb, 1, none⟩) (by show bb < _; omega)).trans (cell_later (bl2 w _ _) hby2)
      have g0 := Ws.here e0
      have g1 := Ws.here e1
      have g2 := Ws.here e2
      have g3 := Ws.here e3
      go_upto_region 4 with fail
      clear e0 e1 e2 e3 e4 e5
      refine wp_region_ws wr.heap.size (by kernel_rfl) (by kernel_rfl) ?_
      repeat (go_big_quiet_step (first | (go_at_call 43; exact Calls.in_ws (Nat.le_refl _) (linkA_any _ _ _)) | (go_at_call 80; exact Calls.in_ws_same (cmp_is _ _ _ hw _))))
      refine wpQuiet_nil ?_
      rintro _ ⟨u, rfl⟩
      have hu := hB.trans (u.property.mono hz)
      generalize u.val = wu at hu ⊢
      clear u g0 g1 g2 g3
      have hv' : Hid (Cmp2 a l c m v) := hv
      clear hv
      rcases hw with ⟨h, rfl⟩ | ⟨h, rfl⟩ | ⟨h, rfl⟩
      · obtain rfl : v = -1 := by
          rcases hv'.out with ⟨_, h2⟩ | ⟨h2, _⟩ | ⟨h2, _⟩
          · exact h2
          · omega
          · omega
        go_wp2
        go_ret
        exact ⟨rfl, (bl2 w _ _).trans (hu.mono (by omega))⟩
      · have h3 : Cmp l m v := by
          rcases hv'.out with ⟨h2, _⟩ | ⟨_, h2⟩ | ⟨h2, _⟩
          · omega
          · exact h2
          · omega
        go_wp2
        go_roundw
        case rel => exact ⟨1, .inr (.inl ⟨rfl, h, h3⟩), by go_num, hu⟩
        case measure => simp [intOf]
      · obtain rfl : v = 1 := by
          rcases hv'.out with ⟨h2, _⟩ | ⟨h2, _⟩ | ⟨_, h2⟩
          · omega
          · omega
          · exact h2
        go_wp2
        go_ret
        exact ⟨rfl, (bl2 w _ _).trans (hu.mono (by omega))⟩
    · have hw := hv2
      clear hv
      have hz := hB.size
      simp only [World.size_alloc] at hz
      have hbl : bb < w.heap.size := block_lt_of_cell hby
      have e0 : wr.cell? ⟨w.heap.size, 0, none⟩ = some (.int .i64 a) := (hB.cell (p := ⟨w.heap.size, 0, none⟩) (by show w.heap.size < _; omega)).trans (by simp)
      have e1 : wr.cell? ⟨w.heap.size, 1, none⟩ = some (.int .i64 l) := (hB.cell (p := ⟨w.heap.size, 1, none⟩) (by show w.heap.size < _; omega)).trans (by simp)
      have e2 : wr.cell? ⟨w.heap.size + 1, 0, none⟩ = some (.int .i64 c) := (hB.cell (p := ⟨w.heap.size + 1, 0, none⟩) (by show w.heap.size + 1 < _; omega)).trans (by simp)
      have e3 : wr.cell? ⟨w.heap.size + 1, 1, none⟩ = some (.int .i64 m) := (hB.cell (p := ⟨w.heap.size + 1, 1, none⟩) (by show w.heap.size + 1 < _; omega)).trans (by simp)
      have e4 : wr.cell? ⟨bb, 0, none⟩ = some (.func (.func 43) #[] #[]) := (hB.cell (p := ⟨bb, 0, none⟩) (by show bb < _; omega)).trans (cell_later (bl2 w _ _) hby)
      have e5 : wr.cell? ⟨bb, 1, none⟩ = some (.func (.func 44) #[] #[]) := (hB.cell (p := ⟨bb, 1, none⟩) (by show bb < _; omega)).trans (cell_later (bl2 w _ _) hby2)
      have g0 := Ws.here e0
      have g1 := Ws.here e1
      have g2 := Ws.here e2
      have g3 := Ws.here e3
      go_upto_region 4 with fail
      clear e0 e1 e2 e3 e4 e5
      refine wp_region_ws wr.heap.size (by kernel_rfl) (by kernel_rfl) ?_
      repeat (go_big_quiet_step (first | (go_at_call 44; exact Calls.in_ws (Nat.le_refl _) (linkB_any _ _ _)) | (go_at_call 80; exact Calls.in_ws_same (cmp_is _ _ _ hw _))))
      refine wpQuiet_nil ?_
      rintro _ ⟨u, rfl⟩
      have hu := hB.trans (u.property.mono hz)
      generalize u.val = wu at hu ⊢
      clear u g0 g1 g2 g3
      clear hv2
      rcases hw with ⟨h, rfl⟩ | ⟨h, rfl⟩ | ⟨h, rfl⟩
      · go_wp2
        go_ret
        exact ⟨rfl, (bl2 w _ _).trans (hu.mono (by omega))⟩
      · go_wp2
        go_roundw
        case rel => exact ⟨2, .inr (.inr ⟨rfl, by first | rfl | trivial⟩), by go_num, hu⟩
        case measure => simp [intOf]
      · go_wp2
        go_ret
        exact ⟨rfl, (bl2 w _ _).trans (hu.mono (by omega))⟩
    · subst hv0
      go_wp2
      go_ret
      exact ⟨rfl, (bl2 w _ _).trans (hB.mono (by omega))⟩
/-- The links rise. -/
def riseLAt (ps : List (Int × Int)) (i : Nat) : Bool := i == 0 || decide (at0 ps (i - 1) < at0 ps i ∨ (at0 ps (i - 1) = at0 ps i ∧ at1 ps (i - 1) < at1 ps i))
def riseLB (ps : List (Int × Int)) : Bool := (List.range ps.length).all (riseLAt ps)
theorem riseL_no {ps : List (Int × Int)} {k : Nat} (hk : k < ps.length) (h : riseLAt ps k = false) : riseLB ps = false := by
  unfold riseLB
  rw [List.all_eq_false]
  exact ⟨k, by simpa using hk, by simp [h]⟩
theorem riseL_yes {ps : List (Int × Int)} (h : ∀ j, j < ps.length → riseLAt ps j = true) : riseLB ps = true := by
  unfold riseLB
  rw [List.all_eq_true]
  intro j hj
  exact h j (by simpa using hj)

set_option maxRecDepth 100000 in
set_option maxHeartbeats 1600000 in
theorem riseL_any (x : Option Addr) (n c : Nat) (ps : List (Int × Int)) (bb k : Nat) (w : World) (hp : PS w x n ps) (hn : n ≤ 64) (hby : w.cell? ⟨bb, 0, none⟩ = some (.func (.func 43) #[] #[])) (hby2 : w.cell? ⟨bb, 1, none⟩ = some (.func (.func 44) #[] #[])) :
    Calls Tryz.prog 70 #[.slice x n c, .slice (some ⟨bb, 0, none⟩) 2 k] w fun e w' => e = .returned (.bool (riseLB ps)) ∧ Below w.heap.size w w' := by
  go_enter Tryz.func70, Tryz.ntmps70
  go_wp2
  go_loopw [5] (fun i wr => ∃ j : Nat, 1 ≤ j ∧ j ≤ n + 1 ∧ i = .int .i64 j ∧ Below w.heap.size w wr ∧ (∀ i, i < j → i < n → riseLAt ps i = true)) (fun i _ => n + 1 - (intOf i).toNat)
  case atStart => exact ⟨1, by omega, by omega, rfl, Below.refl _ _, fun i hi _ => by
    obtain rfl : i = 0 := by omega
    rfl⟩
  case round =>
    obtain ⟨j, hj1, hjn, rfl, hB, hok⟩ := hrel
    have hz := hB.size
    have hpl := hp.len
    by_cases hlt : j < n
    · obtain ⟨i, rfl⟩ : ∃ i, j = i + 1 := ⟨j - 1, by omega⟩
      have hp2 := hp.later hB
      obtain ⟨b, o, rfl, c0, c1⟩ := hp2.cells i (by omega)
      obtain ⟨b2, o2, hbo, c2, c3⟩ := hp2.cells (i + 1) (by omega)
      simp only [Option.some.injEq, Addr.mk.injEq, and_true] at hbo
      obtain ⟨rfl, rfl⟩ := hbo
      have hby' := cell_later hB hby
      have hby2' := cell_later hB hby2
      have hlt' := hlt
      have g0 := Ws.here c0
      have g1 := Ws.here c1
      have g2 := Ws.here c2
      have g3 := Ws.here c3
      have g4 := Ws.here hby'
      have g5 := Ws.here hby2'
      have hv : ∃ v, Cmp2 (at0 ps i) (at1 ps i) (at0 ps (i + 1)) (at1 ps (i + 1)) v ∧ (decide (at0 ps i < at0 ps (i + 1) ∨ (at0 ps i = at0 ps (i + 1) ∧ at1 ps i < at1 ps (i + 1))) = !(decide (0 ≤ v))) := by
        rcases Int.lt_trichotomy (at0 ps i) (at0 ps (i + 1)) with h | h | h
        · exact ⟨-1, .inl ⟨h, rfl⟩, by simp [h]⟩
        · rcases Int.lt_trichotomy (at1 ps i) (at1 ps (i + 1)) with h2 | h2 | h2
          · exact ⟨-1, .inr (.inl ⟨h, .inl ⟨h2, rfl⟩⟩), by simp [h, h2]⟩
          · exact ⟨0, .inr (.inl ⟨h, .inr (.inl ⟨h2, rfl⟩)⟩), by simp [h, h2]⟩
          · exact ⟨1, .inr (.inl ⟨h, .inr (.inr ⟨h2, rfl⟩)⟩), by simp [h]; omega⟩
        · exact ⟨1, .inr (.inr ⟨h, rfl⟩), by simp; omega⟩
      obtain ⟨v, hv, hd⟩ := hv
      go_upto_region 4 with fail
      clear c0 c1 c2 c3
      refine wp_region_ws wr.heap.size (by kernel_rfl) (by kernel_rfl) ?_
      cases hg : decide (0 ≤ v)
      all_goals rw [hg] at hd
      all_goals have hge : decide (v ≥ 0) = _ := hg
      all_goals repeat (go_big_quiet_step ((go_at_call 75; exact Calls.in_ws (Nat.le_refl _) (compareL_is _ _ _ _ _ hv _ _ _ (g4 _) (g5 _)))))
      all_goals refine wpQuiet_nil ?_
      all_goals rintro _ ⟨u, rfl⟩
      all_goals have hu := hB.trans (u.property.mono hz)
      all_goals generalize u.val = wu at hu ⊢
      all_goals clear u g0 g1 g2 g3 g4 g5
      all_goals go_wp2
      · go_roundw
        case rel => exact ⟨i + 1 + 1, by omega, by omega, by go_num, hu, fun q hq hqn => by
          by_cases hq2 : q < i + 1
          · exact hok q hq2 hqn
          · obtain rfl : q = i + 1 := by omega
            simp only [riseLAt, Nat.add_sub_cancel, hd]
            simp⟩
        case measure => simp [intOf]; omega
      · go_ret
        exact ⟨ret_bool (riseL_no (k := i + 1) (by omega) (by simp only [riseLAt, Nat.add_sub_cancel, hd]; simp)).symm, hu⟩
    · go_wp2
      go_ret
      exact ⟨ret_bool (riseL_yes (fun i hi => hok i (by omega) (by omega))).symm, hB⟩

/-- Is the i-th link wrong? -/
def lbad (vn : Nat) (vs : List Vn) (ls : List (Int × Int)) (i : Nat) : Bool := decide (at1 ls i ≤ at0 ls i) || decide (vplace vn vs (at0 ls i) < 0) || decide (vplace vn vs (at1 ls i) < 0)
set_option maxRecDepth 100000 in
set_option maxHeartbeats 1600000 in
theorem linksRight1_any (a b : Int) (bb : Nat) (x : Option Addr) (n c : Nat) (vs : List Vn) (lx : Option Addr) (ln lc : Nat) (w : World) (hp : VS w x n vs) (hn : n ≤ 64) (h0 : w.cell? ⟨bb, 0, none⟩ = some (.slice x n c)) (h1 : w.cell? ⟨bb, 1, none⟩ = some (.slice lx ln lc)) :
    Calls Tryz.prog 72 #[.agg #[.int .i64 a, .int .i64 b], .pointer (some ⟨bb, 0, none⟩)] w fun e w' => e = .returned (.bool (decide (b ≤ a) || decide (vplace n vs a < 0) || decide (vplace n vs b < 0))) ∧ Below w.heap.size w w' := by
  go_enter Tryz.func72, Tryz.ntmps72
  go_upto_region 1 with fail
  obtain ⟨w2, hw2⟩ : ∃ w2, w2 = w.alloc (.cells #[.int .i64 a, .int .i64 b] 63) := ⟨_, rfl⟩
  rw [← hw2]
  have h02 : Below w.heap.size w w2 := by rw [hw2]; exact bl1 w _
  have hbox : w2.heap[w.heap.size]? = some (.cells #[.int .i64 a, .int .i64 b] 63) := by rw [hw2]; exact heap_new _ rfl
  clear hw2
  obtain ⟨hcl, -⟩ := box_cells hbox
  have q0 : w2.cell? ⟨w.heap.size, 0, none⟩ = some (.int .i64 a) := hcl 0
  have q1 : w2.cell? ⟨w.heap.size, 1, none⟩ = some (.int .i64 b) := hcl 1
  have q2 := cell_later h02 h0
  have q3 := cell_later h02 h1
  clear hcl hbox
  have hp2 := hp.later h02
  have hsz : Hid (w.heap.size ≤ w2.heap.size) := h02.size
  by_cases hab : b ≤ a
  · have hge : decide (a ≥ b) = true := by simpa using hab
    go_wp2
    go_ret
    exact ⟨ret_bool (by simp [hab]), h02⟩
  · have hge : decide (a ≥ b) = false := by simpa using hab
    go_wp2_with fail
    refine (place_any a x n c vs lx ln lc _ hp2 (by omega)).mono ?_
    rintro e w3 ⟨rfl, hb3⟩
    have r0 := cell_later hb3 q0
    have r1 := cell_later hb3 q1
    have r2 := cell_later hb3 q2
    have r3 := cell_later hb3 q3
    clear q0 q1 q2 q3
    have h03 : Below w.heap.size w w3 := h02.trans (hb3.mono hsz.out)
    by_cases hpa : vplace n vs a < 0
    · have hd : decide (vplace n vs a < 0) = true := by simpa using hpa
      go_wp2
      go_ret
      exact ⟨ret_bool (by simp [hpa]), h03⟩
    · have hd : decide (vplace n vs a < 0) = false := by simpa using hpa
      go_wp2_with (go_at_call 22; refine (place_any b x n c vs lx ln lc _ (hp2.later hb3) (by omega)).mono ?_; rintro e w4 ⟨rfl, hb4⟩)
      go_ret
      exact ⟨ret_bool (by rw [show decide (b ≤ a) = false from hge, hd]; rfl), h03.trans (hb4.mono (Nat.le_trans hsz.out hb3.size))⟩
theorem call_linksRight1 (args : Array Value) (W : World) : (callFunc 72 args).run Tryz.prog W = .ok (.enter 72 args) W := by simp [go_sem]
/-- Are the links right? -/
def linksB (vn : Nat) (vs : List Vn) (ln : Nat) (ls : List (Int × Int)) : Bool := riseLB ls && !anyAt ln (lbad vn vs ls)
set_option maxRecDepth 100000 in
set_option maxHeartbeats 1600000 in
theorem linksRight_any (x : Option Addr) (n c : Nat) (vs : List Vn) (lx : Option Addr) (ln lc : Nat) (ls : List (Int × Int)) (w : World) (hp : VS w x n vs) (hn : n ≤ 64) (hl : PS w lx ln ls) (hln : ln ≤ 64) :
    Calls Tryz.prog 38 #[.agg #[.slice x n c, .slice lx ln lc]] w fun e w' => e = .returned (.bool (linksB n vs ln ls)) ∧ Below w.heap.size w w' := by
  have hbd : Hid (linksB n vs ln ls = (riseLB ls && !anyAt ln (lbad n vs ls))) := rfl
  go_enter Tryz.func38, Tryz.ntmps38
  go_wp2_with fail
  refine (riseL_any lx ln lc ls (w.heap.size + 1) 2 _ (hl.later (bl2 w _ _)) hln (by simp) (by simp)).mono ?_
  rintro e w1 ⟨rfl, hb1⟩
  have hB := (bl2 w _ _).trans (hb1.mono (by simp; omega))
  have q0 : w1.cell? ⟨w.heap.size, 0, none⟩ = some (.slice x n c) := cell_later hb1 (by simp)
  have q1 : w1.cell? ⟨w.heap.size, 1, none⟩ = some (.slice lx ln lc) := cell_later hb1 (by simp)
  clear hb1
  cases hr : riseLB ls
  · go_wp2
    go_ret
    exact ⟨ret_bool (by rw [hbd.out, hr]; rfl), hB⟩
  · have hp1 := hp.later hB
    have hl1 := hl.later hB
    go_wp2_with fail
    refine (containsFuncLk_any 72 #[.pointer (some ⟨w.heap.size, 0, none⟩)] lx ln lc ls (lbad n vs ls) _ hl1 (by omega) (fun i hi W hW => linksRight1_any (at0 ls i) (at1 ls i) w.heap.size x n c vs lx ln lc W (hp1.later hW) hn (cell_later hW q0) (cell_later hW q1)) call_linksRight1).mono ?_
    rintro e w2 ⟨rfl, hb2⟩
    go_wp2
    go_ret
    exact ⟨ret_bool (by rw [hbd.out, hr]; simp), hB.trans (hb2.mono hB.size)⟩
theorem linksRight_is (x : Option Addr) (n c : Nat) (vs : List Vn) (lx : Option Addr) (ln lc : Nat) (ls : List (Int × Int)) (t : Bool) (h : linksB n vs ln ls = t) (w : World) (hp : VS w x n vs) (hn : n ≤ 64) (hl : PS w lx ln ls) (hln : ln ≤ 64) :
    Calls Tryz.prog 38 #[.agg #[.slice x n c, .slice lx ln lc]] w fun e w' => e = .returned (.bool t) ∧ Below w.heap.size w w' := by
  subst h
  exact linksRight_any x n c vs lx ln lc ls w hp hn hl hln
end Go.Proofs.YtlalgkjollgcbaaGreat
