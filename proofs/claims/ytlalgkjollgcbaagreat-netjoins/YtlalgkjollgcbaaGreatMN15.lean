/- slices.Index and Contains at links; joined of package route. -/
import Derived.Test.YtlalgkjollgcbaaGreatMN14
import Derived.Lib.MinMax
import Derived.Test.YtlalgkjollgcbaaGreatMN12
import Derived.Deep.DeepCutAuto
namespace Go.Proofs.YtlalgkjollgcbaaGreat
open Go.RowKit Go.Shelf

theorem link_struct : Tryz.prog.underlying 63 = some (.struct (Tryz.prog.fieldsOf 63)) := by kernel_rfl
theorem link_held : Tryz.prog.stoodInHeld 63 = false := by kernel_rfl
theorem eq_link (a l c m : Int) (w : World) : (binOp .eql 63 (.agg #[.int .i64 a, .int .i64 l]) (.agg #[.int .i64 c, .int .i64 m])).run Tryz.prog w = .ok (.bool (decide (a = c) && decide (l = m))) w := by
  rw [run_eql_struct, show (10000 : Nat) = 9999 + 1 from rfl, run_equalIn_agg w 9999 _ _ _ link_struct link_held]
  simp only [Program.fieldsOf, Tryz.underlying63]
  go_simp
  by_cases h1 : a = c <;> by_cases h2 : l = m <;> simp [h1, h2]
theorem link_guard : Tryz.prog.eqGuardType Tryz.prog.depth 63 = false := by kernel_rfl
theorem guard_link (op : BinOp) (x y : Operand) (p q : Array Value) (w : World) : (eqGuard op 63 x y (.agg p) (.agg q)).run Tryz.prog w = .ok () w := by
  have h := link_guard
  unfold eqGuard
  cases op <;> simp [go_sem, h]
theorem quiet_eqlK {ops : Array Oper} {C : World → Prop} {Q : Act → Prop} {A : Act} {o : Oper} {rest : List Oper} (x y : Operand) (t : TypeId) (a l c m : Int) (hop : o.op = .binOp .eql 63 x y t) (hg : o.guard = none)
    (hx : A.eval x = .agg #[.int .i64 a, .int .i64 l]) (hy : A.eval y = .agg #[.int .i64 c, .int .i64 m]) (h : wpQuiet Tryz.prog ops C Q rest (A.put o.dst (.bool (decide (a = c) && decide (l = m))))) : wpQuiet Tryz.prog ops C Q (o :: rest) A := by
  unfold wpQuiet
  rw [if_pos (by simp [Region.wanted, hg])]
  refine ⟨_, fun w _ => ?_, h⟩
  unfold Oper.quietAt execOp
  rw [hop]
  simp only [hx, hy, Sem.run_bind, guard_link, eq_link, Result.andThen_ok, Sem.run_pure]
  exact ⟨rfl, rfl⟩
def eqLk (ps : List (Int × Int)) (a l : Int) (i : Nat) : Bool := decide (a = at0 ps i) && decide (l = at1 ps i)

set_option maxRecDepth 20000 in
set_option maxHeartbeats 800000 in
theorem indexLk_any (a l : Int) (x : Option Addr) (n c : Nat) (ps : List (Int × Int)) (w : World) (hp : PS w x n ps) (hn : n ≤ 64) :
    Calls Tryz.prog 45 #[.slice x n c, .agg #[.int .i64 a, .int .i64 l]] w fun e w' => (∃ r : Int, e = .returned (.int .i64 r) ∧ ((∃ i : Nat, i < n ∧ eqLk ps a l i = true ∧ (∀ j, j < i → eqLk ps a l j = false) ∧ r = i) ∨ ((∀ j, j < n → eqLk ps a l j = false) ∧ r = -1))) ∧ Below w.heap.size w w' := by
  go_enter Tryz.func45, Tryz.ntmps45
  go_wp2
  go_loopw [8] (fun i wr => ∃ k : Nat, k ≤ n ∧ i = .int .i64 k ∧ Below (w.heap.size + 1) (w.alloc (.cells #[.int .i64 a, .int .i64 l] 63)) wr ∧ (∀ j, j < k → eqLk ps a l j = false)) (fun i _ => n - (intOf i).toNat)
  case atStart => exact ⟨0, by omega, rfl, Below.refl _ _, fun j hj => by omega⟩
  case round =>
    obtain ⟨k, hk, rfl, hB, hno⟩ := hrel
    have hz := hB.size
    simp only [World.size_alloc] at hz
    by_cases hlt : k < n
    · have hp2 := (hp.later (bl1 w (.cells #[.int .i64 a, .int .i64 l] 63)))
      obtain ⟨b, o, rfl, c0, c1⟩ := hp2.cells k hlt
      have hbl := block_lt_of_cell c0
      simp only [World.size_alloc] at hbl
      have d0 : wr.cell? ⟨b, o + k * 2, none⟩ = some (.int .i64 (at0 ps k)) := (hB.cell (p := ⟨b, o + k * 2, none⟩) hbl).trans c0
      have d1 : wr.cell? ⟨b, o + k * 2 + 1, none⟩ = some (.int .i64 (at1 ps k)) := (hB.cell (p := ⟨b, o + k * 2 + 1, none⟩) hbl).trans c1
      have e0 : wr.cell? ⟨w.heap.size, 0, none⟩ = some (.int .i64 a) := (hB.cell (p := ⟨w.heap.size, 0, none⟩) (by show w.heap.size < _; omega)).trans (by simp)
      have e1 : wr.cell? ⟨w.heap.size, 1, none⟩ = some (.int .i64 l) := (hB.cell (p := ⟨w.heap.size, 1, none⟩) (by show w.heap.size < _; omega)).trans (by simp)
      have g0 := Ws.here e0
      have g1 := Ws.here e1
      have g2 := Ws.here d0
      have g3 := Ws.here d1
      have hlt' := hlt
      go_upto_region 4 with fail
      clear e0 e1 d0 d1 c0 c1
      refine wp_region_ws wr.heap.size (by kernel_rfl) (by kernel_rfl) ?_
      repeat (go_big_quiet_step (fail))
      refine quiet_eqlK _ _ _ a l (at0 ps k) (at1 ps k) rfl rfl rfl rfl ?_
      refine wpQuiet_nil ?_
      rintro _ ⟨u, rfl⟩
      have hu := hB.trans (u.property.mono hz)
      generalize u.val = wu at hu ⊢
      clear u g0 g1 g2 g3
      cases he : eqLk ps a l k
      all_goals have he' := he
      all_goals unfold eqLk at he'
      all_goals rw [he']
      · go_wp2
        go_roundw
        case rel => exact ⟨k + 1, hlt', by go_num, hu, fun j hj => by
          by_cases hj2 : j < k
          · exact hno j hj2
          · obtain rfl : j = k := by omega
            exact he⟩
        case measure => simp [intOf]; omega
      · go_wp2
        go_ret
        exact ⟨⟨_, rfl, .inl ⟨k, hlt', he, hno, rfl⟩⟩, (bl1 w _).trans (hu.mono (by omega))⟩
    · go_wp2
      go_ret
      exact ⟨⟨_, rfl, .inr ⟨fun j hj => hno j (by omega), rfl⟩⟩, (bl1 w _).trans (hB.mono (by omega))⟩

theorem eqLk_any {n : Nat} {ls : List (Int × Int)} {a b : Int} : anyAt n (eqLk ls a b) = true ↔ ∃ i, i < n ∧ at0 ls i = a ∧ at1 ls i = b := by
  constructor
  · intro h
    obtain ⟨i, hi, hf⟩ := anyAt_ex h
    unfold eqLk at hf
    simp only [Bool.and_eq_true, decide_eq_true_eq] at hf
    exact ⟨i, hi, hf.1.symm, hf.2.symm⟩
  · rintro ⟨i, hi, h1, h2⟩
    exact any_yes hi (by unfold eqLk; simp [h1, h2])
set_option maxRecDepth 20000 in
set_option maxHeartbeats 800000 in
theorem containsLk_any (a l : Int) (x : Option Addr) (n c : Nat) (ps : List (Int × Int)) (w : World) (hp : PS w x n ps) (hn : n ≤ 64) :
    Calls Tryz.prog 40 #[.slice x n c, .agg #[.int .i64 a, .int .i64 l]] w fun e w' => e = .returned (.bool (anyAt n (eqLk ps a l))) ∧ Below w.heap.size w w' := by
  have H := indexLk_any a l x n c ps (w.alloc (.cells #[.int .i64 a, .int .i64 l] 63)) (hp.later (bl1 w _)) hn
  have H' : Hid (Calls Tryz.prog 45 #[.slice x n c, .agg #[.int .i64 a, .int .i64 l]] (w.alloc (.cells #[.int .i64 a, .int .i64 l] 63)) fun e w' => (∃ r : Int, e = .returned (.int .i64 r) ∧ decide (r ≥ 0) = anyAt n (eqLk ps a l)) ∧ Below (w.alloc (.cells #[.int .i64 a, .int .i64 l] 63)).heap.size (w.alloc (.cells #[.int .i64 a, .int .i64 l] 63)) w') := (H.mono fun e w' h => by
    obtain ⟨⟨r, rfl, hr⟩, hb⟩ := h
    refine ⟨⟨r, rfl, ?_⟩, hb⟩
    rcases hr with ⟨i, hi, hfi, _, rfl⟩ | ⟨hno, rfl⟩
    · rw [any_yes hi hfi]; simp
    · rw [any_no hno]; rfl)
  clear H
  go_enter Tryz.func40, Tryz.ntmps40
  go_wp2_with fail
  refine H'.out.mono ?_
  rintro e w1 ⟨⟨r, rfl, hr⟩, hb1⟩
  go_wp2
  go_ret
  exact ⟨rfl, (bl1 w _).trans (hb1.mono (by simp))⟩
/-- Does a link join these? -/
def jnB (ln : Nat) (ls : List (Int × Int)) (a b : Int) : Bool := anyAt ln (eqLk ls (min a b) (max a b))
end Go.Proofs.YtlalgkjollgcbaaGreat
/- Table of package route. -/
namespace Go.Proofs.YtlalgkjollgcbaaGreat
open Go.RowKit Go.Shelf

/-- The routes to a network. -/
def vT (v : Vn) : List Rg := v.rs.map fun r => ⟨r.a, r.l, v.id⟩
theorem vT_len (v : Vn) : (vT v).length = v.rs.length := by simp [vT]
theorem vT_take {v : Vn} {q : Nat} (h : q < v.rs.length) : (vT v).take (q + 1) = (vT v).take q ++ [⟨(rgAt v.rs q).a, (rgAt v.rs q).l, v.id⟩] := by
  rw [List.take_add_one, List.getElem?_eq_getElem (by rw [vT_len]; exact h), Option.toList_some, rgAt_get h]
  simp [vT]
/-- Does the table of id lead to v? -/
def nearB (ln : Nat) (ls : List (Int × Int)) (id : Int) (v : Vn) : Bool := (v.id == id) || jnB ln ls v.id id
/-- The routes, as they are gathered. -/
def rawT (ln : Nat) (ls : List (Int × Int)) (id : Int) (vs : List Vn) : List Rg := vs.flatMap fun v => if nearB ln ls id v = true then vT v else []
theorem rawT_take {ln : Nat} {ls : List (Int × Int)} {id : Int} {vs : List Vn} {k : Nat} (h : k < vs.length) : rawT ln ls id (vs.take (k + 1)) = rawT ln ls id (vs.take k) ++ (if nearB ln ls id (vnAt vs k) = true then vT (vnAt vs k) else []) := by
  unfold rawT
  rw [List.take_add_one, List.getElem?_eq_getElem h, vnAt_get h, Option.toList_some, List.flatMap_append]
  simp only [List.flatMap_cons, List.flatMap_nil, List.append_nil]
theorem rawT_len {ln : Nat} {ls : List (Int × Int)} {id : Int} : ∀ {vs : List Vn}, (∀ v ∈ vs, v.rs.length ≤ 64) → (rawT ln ls id vs).length ≤ vs.length * 64
  | [], _ => by simp [rawT]
  | v :: vs, h => by
    have h1 := rawT_len (ln := ln) (ls := ls) (id := id) (vs := vs) (fun u hu => h u (by simp [hu]))
    have h2 := h v (by simp)
    unfold rawT at h1 ⊢
    rw [List.flatMap_cons, List.length_append, List.length_cons]
    have h3 : (if nearB ln ls id v = true then vT v else []).length ≤ 64 := by
      split
      · rw [vT_len]; exact h2
      · simp
    omega
/-- One list is the other, sorted. -/
def SortOf (L L' : List Rg) : Prop := L'.Perm L ∧ L'.Pairwise fun r s => r.a ≤ s.a
/-- What chkN = 0 says. -/
theorem chkN_zero {n : Nat} {vs : List Vn} {ln : Nat} {ls : List (Int × Int)} (h : chkN n vs ln ls = 0) : n ≤ 6 ∧ ln ≤ 12 ∧ vpcsB n vs = true ∧ linksB n vs ln ls = true ∧ apB ls n vs = true := by
  unfold chkN at h
  split at h
  · omega
  · rename_i hm
    simp only [Bool.or_eq_true, decide_eq_true_eq] at hm
    split at h
    · rename_i hw
      simp only [Bool.and_eq_true] at hw
      exact ⟨by omega, by omega, hw.1.1, hw.1.2, hw.2⟩
    · omega
theorem grpE_zero {n : Nat} {vs : List Vn} {ln : Nat} {ls : List (Int × Int)} {id : Int} (h : grpE n vs ln ls id = 0) : chkN n vs ln ls = 0 ∧ ¬ vplace n vs id < 0 := by
  unfold grpE at h
  split at h
  · rename_i hz
    split at h
    · omega
    · exact ⟨hz, by assumption⟩
  · rename_i hz
    exact absurd h hz
end Go.Proofs.YtlalgkjollgcbaaGreat
/- A table's routes: mathematics. -/
namespace Go.Proofs.YtlalgkjollgcbaaGreat
open Go.RowKit Go.Shelf

theorem hd_step_same (ms : List (Int × Int)) : ∀ (hd : Int → Int) (x y : Int), hd x = hd y → (ms.foldl (fun hd l x => if hd x = hd l.1 then hd l.2 else hd x) hd) x = (ms.foldl (fun hd l x => if hd x = hd l.1 then hd l.2 else hd x) hd) y := by
  induction ms with
  | nil => intro hd x y h; exact h
  | cons m ms ih =>
    intro hd x y h
    rw [List.foldl_cons]
    refine ih _ x y ?_
    simp only [h]
theorem hd_linked {ls : List (Int × Int)} {a b : Int} (h : (a, b) ∈ ls) : hdOf ls a = hdOf ls b := by
  obtain ⟨p, q, rfl⟩ := List.append_of_mem h
  unfold hdOf
  rw [List.foldl_append, List.foldl_cons]
  refine hd_step_same q _ a b ?_
  simp only [if_true]
  split <;> rfl
theorem jn_hd {ln : Nat} {ls : List (Int × Int)} {a b : Int} (hl : ls.length = ln) (h : jnB ln ls a b = true) : hdOf ls a = hdOf ls b := by
  obtain ⟨i, hi, h0, h1⟩ := eqLk_any.1 h
  have hm : (min a b, max a b) ∈ ls := by
    rw [← h0, ← h1, at_get (by omega)]
    exact List.getElem_mem _
  have := hd_linked hm
  by_cases e : a ≤ b
  · rw [show min a b = a by omega, show max a b = b by omega] at this
    exact this
  · rw [show min a b = b by omega, show max a b = a by omega] at this
    exact this.symm
theorem vpc_zero {n : Nat} {vs : List Vn} (h : vpcsB n vs = true) : ∀ i, i < n → chkV (vnAt vs i).id (vnAt vs i).rn (vnAt vs i).rs (vnAt vs i).sn (vnAt vs i).ss = 0 := fun i hi => by
  unfold vpcsB at h
  rw [Bool.and_eq_true] at h
  have hb : vbad (vnAt vs i) = false := by
    cases e : vbad (vnAt vs i)
    · rfl
    · rw [any_yes (f := fun i => vbad (vnAt vs i)) hi e] at h
      exact absurd h.2 (by simp)
  unfold vbad at hb
  simpa using hb
theorem chkV_parts {id : Int} {rn : Nat} {rs : List Rg} {sn : Nat} {ss : List Sb} (h : chkV id rn rs sn ss = 0) : vmanyB rn sn ss = false ∧ wth id 1 65536 = true ∧ rgsB rn rs = true ∧ sbsB rn rs sn ss = true := by
  unfold chkV at h
  split at h
  · omega
  · rename_i hm
    split at h
    · rename_i hw
      simp only [Bool.and_eq_true] at hw
      exact ⟨by simpa using hm, hw.1.1, hw.1.2, hw.2⟩
    · omega
theorem rgs_at {rn : Nat} {rs : List Rg} (h : rgsB rn rs = true) {i : Nat} (hi : i < rn) : rgB (rgAt rs i) = true ∧ ∀ j, j < i → mts (rgAt rs j).a (rgAt rs j).l (rgAt rs i).a (rgAt rs i).l = false := by
  unfold rgsB at h
  rw [Bool.and_eq_true, List.all_eq_true] at h
  have h1 := h.1 i (by simpa using hi)
  unfold rgsAt at h1
  rw [Bool.and_eq_true] at h1
  refine ⟨h1.1, fun j hj => ?_⟩
  cases e : mts (rgAt rs j).a (rgAt rs j).l (rgAt rs i).a (rgAt rs i).l
  · rfl
  · rw [any_yes (f := rmB rs (rgAt rs i).a (rgAt rs i).l) hj e] at h1
    exact absurd h1.2 (by simp)
theorem rg_rt {r : Rg} (h : rgB r = true) : rt r.a r.l = true := by
  unfold rgB at h
  rw [Bool.and_eq_true] at h
  exact h.1
theorem not_both {a l c m y : Int} (h : mts a l c m = false) : ¬ (hld a l y = true ∧ hld c m y = true) := by
  rintro ⟨h1, h2⟩
  rw [hld_nums] at h1 h2
  rw [mts_of h1.1 h2.1 (by omega) (by omega)] at h
  cases h
theorem ap_at {ls : List (Int × Int)} {n : Nat} {vs : List Vn} (h : apB ls n vs = true) {i j : Nat} (hi : i < n) (hj : j < i) : clsh (hdOf ls) vs i j = false := by
  unfold apB at h
  rw [List.all_eq_true] at h
  have h1 := h i (by simpa using hi)
  unfold apAt at h1
  rw [List.all_eq_true] at h1
  have h2 := h1 j (by simpa using hj)
  simpa using h2
theorem clsh_mts {hd : Int → Int} {vs : List Vn} {i j : Nat} (h : clsh hd vs i j = false) (he : hd (vnAt vs i).id = hd (vnAt vs j).id) {p q : Nat} (hp : p < (vnAt vs i).rn) (hq : q < (vnAt vs j).rn) :
    mts (rgAt (vnAt vs i).rs p).a (rgAt (vnAt vs i).rs p).l (rgAt (vnAt vs j).rs q).a (rgAt (vnAt vs j).rs q).l = false := by
  unfold clsh at h
  rw [he] at h
  simp only [beq_self_eq_true, Bool.true_and] at h
  cases e : mts (rgAt (vnAt vs i).rs p).a (rgAt (vnAt vs i).rs p).l (rgAt (vnAt vs j).rs q).a (rgAt (vnAt vs j).rs q).l
  · rfl
  · unfold meetB at h
    rw [any_yes (f := fun i' => anyAt (vnAt vs j).rn fun j' => mts (rgAt (vnAt vs i).rs i').a (rgAt (vnAt vs i).rs i').l (rgAt (vnAt vs j).rs j').a (rgAt (vnAt vs j).rs j').l) hp (any_yes (f := fun j' => mts (rgAt (vnAt vs i).rs p).a (rgAt (vnAt vs i).rs p).l (rgAt (vnAt vs j).rs j').a (rgAt (vnAt vs j).rs j').l) hq e)] at h
    cases h

/-- A right net. -/
structure RNet (n : Nat) (vs : List Vn) (ln : Nat) (ls : List (Int × Int)) : Prop where
  vl : vs.length = n
  ll : ls.length = ln
  rl : ∀ i, i < n → (vnAt vs i).rs.length = (vnAt vs i).rn
  chk : chkN n vs ln ls = 0
theorem RNet.near_hd {n : Nat} {vs : List Vn} {ln : Nat} {ls : List (Int × Int)} (h : RNet n vs ln ls) {id : Int} {v : Vn} (hv : nearB ln ls id v = true) : hdOf ls v.id = hdOf ls id := by
  unfold nearB at hv
  simp only [Bool.or_eq_true, beq_iff_eq] at hv
  rcases hv with hv | hv
  · rw [hv]
  · exact jn_hd h.ll hv
theorem mem_vT {v : Vn} {r : Rg} (h : r ∈ vT v) : ∃ k, k < v.rs.length ∧ r = ⟨(rgAt v.rs k).a, (rgAt v.rs k).l, v.id⟩ := by
  unfold vT at h
  obtain ⟨u, hu, rfl⟩ := List.mem_map.1 h
  obtain ⟨k, hk, rfl⟩ := List.getElem_of_mem hu
  exact ⟨k, hk, by rw [rgAt_get hk]⟩
/-- No address is held by two of a table's routes. -/
theorem RNet.apart {n : Nat} {vs : List Vn} {ln : Nat} {ls : List (Int × Int)} (h : RNet n vs ln ls) (id y : Int) : (rawT ln ls id vs).Pairwise fun r s => ¬ (hld r.a r.l y = true ∧ hld s.a s.l y = true) := by
  obtain ⟨-, -, hv, -, ha⟩ := chkN_zero h.chk
  unfold rawT
  rw [List.pairwise_flatMap]
  constructor
  · intro v hmem
    obtain ⟨i, hi, rfl⟩ := List.getElem_of_mem hmem
    split
    · rw [← vnAt_get hi]
      unfold vT
      rw [List.pairwise_map, List.pairwise_iff_getElem]
      intro p q hp hq hpq
      have hin : i < n := by rw [← h.vl]; exact hi
      have hr := (chkV_parts (vpc_zero hv i hin)).2.2.1
      have h1 := (rgs_at hr (i := q) (by rw [← h.rl i hin]; exact hq)).2 p hpq
      rw [rgAt_get hp, rgAt_get hq] at h1
      exact not_both h1
    · exact List.Pairwise.nil
  · rw [List.pairwise_iff_getElem]
    intro i j hi hj hij r hr s hs
    rw [← vnAt_get hi] at hr
    rw [← vnAt_get hj] at hs
    split at hr
    · rename_i hni
      split at hs
      · rename_i hnj
        obtain ⟨p, hp, rfl⟩ := mem_vT hr
        obtain ⟨q, hq, rfl⟩ := mem_vT hs
        have hin : i < n := by rw [← h.vl]; exact hi
        have hjn : j < n := by rw [← h.vl]; exact hj
        have h1 := clsh_mts (ap_at ha hjn hij) (by rw [h.near_hd hni, h.near_hd hnj]) (p := q) (q := p) (by rw [← h.rl j hjn]; exact hq) (by rw [← h.rl i hin]; exact hp)
        intro hb
        exact not_both h1 ⟨hb.2, hb.1⟩
      · cases hs
    · cases hr
theorem filter_one {α : Type} {f : α → Bool} : ∀ {l : List α}, l.Pairwise (fun r s => ¬ (f r = true ∧ f s = true)) → (l.filter f).length ≤ 1
  | [], _ => by simp
  | x :: l, h => by
    rw [List.pairwise_cons] at h
    by_cases hx : f x = true
    · have : l.filter f = [] := by
        rw [List.filter_eq_nil_iff]
        intro s hs hf
        exact h.1 s hs ⟨hx, hf⟩
      rw [List.filter_cons_of_pos hx, this]
      simp
    · rw [List.filter_cons_of_neg hx]
      exact filter_one h.2
/-- How many of the first k hold it. -/
def cntH (L : List Rg) (y : Int) (k : Nat) : Nat := ((L.take k).filter fun r => hld r.a r.l y).length
theorem cntH_step {L : List Rg} {y : Int} {k : Nat} (h : k < L.length) : cntH L y (k + 1) = cntH L y k + (if hld (rgAt L k).a (rgAt L k).l y = true then 1 else 0) := by
  unfold cntH
  rw [List.take_add_one, List.getElem?_eq_getElem h, Option.toList_some, List.filter_append, List.length_append, rgAt_get h]
  split
  · rename_i hh
    simp [hh]
  · rename_i hh
    simp [hh]
theorem cntH_le (L : List Rg) (y : Int) (k : Nat) : cntH L y k ≤ L.length := by
  unfold cntH
  have h1 := List.length_filter_le (fun r => hld r.a r.l y) (L.take k)
  rw [List.length_take] at h1
  omega
theorem bst_holds {L : List Rg} {y : Int} : ∀ k, k ≤ L.length → 0 ≤ bst L y k → hld (rgAt L (bst L y k).toNat).a (rgAt L (bst L y k).toNat).l y = true
  | 0, _, h => by simp [bst] at h
  | k + 1, hk, h => by
    simp only [bst] at h ⊢
    split
    · rename_i hc
      simp only [Bool.and_eq_true] at hc
      rw [Int.toNat_natCast]
      exact hc.1
    · rename_i hc
      rw [if_neg hc] at h
      exact bst_holds k (by omega) h
theorem bst_none {L : List Rg} {y : Int} : ∀ k, k ≤ L.length → bst L y k < 0 → ∀ j, j < k → hld (rgAt L j).a (rgAt L j).l y = false
  | 0, _, _, j, hj => by omega
  | k + 1, hk, h, j, hj => by
    simp only [bst] at h
    split at h
    · omega
    · rename_i hc
      have ih := bst_none k (by omega) h
      by_cases hj2 : j < k
      · exact ih j hj2
      · obtain rfl : j = k := by omega
        cases e : hld (rgAt L j).a (rgAt L j).l y
        · rfl
        · exact absurd (by simp [e, h]) hc
theorem cnt_zero {L : List Rg} {y : Int} : ∀ k, k ≤ L.length → (∀ j, j < k → hld (rgAt L j).a (rgAt L j).l y = false) → cntH L y k = 0
  | 0, _, _ => by simp [cntH]
  | k + 1, hk, h => by
    rw [cntH_step (by omega), cnt_zero k (by omega) (fun j hj => h j (by omega)), h k (by omega)]
    rfl
theorem cnt_pos {L : List Rg} {y : Int} {j : Nat} : ∀ k, k ≤ L.length → j < k → hld (rgAt L j).a (rgAt L j).l y = true → 0 < cntH L y k
  | 0, _, hj, _ => by omega
  | k + 1, hk, hj, h => by
    rw [cntH_step (by omega)]
    by_cases hj2 : j < k
    · have := cnt_pos k (by omega) hj2 h
      omega
    · obtain rfl : j = k := by omega
      rw [if_pos h]
      omega
/-- What the law asks of a table. -/
theorem RNet.table {n : Nat} {vs : List Vn} {ln : Nat} {ls : List (Int × Int)} (h : RNet n vs ln ls) (id y : Int) {L : List Rg} (hS : SortOf (rawT ln ls id vs) L) (hy : 0 ≤ y ∧ y ≤ 65535) :
    L.length ≤ 64 ∧ findE L.length L y = 0 ∧ cntH L y L.length ≤ 1 ∧ (decide (0 ≤ bst L y L.length) = (cntH L y L.length == 1)) ∧
      (0 ≤ bst L y L.length → ∃ i, i < n ∧ (rgAt L (bst L y L.length).toNat).p = (vnAt vs i).id ∧ ∃ k, k < (vnAt vs i).rn ∧ hld (rgAt (vnAt vs i).rs k).a (rgAt (vnAt vs i).rs k).l y = true) := by
  obtain ⟨hn6, -, hv, -, -⟩ := chkN_zero h.chk
  have hmem : ∀ r ∈ L, ∃ i, i < n ∧ ∃ k, k < (vnAt vs i).rn ∧ r = ⟨(rgAt (vnAt vs i).rs k).a, (rgAt (vnAt vs i).rs k).l, (vnAt vs i).id⟩ := fun r hr => by
    have hr2 := hS.1.mem_iff.1 hr
    unfold rawT at hr2
    obtain ⟨v, hvm, hrv⟩ := List.mem_flatMap.1 hr2
    obtain ⟨i, hi, rfl⟩ := List.getElem_of_mem hvm
    rw [← vnAt_get hi] at hrv
    split at hrv
    · obtain ⟨k, hk, rfl⟩ := mem_vT hrv
      have hin : i < n := by rw [← h.vl]; exact hi
      exact ⟨i, hin, k, by rw [← h.rl i hin]; exact hk, rfl⟩
    · cases hrv
  have hlen : L.length ≤ 64 := by
    rw [hS.1.length_eq]
    have hfl : ∀ (us : List Vn), (∀ u ∈ us, u.rs.length ≤ 4) → (rawT ln ls id us).length ≤ us.length * 4 := fun us => by
      induction us with
      | nil => intro _; simp [rawT]
      | cons u us ih =>
        intro hu
        have h1 := ih (fun w hw => hu w (by simp [hw]))
        have h2 := hu u (by simp)
        unfold rawT at h1 ⊢
        rw [List.flatMap_cons, List.length_append, List.length_cons]
        have h3 : (if nearB ln ls id u = true then vT u else []).length ≤ 4 := by
          split
          · rw [vT_len]; exact h2
          · simp
        omega
    have h1 := hfl vs (fun u hu => by
      obtain ⟨i, hi, rfl⟩ := List.getElem_of_mem hu
      have hin : i < n := by rw [← h.vl]; exact hi
      rw [← vnAt_get hi, h.rl i hin]
      exact (few (chkV_parts (vpc_zero hv i hin)).1).1)
    rw [h.vl] at h1
    omega
  have hrt : ∀ j, j < L.length → rt (rgAt L j).a (rgAt L j).l = true := fun j hj => by
    obtain ⟨i, hi, k, hk, e⟩ := hmem (rgAt L j) (by rw [rgAt_get hj]; exact List.getElem_mem hj)
    rw [e]
    have h1 := rg_rt (rgs_at (chkV_parts (vpc_zero hv i hi)).2.2.1 hk).1
    exact h1
  have hE : findE L.length L y = 0 := by
    unfold findE
    rw [if_neg (by omega), any_no (fun j hj => by rw [hrt j hj]; rfl), if_neg (by simp), if_neg (by omega)]
  have hc : cntH L y L.length ≤ 1 := by
    unfold cntH
    rw [List.take_length, (hS.1.filter _).length_eq]
    exact filter_one (f := fun r : Rg => hld r.a r.l y) (h.apart id y)
  have hb := bst_lt L y L.length
  refine ⟨hlen, hE, hc, ?_, ?_⟩
  · by_cases hp : 0 ≤ bst L y L.length
    · have h1 := bst_holds (L := L) (y := y) L.length (Nat.le_refl _) hp
      have hj : (bst L y L.length).toNat < L.length := by omega
      have h2 := cnt_pos (L := L) (y := y) (j := (bst L y L.length).toNat) L.length (Nat.le_refl _) hj h1
      have h3 : cntH L y L.length = 1 := Nat.le_antisymm hc h2
      rw [h3]
      simpa using hp
    · have h1 := cnt_zero (L := L) (y := y) L.length (Nat.le_refl _) (bst_none (L := L) (y := y) L.length (Nat.le_refl _) (by omega))
      rw [h1]
      simpa using hp
  · intro hp
    have h1 := bst_holds (L := L) (y := y) L.length (Nat.le_refl _) hp
    have hj : (bst L y L.length).toNat < L.length := by omega
    obtain ⟨i, hi, k, hk, e⟩ := hmem (rgAt L (bst L y L.length).toNat) (by rw [rgAt_get hj]; exact List.getElem_mem hj)
    rw [e] at h1 ⊢
    exact ⟨i, hi, rfl, k, hk, h1⟩
/-- Ids rise: so no two are the same. -/
theorem rise_lt {vs : List Vn} (h : riseVB vs = true) : ∀ (i j : Nat), i < j → j < vs.length → (vnAt vs i).id < (vnAt vs j).id
  | i, 0, hij, _ => by omega
  | i, j + 1, hij, hj => by
    have h1 : riseVAt vs (j + 1) = true := by
      unfold riseVB at h
      rw [List.all_eq_true] at h
      exact h (j + 1) (by simpa using hj)
    unfold riseVAt at h1
    simp only [Nat.add_sub_cancel, Bool.or_eq_true, decide_eq_true_eq, beq_iff_eq] at h1
    have h2 : (vnAt vs j).id < (vnAt vs (j + 1)).id := by
      rcases h1 with h1 | h1
      · omega
      · exact h1
    by_cases e : i < j
    · have := rise_lt h i j e (by omega)
      omega
    · obtain rfl : i = j := by omega
      exact h2
theorem vplace_at {n : Nat} {vs : List Vn} (hl : vs.length = n) (h : riseVB vs = true) {i : Nat} (hi : i < n) : vplace n vs (vnAt vs i).id = i :=
  vplace_yes hi (by simp) (fun j hj => by
    have := rise_lt h j i hj (by omega)
    simp
    omega)
end Go.Proofs.YtlalgkjollgcbaaGreat
/- VpcAt of the reference. -/
namespace Go.Proofs.YtlalgkjollgcbaaGreat
open Go.RowKit Go.Shelf

set_option maxRecDepth 100000 in
set_option maxHeartbeats 1600000 in
theorem vpcAt_any (x : Option Addr) (n c : Nat) (vs : List Vn) (lx : Option Addr) (ln lc : Nat) (id : Int) (w : World) (hp : VS w x n vs) (hn : n ≤ 1048576) :
    Calls Tryz.prog 10 #[.agg #[.slice x n c, .slice lx ln lc], .int .i64 id] w fun e w' => e = .returned (.int .i64 (vplace n vs id)) ∧ Below w.heap.size w w' := by
  go_enter Tryz.func10, Tryz.ntmps10
  go_upto_region 1 with fail
  obtain ⟨w2, hw2⟩ : ∃ w2, w2 = w.alloc (netO x n c lx ln lc) := ⟨_, rfl⟩
  rw [← hw2]
  have h02 : Below w.heap.size w w2 := by rw [hw2]; exact bl1 w _
  have hbox : w2.heap[w.heap.size]? = some (netO x n c lx ln lc) := by rw [hw2]; exact heap_new _ rfl
  clear hw2
  obtain ⟨hcl, -⟩ := box_cells hbox
  have q0 : w2.cell? ⟨w.heap.size, 0, none⟩ = some (.slice x n c) := hcl 0
  clear hcl hbox
  have hp2 := hp.later h02
  generalize hbk : w.heap.size = bk at *
  go_wp2
  go_loopw [5] (fun i wr => ∃ k : Nat, k ≤ n ∧ i = .int .i64 k ∧ wr = w2 ∧ (∀ j, j < k → ((vnAt vs j).id == id) = false)) (fun i _ => n - (intOf i).toNat)
  case atStart => exact ⟨0, by omega, rfl, rfl, fun j hj => by omega⟩
  case round =>
    obtain ⟨k, hk, rfl, rfl, hno⟩ := hrel
    have hno' : Hid (∀ j, j < k → ((vnAt vs j).id == id) = false) := hno
    clear hno
    by_cases hlt : k < n
    · have hlt' : Hid (k < n) := hlt
      obtain ⟨b, o, rfl, c0, c1, c2⟩ := hp2.cells k hlt
      cases he : ((vnAt vs k).id == id)
      · go_wp2
        go_roundw
        case rel => exact ⟨k + 1, hlt'.out, by go_num, by first | rfl | trivial, fun j hj => by
          by_cases hj2 : j < k
          · exact hno'.out j hj2
          · obtain rfl : j = k := by omega
            exact he⟩
        case measure => simp [intOf]; have := hlt'.out; omega
      · have hv : Hid (vplace n vs id = k) := vplace_yes hlt he hno'.out
        go_wp2
        go_ret
        exact ⟨ret_int hv.out.symm, by rw [hbk]; exact h02⟩
    · obtain rfl : k = n := by omega
      have hv : Hid (vplace k vs id = -1) := vplace_no hno'.out
      go_wp2
      go_ret
      exact ⟨ret_int hv.out.symm, by rw [hbk]; exact h02⟩
theorem vpcAt_is (x : Option Addr) (n c : Nat) (vs : List Vn) (lx : Option Addr) (ln lc : Nat) (id t : Int) (h : vplace n vs id = t) (w : World) (hp : VS w x n vs) (hn : n ≤ 1048576) :
    Calls Tryz.prog 10 #[.agg #[.slice x n c, .slice lx ln lc], .int .i64 id] w fun e w' => e = .returned (.int .i64 t) ∧ Below w.heap.size w w' := by
  subst h
  exact vpcAt_any x n c vs lx ln lc id w hp hn
end Go.Proofs.YtlalgkjollgcbaaGreat
/- Groups: two are of one group if a way of links leads from the one to the other; what the reference gathers, turn by turn. -/
namespace Go.Proofs.YtlalgkjollgcbaaGreat
open Go.RowKit Go.Shelf Go.Maps

/-- A way of links leads from a to that one. -/
def Con (ls : List (Int × Int)) (a y : Int) : Prop := ∀ P : Int → Prop, P a → (∀ b c, P b → (b, c) ∈ ls → P c) → (∀ b c, P b → (c, b) ∈ ls → P c) → P y
theorem Con.here {ls : List (Int × Int)} {a : Int} : Con ls a a := fun _ p _ _ => p
theorem Con.out {ls : List (Int × Int)} {a b c : Int} (h : Con ls a b) (m : (b, c) ∈ ls) : Con ls a c := fun P p o k => o _ _ (h P p o k) m
theorem Con.back {ls : List (Int × Int)} {a b c : Int} (h : Con ls a b) (m : (c, b) ∈ ls) : Con ls a c := fun P p o k => k _ _ (h P p o k) m
theorem Con.trans {ls : List (Int × Int)} {a b c : Int} (h : Con ls a b) (k : Con ls b c) : Con ls a c :=
  k (fun y => Con ls a y) h (fun _ _ ih m => ih.out m) (fun _ _ ih m => ih.back m)
theorem Con.symm {ls : List (Int × Int)} {a b : Int} (h : Con ls a b) : Con ls b a :=
  h (fun y => Con ls y a) Con.here (fun _ _ ih m => (Con.here.back m).trans ih) (fun _ _ ih m => (Con.here.out m).trans ih)
theorem Con.more {ls ms : List (Int × Int)} {a b : Int} (h : Con ls a b) (hs : ∀ p ∈ ls, p ∈ ms) : Con ms a b :=
  h (fun y => Con ms a y) Con.here (fun _ _ ih m => ih.out (hs _ m)) (fun _ _ ih m => ih.back (hs _ m))
theorem hd_link (ls : List (Int × Int)) : ∀ p ∈ ls, hdOf ls p.1 = hdOf ls p.2 := by
  suffices h : ∀ n, ∀ ls : List (Int × Int), ls.length = n → ∀ p ∈ ls, hdOf ls p.1 = hdOf ls p.2 from h _ ls rfl
  intro n
  induction n with
  | zero =>
    intro ls hl p hp
    rw [List.length_eq_zero_iff.1 hl] at hp
    cases hp
  | succ n ih =>
    intro ls hl p hp
    have hne : ls ≠ [] := by intro e; rw [e] at hl; cases hl
    rw [← List.dropLast_concat_getLast hne] at hp ⊢
    rw [hdOf_snoc, hdOf_snoc]
    rcases List.mem_append.1 hp with hp | hp
    · rw [ih _ (by rw [List.length_dropLast, hl]; rfl) p hp]
    · rw [List.mem_singleton.1 hp, if_pos rfl]
      split <;> rfl
theorem hd_con (ls : List (Int × Int)) : ∀ a b, hdOf ls a = hdOf ls b → Con ls a b := by
  suffices h : ∀ n, ∀ ls : List (Int × Int), ls.length = n → ∀ a b, hdOf ls a = hdOf ls b → Con ls a b from h _ ls rfl
  intro n
  induction n with
  | zero =>
    intro ls hl a b h
    rw [List.length_eq_zero_iff.1 hl] at h ⊢
    have e : a = b := h
    rw [e]
    exact .here
  | succ n ih =>
    intro ls hl a b h
    have hne : ls ≠ [] := by intro e; rw [e] at hl; cases hl
    rw [← List.dropLast_concat_getLast hne] at h ⊢
    rw [hdOf_snoc, hdOf_snoc] at h
    have ih' := ih ls.dropLast (by rw [List.length_dropLast, hl]; rfl)
    generalize ls.dropLast = ms at *
    generalize ls.getLast hne = l at *
    have up : ∀ {x y}, Con ms x y → Con (ms ++ [l]) x y := fun c => c.more fun p hp => List.mem_append.2 (.inl hp)
    have hl : (l.1, l.2) ∈ ms ++ [l] := by simp
    split at h
    · rename_i ha
      split at h
      · rename_i hb
        exact up (ih' a b (ha.trans hb.symm))
      · exact ((up (ih' a l.1 ha)).out hl).trans (up (ih' l.2 b h))
    · split at h
      · rename_i hb
        exact ((up (ih' a l.2 h)).back hl).trans (up (ih' l.1 b hb.symm))
      · exact up (ih' a b h)
theorem con_hd {ls : List (Int × Int)} {a b : Int} (h : Con ls a b) : hdOf ls a = hdOf ls b :=
  h (fun y => hdOf ls a = hdOf ls y) rfl (fun b c ih m => ih.trans (hd_link ls (b, c) m)) (fun b c ih m => ih.trans (hd_link ls (c, b) m).symm)

/-- Does a link join the two? -/
def lkB (ls : List (Int × Int)) (a b : Int) : Bool := decide ((min a b, max a b) ∈ ls)
theorem lk_hd {ls : List (Int × Int)} {a b : Int} (h : lkB ls a b = true) : hdOf ls a = hdOf ls b := by
  have := hd_link ls _ (of_decide_eq_true h)
  rcases Int.le_total a b with e | e
  · rwa [Int.min_eq_left e, Int.max_eq_right e] at this
  · rw [Int.min_eq_right e, Int.max_eq_left e] at this
    exact this.symm

/-- The k-th of these marks. -/
def bAt (bs : List Bool) (k : Nat) : Bool := bs.getD k false
theorem bAt_set {bs : List Bool} {k : Nat} (h : k < bs.length) (b : Bool) (i : Nat) : bAt (bs.set k b) i = if i = k then b else bAt bs i := by
  unfold bAt
  simp only [List.getD_eq_getElem?_getD, List.getElem?_set]
  by_cases e : k = i
  · subst e
    rw [if_pos rfl, if_pos h, if_pos rfl]
    rfl
  · rw [if_neg e, if_neg fun x => e x.symm]
/-- How many are marked. -/
def marks (bs : List Bool) : Nat := bs.countP id
theorem marks_le (bs : List Bool) : marks bs ≤ bs.length := List.countP_le_length
theorem marks_up : ∀ {bs0 bs : List Bool}, bs0.length = bs.length → (∀ k, bAt bs0 k = true → bAt bs k = true) → marks bs0 ≤ marks bs ∧ (marks bs0 = marks bs → bs0 = bs)
  | [], [], _, _ => ⟨Nat.le_refl _, fun _ => rfl⟩
  | [], b :: bs, hl, _ => by cases hl
  | a :: bs0, [], hl, _ => by cases hl
  | a :: bs0, b :: bs, hl, h => by
    have ih := marks_up (bs0 := bs0) (bs := bs) (by simpa using hl) fun k hk => by
      have := h (k + 1)
      simp only [bAt, List.getD_cons_succ] at this
      exact this hk
    have h0 : a = true → b = true := h 0
    unfold marks at ih ⊢
    rw [List.countP_cons, List.countP_cons]
    cases a <;> cases b <;> simp at h0 ⊢
    · exact ⟨ih.1, fun e => ih.2 e⟩
    · constructor
      · omega
      · omega
    · exact ⟨ih.1, fun e => ih.2 e⟩

/-- What is marked is of one group with id. -/
def Snd (ls : List (Int × Int)) (n : Nat) (ids : Nat → Int) (id : Int) (bs : List Bool) : Prop := bs.length = n ∧ ∀ k, k < n → bAt bs k = true → hdOf ls (ids k) = hdOf ls id
/-- Whatever is linked to a marked one is marked. -/
def Shut (ls : List (Int × Int)) (n : Nat) (ids : Nat → Int) (bs : List Bool) : Prop := ∀ i k, i < n → k < n → bAt bs i = true → lkB ls (ids i) (ids k) = true → bAt bs k = true
/-- The marks as they stand ahead of a turn, and as they stand when the first i have had their turn, and the i-th for the first k. -/
structure Turn (ls : List (Int × Int)) (n : Nat) (ids : Nat → Int) (bs0 bs : List Bool) (i k : Nat) : Prop where
  up : ∀ j, bAt bs0 j = true → bAt bs j = true
  rows : ∀ j m, j < i → m < n → bAt bs0 j = true → lkB ls (ids j) (ids m) = true → bAt bs m = true
  row : ∀ m, m < k → bAt bs0 i = true → lkB ls (ids i) (ids m) = true → bAt bs m = true
  still : Shut ls n ids bs0 → bs = bs0
theorem Turn.zero {ls : List (Int × Int)} {n : Nat} {ids : Nat → Int} (bs0 : List Bool) : Turn ls n ids bs0 bs0 0 0 := ⟨fun _ h => h, fun _ _ h => absurd h (Nat.not_lt_zero _), fun _ h => absurd h (Nat.not_lt_zero _), fun _ => rfl⟩
theorem Turn.next {ls : List (Int × Int)} {n : Nat} {ids : Nat → Int} {bs0 bs : List Bool} {i : Nat} (h : Turn ls n ids bs0 bs i n) : Turn ls n ids bs0 bs (i + 1) 0 := ⟨h.up, fun j m hj hm ha hl => by
  rcases Nat.lt_succ_iff_lt_or_eq.1 hj with e | e
  · exact h.rows j m e hm ha hl
  · subst e
    exact h.row m hm ha hl, fun _ h => absurd h (Nat.not_lt_zero _), h.still⟩
theorem Turn.step {ls : List (Int × Int)} {n : Nat} {ids : Nat → Int} {bs0 bs : List Bool} {i k : Nat} (h : Turn ls n ids bs0 bs i k) (hl : bs.length = n) (hi : i < n) (hk : k < n) :
    Turn ls n ids bs0 (bs.set k (bAt bs k || (bAt bs i && lkB ls (ids i) (ids k)))) i (k + 1) := by
  have hup : ∀ j, bAt bs j = true → bAt (bs.set k (bAt bs k || (bAt bs i && lkB ls (ids i) (ids k)))) j = true := fun j hj => by
    rw [bAt_set (by omega)]
    split
    · rename_i e
      subst e
      rw [hj]
      rfl
    · exact hj
  refine ⟨fun j hj => hup j (h.up j hj), fun j m hj hm ha hlk => hup m (h.rows j m hj hm ha hlk), fun m hm ha hlk => ?_, fun hs => ?_⟩
  rotate_left
  · have e := h.still hs
    subst e
    have e2 : (bAt bs k || (bAt bs i && lkB ls (ids i) (ids k))) = bAt bs k := by
      cases hb : bAt bs k
      · cases h1 : bAt bs i
        · rfl
        · cases h2 : lkB ls (ids i) (ids k)
          · rfl
          · have := hs i k hi hk h1 h2
            rw [hb] at this
            cases this
      · rfl
    rw [e2]
    unfold bAt
    rw [List.getD_eq_getElem?_getD, List.getElem?_eq_getElem (by omega)]
    exact List.set_getElem_self _
  rcases Nat.lt_succ_iff_lt_or_eq.1 hm with e | e
  · exact hup m (h.row m e ha hlk)
  · subst e
    rw [bAt_set (by omega), if_pos rfl, h.up i ha, hlk]
    simp
theorem Snd.step {ls : List (Int × Int)} {n : Nat} {ids : Nat → Int} {id : Int} {bs : List Bool} (h : Snd ls n ids id bs) {i k : Nat} (hi : i < n) (hk : k < n) : Snd ls n ids id (bs.set k (bAt bs k || (bAt bs i && lkB ls (ids i) (ids k)))) := by
  refine ⟨by rw [List.length_set]; exact h.1, fun j hj hb => ?_⟩
  rw [bAt_set (by rw [h.1]; exact hk)] at hb
  split at hb
  · rename_i e
    subst e
    rcases Bool.or_eq_true_iff.1 hb with hb | hb
    · exact h.2 j hj hb
    · obtain ⟨h1, h2⟩ := Bool.and_eq_true_iff.1 hb
      exact (lk_hd h2).symm.trans (h.2 i hi h1)
  · exact h.2 j hj hb
/-- How far the marks have come by the t-th turn. -/
def Far (ls : List (Int × Int)) (n : Nat) (ids : Nat → Int) (t : Nat) (bs : List Bool) : Prop := Shut ls n ids bs ∨ t + 1 ≤ marks bs
theorem Turn.far {ls : List (Int × Int)} {n : Nat} {ids : Nat → Int} {bs0 bs : List Bool} {t : Nat} (h : Turn ls n ids bs0 bs n 0) (ha : bs0.length = n) (hb : bs.length = n) (hf : Far ls n ids t bs0) : Far ls n ids (t + 1) bs := by
  rcases hf with hf | hf
  · rw [h.still hf]
    exact .inl hf
  · obtain ⟨h1, h2⟩ := marks_up (by rw [ha, hb]) h.up
    by_cases e : marks bs0 = marks bs
    · have e2 := h2 e
      subst e2
      exact .inl fun i k hi hk hm hl => h.rows i k hi hk hm hl
    · exact .inr (by omega)
theorem Far.shut {ls : List (Int × Int)} {n : Nat} {ids : Nat → Int} {bs : List Bool} (h : Far ls n ids n bs) (hl : bs.length = n) : Shut ls n ids bs := by
  rcases h with h | h
  · exact h
  · have := marks_le bs
    omega
/-- One mark alone. -/
def oneMark (n p : Nat) : List Bool := (List.replicate n false).set p true
theorem oneMark_at {n p : Nat} (hp : p < n) (k : Nat) : bAt (oneMark n p) k = decide (k = p) := by
  unfold oneMark
  rw [bAt_set (by rw [List.length_replicate]; exact hp)]
  by_cases e : k = p
  · rw [if_pos e, decide_eq_true e]
  · rw [if_neg e, decide_eq_false e]
    unfold bAt
    rw [List.getD_eq_getElem?_getD, List.getElem?_replicate]
    split <;> rfl
theorem oneMark_snd {ls : List (Int × Int)} {n p : Nat} {ids : Nat → Int} {id : Int} (hp : p < n) (hid : ids p = id) : Snd ls n ids id (oneMark n p) := by
  refine ⟨by unfold oneMark; rw [List.length_set, List.length_replicate], fun k _ hb => ?_⟩
  rw [oneMark_at hp] at hb
  rw [of_decide_eq_true hb, hid]
theorem oneMark_far {ls : List (Int × Int)} {n p : Nat} {ids : Nat → Int} (hp : p < n) : Far ls n ids 0 (oneMark n p) := by
  right
  unfold marks
  refine List.countP_pos_iff.2 ⟨true, ?_, rfl⟩
  unfold oneMark
  rw [List.mem_iff_getElem]
  exact ⟨p, by rw [List.length_set, List.length_replicate]; exact hp, by simp⟩
/-- When all is done, those that are of one group with id are marked, and none else. -/
theorem shut_is {ls : List (Int × Int)} {n p : Nat} {ids : Nat → Int} {id : Int} {bs : List Bool} (hS : Snd ls n ids id bs) (hC : Shut ls n ids bs) (hp : p < n) (hid : ids p = id) (hpb : bAt bs p = true)
    (hU : ∀ i k, i < n → k < n → ids i = ids k → i = k) (hL : ∀ q ∈ ls, q.1 < q.2 ∧ (∃ k, k < n ∧ ids k = q.1) ∧ ∃ k, k < n ∧ ids k = q.2) :
    ∀ k, k < n → bAt bs k = (hdOf ls (ids k) == hdOf ls id) := by
  have key : ∀ c, Con ls id c → ∃ k, k < n ∧ ids k = c ∧ bAt bs k = true := by
    intro c h
    refine h (fun c => ∃ k, k < n ∧ ids k = c ∧ bAt bs k = true) ⟨p, hp, hid, hpb⟩ (fun _ _ ih m => ?_) (fun _ _ ih m => ?_)
    · obtain ⟨k, hk, h1, h2⟩ := ih
      obtain ⟨hlt, -, k2, hk2, h3⟩ := hL _ m
      refine ⟨k2, hk2, h3, hC k k2 hk hk2 h2 ?_⟩
      simp only at h3 hlt
      unfold lkB
      rw [h1, h3, Int.min_eq_left (by omega), Int.max_eq_right (by omega)]
      exact decide_eq_true m
    · obtain ⟨k, hk, h1, h2⟩ := ih
      obtain ⟨hlt, ⟨k2, hk2, h3⟩, -⟩ := hL _ m
      refine ⟨k2, hk2, h3, hC k k2 hk hk2 h2 ?_⟩
      simp only at h3 hlt
      unfold lkB
      rw [h1, h3, Int.min_eq_right (by omega), Int.max_eq_left (by omega)]
      exact decide_eq_true m
  intro k hk
  cases hb : bAt bs k
  · symm
    rw [beq_eq_false_iff_ne]
    intro e
    obtain ⟨k2, hk2, h1, h2⟩ := key _ (hd_con ls _ _ e.symm)
    rw [hU k2 k hk2 hk h1, hb] at h2
    cases h2
  · symm
    rw [beq_iff_eq]
    exact hS.2 k hk hb
end Go.Proofs.YtlalgkjollgcbaaGreat
/- vpcMany, inRange and inner of package parcelwayref. -/
namespace Go.Proofs.YtlalgkjollgcbaaGreat
open Go.RowKit Go.Shelf

abbrev vpO (vid : Int) (rx : Option Addr) (rn rc : Nat) (sx : Option Addr) (sn sc : Nat) : Obj := .cells #[.int .i64 vid, .slice rx rn rc, .slice sx sn sc] 52
theorem vmany_sub {rn sn : Nat} {ss : List Sb} {k : Nat} (hk : k < sn) (h : smanyB (sbAt ss k) = true) : vmanyB rn sn ss = true := by
  unfold vmanyB
  rw [any_yes (f := fun i => smanyB (sbAt ss i)) hk h]
  simp
set_option maxRecDepth 100000 in
set_option maxHeartbeats 3200000 in
theorem vpcMany_any (vid : Int) (rx : Option Addr) (rn rc : Nat) (sx : Option Addr) (sn sc : Nat) (ss : List Sb) (w : World) (hr63 : rn ≤ 9223372036854775807) (hp : SS w sx sn ss) (hs : sn ≤ 9223372036854775807) :
    Calls Tryz.prog 61 #[.agg #[.int .i64 vid, .slice rx rn rc, .slice sx sn sc]] w fun e w' => e = .returned (.bool (vmanyB rn sn ss)) ∧ Below w.heap.size w w' := by
  have hbd : Hid (vmanyB rn sn ss = (decide (4 < rn) || decide (6 < sn) || anyAt sn fun i => smanyB (sbAt ss i))) := rfl
  go_enter Tryz.func61, Tryz.ntmps61
  go_upto_region 1 with fail
  obtain ⟨w2, hw2⟩ : ∃ w2, w2 = w.alloc (vpO vid rx rn rc sx sn sc) := ⟨_, rfl⟩
  rw [← hw2]
  have h02 : Below w.heap.size w w2 := by rw [hw2]; exact bl1 w _
  have hbox : w2.heap[w.heap.size]? = some (vpO vid rx rn rc sx sn sc) := by rw [hw2]; exact heap_new _ rfl
  clear hw2
  obtain ⟨hcl, -⟩ := box_cells hbox
  have q1 : w2.cell? ⟨w.heap.size, 1, none⟩ = some (.slice rx rn rc) := hcl 1
  have q2 : w2.cell? ⟨w.heap.size, 2, none⟩ = some (.slice sx sn sc) := hcl 2
  clear hcl hbox
  have hp2 := hp.later h02
  generalize hbk : w.heap.size = bk at *
  by_cases h4 : 4 < rn
  · have hd : (decide ((rn : Int) > 4)) = true := by simp; omega
    go_wp2
    go_ret
    exact ⟨ret_bool (by rw [hbd.out, decide_eq_true h4]; rfl), by rw [hbk]; exact h02⟩
  · have hd : (decide ((rn : Int) > 4)) = false := by simp; omega
    by_cases h6 : 6 < sn
    · have hd6 : (decide ((sn : Int) > 6)) = true := by simp; omega
      go_wp2
      go_ret
      exact ⟨ret_bool (by rw [hbd.out, decide_eq_true h6]; simp), by rw [hbk]; exact h02⟩
    · have hd6 : (decide ((sn : Int) > 6)) = false := by simp; omega
      go_wp2
      go_loopw [3] (fun i wr => ∃ k : Nat, k ≤ sn ∧ i = .int .i64 k ∧ wr = w2 ∧ (∀ j, j < k → smanyB (sbAt ss j) = false)) (fun i _ => sn - (intOf i).toNat)
      case atStart => exact ⟨0, by omega, rfl, rfl, fun j hj => by omega⟩
      case round =>
        obtain ⟨k, hk, rfl, rfl, hno⟩ := hrel
        have hno' : Hid (∀ j, j < k → smanyB (sbAt ss j) = false) := hno
        clear hno
        by_cases hlt : k < sn
        · have hlt' : Hid (k < sn) := hlt
          obtain ⟨b, o, hxo, -, -, -, c3⟩ := hp2.cells k hlt
          obtain ⟨-, hsn, hfs⟩ := hp2.faces k hlt
          have q2' := q2
          rw [hxo] at q2'
          have hsm : Hid (smanyB (sbAt ss k) = (decide (8 < (sbAt ss k).n) || anyAt (sbAt ss k).n fun i => decide (4 < (fcAt (sbAt ss k).fs i).n))) := rfl
          by_cases h8 : 8 < (sbAt ss k).n
          · have hd8 : (decide (((sbAt ss k).n : Int) > 8)) = true := by simp; omega
            have hr : Hid (vmanyB rn sn ss = true) := vmany_sub hlt (by rw [hsm.out, decide_eq_true h8]; rfl)
            clear q2
            go_wp2
            go_ret
            exact ⟨ret_bool hr.out.symm, by rw [hbk]; exact h02⟩
          · have hd8 : (decide (((sbAt ss k).n : Int) > 8)) = false := by simp; omega
            clear q2
            go_wp2
            obtain ⟨wo, rfl⟩ : ∃ wo, wo = wr := ⟨_, rfl⟩
            go_loopw [4] (fun i wr => ∃ q : Nat, q ≤ (sbAt ss k).n ∧ i = .int .i64 q ∧ wr = wo ∧ (∀ j, j < q → decide (4 < (fcAt (sbAt ss k).fs j).n) = false)) (fun i _ => (sbAt ss k).n - (intOf i).toNat)
            case atStart => exact ⟨0, by omega, rfl, rfl, fun j hj => by omega⟩
            case round =>
              obtain ⟨q, hq, rfl, rfl, hno2⟩ := hrel
              have hno2' : Hid (∀ j, j < q → decide (4 < (fcAt (sbAt ss k).fs j).n) = false) := hno2
              clear hno2
              by_cases hq2 : q < (sbAt ss k).n
              · have hq' : Hid (q < (sbAt ss k).n) := hq2
                obtain ⟨b2, o2, hx2, -, d1⟩ := hfs.cells q hq2
                have hfn := (hfs.addrs q hq2).2.1
                have c3' := c3
                rw [hx2] at c3'
                clear c3
                by_cases h5 : 4 < (fcAt (sbAt ss k).fs q).n
                · have hd5 : (decide (((fcAt (sbAt ss k).fs q).n : Int) > 4)) = true := by simp; omega
                  have hr : Hid (vmanyB rn sn ss = true) := vmany_sub hlt (by rw [hsm.out, any_yes (f := fun i => decide (4 < (fcAt (sbAt ss k).fs i).n)) hq2 (by simpa using h5)]; simp)
                  go_wp2
                  go_ret
                  exact ⟨ret_bool hr.out.symm, by rw [hbk]; exact h02⟩
                · have hd5 : (decide (((fcAt (sbAt ss k).fs q).n : Int) > 4)) = false := by simp; omega
                  go_wp2
                  go_roundw
                  case rel => exact ⟨q + 1, hq'.out, by go_num, by first | rfl | trivial, fun j hj => by
                    by_cases hj2 : j < q
                    · exact hno2'.out j hj2
                    · obtain rfl : j = q := by omega
                      simpa using h5⟩
                  case measure => simp [intOf]; have := hq'.out; omega
              · obtain rfl : q = (sbAt ss k).n := by omega
                go_wp2
                go_roundw
                case rel => exact ⟨k + 1, hlt'.out, by go_num, by first | rfl | trivial, fun j hj => by
                  by_cases hj2 : j < k
                  · exact hno'.out j hj2
                  · obtain rfl : j = k := by omega
                    rw [hsm.out, decide_eq_false h8, any_no hno2'.out]
                    rfl⟩
                case measure => simp [intOf]; have := hlt'.out; omega
        · obtain rfl : k = sn := by omega
          have hr : Hid (vmanyB rn k ss = false) := by show _ = _; rw [hbd.out, decide_eq_false h4, decide_eq_false h6, any_no hno'.out]; rfl
          go_wp2
          go_ret
          exact ⟨ret_bool hr.out.symm, by rw [hbk]; exact h02⟩
theorem vpcMany_is (vid : Int) (rx : Option Addr) (rn rc : Nat) (sx : Option Addr) (sn sc : Nat) (ss : List Sb) (t : Bool) (h : vmanyB rn sn ss = t) (w : World) (hr63 : rn ≤ 9223372036854775807) (hp : SS w sx sn ss) (hs : sn ≤ 9223372036854775807) :
    Calls Tryz.prog 61 #[.agg #[.int .i64 vid, .slice rx rn rc, .slice sx sn sc]] w fun e w' => e = .returned (.bool t) ∧ Below w.heap.size w w' := by
  subst h
  exact vpcMany_any vid rx rn rc sx sn sc ss w hr63 hp hs

theorem insideOf_is (a l c m : Int) (t : Bool) (h : ins a l c m = t) (w : World) : Calls Tryz.prog 97 #[.agg #[.int .i64 a, .int .i64 l], .agg #[.int .i64 c, .int .i64 m]] w fun e w' => e = .returned (.bool t) ∧ Below w.heap.size w w' := by
  subst h
  exact insideOf_any a l c m w
set_option maxRecDepth 100000 in
set_option maxHeartbeats 3200000 in
theorem inRange_any (vid c m : Int) (rx : Option Addr) (rn rc : Nat) (rs : List Rg) (sx : Option Addr) (sn sc : Nat) (w : World) (hp : RS w rx rn rs) (hn : rn ≤ 64) :
    Calls Tryz.prog 64 #[.agg #[.int .i64 vid, .slice rx rn rc, .slice sx sn sc], .agg #[.int .i64 c, .int .i64 m]] w fun e w' => e = .returned (.bool (anyAt rn (riB rs c m))) ∧ Below w.heap.size w w' := by
  go_enter Tryz.func64, Tryz.ntmps64
  go_upto_region 1 with fail
  obtain ⟨w2, hw2⟩ : ∃ w2, w2 = (w.alloc (vpO vid rx rn rc sx sn sc)).alloc (.cells #[.int .i64 c, .int .i64 m] 27) := ⟨_, rfl⟩
  rw [← hw2]
  have h02 : Below w.heap.size w w2 := by rw [hw2]; exact bl2 w _ _
  have hbox : w2.heap[w.heap.size]? = some (vpO vid rx rn rc sx sn sc) := by rw [hw2]; exact heap_old _ (heap_new _ rfl)
  have hbox2 : w2.heap[w.heap.size + 1]? = some (.cells #[.int .i64 c, .int .i64 m] 27) := by rw [hw2]; exact heap_new _ (by simp)
  clear hw2
  have hcl := (box_cells hbox).1
  have hcl2 := (box_cells hbox2).1
  have q1 : w2.cell? ⟨w.heap.size, 1, none⟩ = some (.slice rx rn rc) := hcl 1
  have p0 : w2.cell? ⟨w.heap.size + 1, 0, none⟩ = some (.int .i64 c) := hcl2 0
  have p1 : w2.cell? ⟨w.heap.size + 1, 1, none⟩ = some (.int .i64 m) := hcl2 1
  clear hcl hcl2 hbox hbox2
  have hp2 := hp.later h02
  have hsz : Hid (w.heap.size ≤ w2.heap.size) := h02.size
  generalize hbk : w.heap.size = bk at *
  go_wp2
  go_loopw [5] (fun i wr => ∃ k : Nat, k ≤ rn ∧ i = .int .i64 k ∧ Below w2.heap.size w2 wr ∧ (∀ j, j < k → riB rs c m j = false)) (fun i _ => rn - (intOf i).toNat)
  case atStart => exact ⟨0, by omega, rfl, Below.refl _ _, fun j hj => by omega⟩
  case round =>
    obtain ⟨k, hk, rfl, hB, hno⟩ := hrel
    have r1 := cell_later hB q1
    by_cases hlt : k < rn
    · have hlt' : Hid (k < rn) := hlt
      obtain ⟨b, o, hxo, c0, c1, -⟩ := (hp2.later hB).cells k hlt
      rw [hxo] at r1
      have g0 := Ws.here c0
      have g1 := Ws.here c1
      have g2 := Ws.here r1
      have g3 := Ws.here (cell_later hB p0)
      have g4 := Ws.here (cell_later hB p1)
      clear c0 c1
      cases hi : riB rs c m k
      all_goals have hi' : ins c m (rgAt rs k).a (rgAt rs k).l = _ := hi
      all_goals go_upto_region 4 with fail
      all_goals refine wp_region_ws wr.heap.size (by kernel_rfl) (by kernel_rfl) ?_
      all_goals repeat (go_big_quiet_step ((go_at_call 97; exact Calls.in_ws (Nat.le_refl _) (insideOf_is _ _ _ _ _ hi' _))))
      all_goals refine wpQuiet_nil ?_
      all_goals rintro _ ⟨u, rfl⟩
      all_goals have hu := hB.trans (u.property.mono hB.size)
      all_goals generalize u.val = wu at hu ⊢
      all_goals clear u g0 g1 g2 g3 g4 r1
      · go_wp2
        go_roundw
        case rel => exact ⟨k + 1, hlt'.out, by go_num, hu, fun j hj => by
          by_cases hj2 : j < k
          · exact hno j hj2
          · obtain rfl : j = k := by omega
            exact hi⟩
        case measure => simp [intOf]; have := hlt'.out; omega
      · go_wp2
        go_ret
        exact ⟨ret_bool (any_yes hlt'.out hi).symm, by rw [hbk]; exact h02.trans (hu.mono hsz.out)⟩
    · obtain rfl : k = rn := by omega
      go_wp2
      go_ret
      exact ⟨ret_bool (any_no hno).symm, by rw [hbk]; exact h02.trans (hB.mono hsz.out)⟩
theorem inRange_is (vid c m : Int) (rx : Option Addr) (rn rc : Nat) (rs : List Rg) (sx : Option Addr) (sn sc : Nat) (t : Bool) (h : anyAt rn (riB rs c m) = t) (w : World) (hp : RS w rx rn rs) (hn : rn ≤ 64) :
    Calls Tryz.prog 64 #[.agg #[.int .i64 vid, .slice rx rn rc, .slice sx sn sc], .agg #[.int .i64 c, .int .i64 m]] w fun e w' => e = .returned (.bool t) ∧ Below w.heap.size w w' := by
  subst h
  exact inRange_any vid c m rx rn rc rs sx sn sc w hp hn

theorem holdsIt_at (a l x : Int) (t : Bool) (h : hld a l x = t) (w : World) : Calls Tryz.prog 115 #[.agg #[.int .i64 a, .int .i64 l], .int .i64 x] w fun e w' => e = .returned (.bool t) ∧ Below w.heap.size w w' := by
  subst h
  exact holdsIt_any a l x w
theorem us_inner {a l y : Int} (hr : rt a l = true) : usB a l y = (hld a l y && (y != a) && (y != a + sp l - 1)) := by
  unfold usB hld
  rw [hr]
  generalize sp l = s
  rw [Bool.eq_iff_iff]
  simp only [Bool.and_eq_true, decide_eq_true_eq, bne_iff_ne, Bool.true_and, ne_eq]
  omega
set_option maxRecDepth 20000 in
set_option maxHeartbeats 1600000 in
theorem inner_any (id a l : Int) (x : Option Addr) (n c : Nat) (y : Int) (w : World) (hr : rt a l = true) :
    Calls Tryz.prog 98 #[.agg #[.int .i64 id, .int .i64 a, .int .i64 l, .slice x n c], .int .i64 y] w fun e w' => e = .returned (.bool (usB a l y)) ∧ Below w.heap.size w w' := by
  obtain ⟨h0, h1, h2, h3, -⟩ := rt_range hr
  have hl := fun W => last_any a l W h0 h1 h2 h3
  rw [us_inner hr]
  generalize a + sp l - 1 = z at hl ⊢
  clear h0 h1 h2 h3 hr
  have hh := fun W => holdsIt_any a l y W
  generalize hld a l y = t at hh ⊢
  cases t
  · go_enter Tryz.func98, Tryz.ntmps98
    go_wp2_with (go_at_call 115; refine (hh _).mono ?_; rintro e w1 ⟨rfl, hb1⟩)
    go_ret
    exact ⟨rfl, (bl1 w _).trans (hb1.mono (by simp))⟩
  · cases hne : (y != a)
    · go_enter Tryz.func98, Tryz.ntmps98
      go_wp2_with fail
      refine (hh _).mono ?_
      rintro e w1 ⟨rfl, hb1⟩
      have c1 : w1.cell? ⟨w.heap.size, 1, none⟩ = some (.int .i64 a) := cell_later hb1 (by simp)
      go_wp2
      go_ret
      exact ⟨rfl, (bl1 w _).trans (hb1.mono (by simp))⟩
    · go_enter Tryz.func98, Tryz.ntmps98
      go_wp2_with fail
      refine (hh _).mono ?_
      rintro e w1 ⟨rfl, hb1⟩
      have c1 : w1.cell? ⟨w.heap.size, 1, none⟩ = some (.int .i64 a) := cell_later hb1 (by simp)
      have c2 : w1.cell? ⟨w.heap.size, 2, none⟩ = some (.int .i64 l) := cell_later hb1 (by simp)
      have hB1 := (bl1 w _).trans (hb1.mono (by simp))
      have hs1 : Hid (w.heap.size ≤ w1.heap.size) := hB1.size
      clear hb1
      go_wp2_with (go_at_call 96; refine (hl _).mono ?_; rintro e w2 ⟨rfl, hb2⟩)
      go_ret
      exact ⟨ret_bool (by simp), hB1.trans (hb2.mono hs1.out)⟩
theorem inner_is (id a l : Int) (x : Option Addr) (n c : Nat) (y : Int) (t : Bool) (h : usB a l y = t) (w : World) (hr : rt a l = true) :
    Calls Tryz.prog 98 #[.agg #[.int .i64 id, .int .i64 a, .int .i64 l, .slice x n c], .int .i64 y] w fun e w' => e = .returned (.bool t) ∧ Below w.heap.size w w' := by
  subst h
  exact inner_any id a l x n c y w hr
end Go.Proofs.YtlalgkjollgcbaaGreat
/- facesFine of package parcelwayref. -/
namespace Go.Proofs.YtlalgkjollgcbaaGreat
open Go.RowKit Go.Shelf

/-- The i-th address of a face, those of the faces ahead being al. -/
def faAt (a l : Int) (al : List Int) (ns : List Int) (i : Nat) : Bool := usB a l (inAt ns i) && (i == 0 || decide (inAt ns (i - 1) < inAt ns i)) && !anyAt al.length (fun j => inAt al j == inAt ns i)
/-- The k-th face. -/
def ffHd (fs : List Fc) (k : Nat) : Bool := wth (fcAt fs k).id 1 65536 && (k == 0 || decide ((fcAt fs (k - 1)).id < (fcAt fs k).id)) && decide (0 < (fcAt fs k).n)
def ffAt (a l : Int) (fs : List Fc) (k : Nat) : Bool := ffHd fs k && (List.range (fcAt fs k).n).all (faAt a l (allNs (fs.take k)) (fcAt fs k).ns)
def ffB (a l : Int) (n : Nat) (fs : List Fc) : Bool := (List.range n).all (ffAt a l fs)
theorem ff_no {a l : Int} {n k : Nat} {fs : List Fc} (hk : k < n) (h : ffAt a l fs k = false) : ffB a l n fs = false := allR_no hk h
theorem ff_hd {a l : Int} {n k : Nat} {fs : List Fc} (hk : k < n) (h : ffHd fs k = false) : ffB a l n fs = false := ff_no hk (by unfold ffAt; rw [h]; rfl)
theorem ff_fa {a l : Int} {n k q : Nat} {fs : List Fc} (hk : k < n) (hq : q < (fcAt fs k).n) (h : faAt a l (allNs (fs.take k)) (fcAt fs k).ns q = false) : ffB a l n fs = false := ff_no hk (by unfold ffAt; rw [allR_no hq h]; simp)

theorem within_at (x lo hi : Int) (t : Bool) (h : wth x lo hi = t) (w : World) : Calls Tryz.prog 34 #[.int .i64 x, .int .i64 lo, .int .i64 hi] w fun e w' => e = .returned (.bool t) ∧ w' = w := by
  subst h
  exact within_any x lo hi w
set_option maxRecDepth 100000 in
set_option maxHeartbeats 1600000 in
theorem facesFine_any (id a l : Int) (x : Option Addr) (n c : Nat) (fs : List Fc) (w : World) (hr : rt a l = true) (hp : FcS w x n fs) (hn : n ≤ 8) (hm : ∀ i, i < n → (fcAt fs i).n ≤ 4) :
    Calls Tryz.prog 65 #[.agg #[.int .i64 id, .int .i64 a, .int .i64 l, .slice x n c]] w fun e w' => e = .returned (.bool (ffB a l n fs)) ∧ Below w.heap.size w w' := by
  have hfl : Hid (fs.length = n) := hp.len
  go_enter Tryz.func65, Tryz.ntmps65
  go_upto_region 1 with fail
  obtain ⟨w2, hw2⟩ : ∃ w2, w2 = w.alloc (.cells #[.int .i64 id, .int .i64 a, .int .i64 l, .slice x n c] 90) := ⟨_, rfl⟩
  rw [← hw2]
  have h02 : Below w.heap.size w w2 := by rw [hw2]; exact bl1 w _
  have hbox : w2.heap[w.heap.size]? = some (.cells #[.int .i64 id, .int .i64 a, .int .i64 l, .slice x n c] 90) := by rw [hw2]; exact heap_new _ rfl
  clear hw2
  have hp2 := hp.later h02
  obtain ⟨hcl, -⟩ := box_cells hbox
  have q0 : w2.cell? ⟨w.heap.size, 0, none⟩ = some (.int .i64 id) := hcl 0
  have q1 : w2.cell? ⟨w.heap.size, 1, none⟩ = some (.int .i64 a) := hcl 1
  have q2 : w2.cell? ⟨w.heap.size, 2, none⟩ = some (.int .i64 l) := hcl 2
  have q3 : w2.cell? ⟨w.heap.size, 3, none⟩ = some (.slice x n c) := hcl 3
  clear hcl hbox
  have hsz : Hid (w.heap.size ≤ w2.heap.size) := h02.size
  generalize hbk : w.heap.size = bk at *
  go_wp2
  go_loopw [3, 4] (fun u i wr => ∃ k : Nat, k ≤ n ∧ i = .int .i64 k ∧ Below w2.heap.size w2 wr ∧ OwnI wr w2.heap.size u (allNs (fs.take k)) ∧ (∀ j, j < k → ffAt a l fs j = true) ∧ (allNs (fs.take k)).length ≤ k * 4) (fun _ i _ => n - (intOf i).toNat)
  case atStart => exact ⟨0, by omega, rfl, Below.refl _ _, World.ownsRow_nil _ _ _ _, fun j hj => by omega, by simp [allNs]⟩
  case round =>
    obtain ⟨k, hk, rfl, hB, hO, hok, hL⟩ := hrel
    have r0 := cell_later hB q0
    have r1 := cell_later hB q1
    have r2 := cell_later hB q2
    have r3 := cell_later hB q3
    have hall : Below bk w wr := h02.trans (hB.mono hsz.out)
    by_cases hlt : k < n
    · have hlt' : Hid (k < n) := hlt
      have hpr := hp2.later hB
      obtain ⟨b, o, rfl, c0, c1⟩ := hpr.cells k hlt
      obtain ⟨hfc, -, hI⟩ := hpr.addrs k hlt
      have hm1 := hm k hlt
      have hst : Hid (allNs (fs.take (k + 1)) = allNs (fs.take k) ++ (fcAt fs k).ns) := allNs_take (by rw [hfl.out]; exact hlt)
      have hffd : Hid (ffHd fs k = (wth (fcAt fs k).id 1 65536 && (k == 0 || decide ((fcAt fs (k - 1)).id < (fcAt fs k).id)) && decide (0 < (fcAt fs k).n))) := rfl
      have hffa : Hid (ffAt a l fs k = (ffHd fs k && (List.range (fcAt fs k).n).all (faAt a l (allNs (fs.take k)) (fcAt fs k).ns))) := rfl
      go_upto_region 6 with fail
      obtain ⟨w3, hw3⟩ : ∃ w3, w3 = wr.alloc (.cells #[.int .i64 (fcAt fs k).id, .slice (fcAt fs k).x (fcAt fs k).n (fcAt fs k).c] 99) := ⟨_, rfl⟩
      rw [← hw3]
      have h23 : Below wr.heap.size wr w3 := by rw [hw3]; exact bl1 wr _
      have hbf : w3.heap[wr.heap.size]? = some (.cells #[.int .i64 (fcAt fs k).id, .slice (fcAt fs k).x (fcAt fs k).n (fcAt fs k).c] 99) := by rw [hw3]; exact heap_new _ rfl
      clear hw3 c0 c1
      have s0 := cell_later h23 r0
      have s1 := cell_later h23 r1
      have s2 := cell_later h23 r2
      have s3 := cell_later h23 r3
      clear r0 r1 r2 r3
      have hp3 := hpr.later h23
      have hI3 := hI.later h23
      have hO3 := hO.later h23
      have hB3 := hB.trans (h23.mono hB.size)
      have hall3 : Below bk w w3 := h02.trans (hB3.mono hsz.out)
      have hsz3 : Hid (bk ≤ w3.heap.size) := Nat.le_trans hsz.out hB3.size
      generalize wr.heap.size = bf at *
      clear hB h23 hpr hI hO hall
      clear wr
      have hfb := (box_cells hbf).1
      have t0 : w3.cell? ⟨bf, 0, none⟩ = some (.int .i64 (fcAt fs k).id) := hfb 0
      have t1 : w3.cell? ⟨bf, 1, none⟩ = some (.slice (fcAt fs k).x (fcAt fs k).n (fcAt fs k).c) := hfb 1
      clear hfb hbf
      have g1 := Ws.here t0
      have g2 := Ws.here t1
      have g3 := Ws.here s3
      go_cut [45] (fun t wc => t = .bool (!ffHd fs k) ∧ Below w3.heap.size w3 wc)
      case first =>
        cases hwt : wth (fcAt fs k).id 1 65536
        · have hv : Hid (ffHd fs k = false) := by show _ = _; rw [hffd.out, hwt]; rfl
          refine wp_region_ws w3.heap.size (by kernel_rfl) (by kernel_rfl) ?_
          repeat (go_big_quiet_step ((go_at_call 34; exact Calls.in_ws_same (within_at _ _ _ _ hwt _))))
          refine wpQuiet_nil ?_
          rintro _ ⟨u, rfl⟩
          have hu := u.property
          generalize u.val = wu at hu ⊢
          clear u g1 g2 g3
          go_wp2
          go_meet
          case rel => exact ⟨by rw [hv.out]; rfl, hu⟩
        · by_cases hk0 : k = 0
          · have hdk : decide (0 < k) = false := by simp; omega
            have hv0 : Hid (ffHd fs k = decide (0 < (fcAt fs k).n)) := by show _ = _; rw [hffd.out, hwt, hk0]; simp
            clear hk0
            by_cases hf0 : (fcAt fs k).n = 0
            · have hv : Hid (ffHd fs k = false) := by show _ = _; rw [hv0.out, decide_eq_false (by omega)]
              have hfe : (((fcAt fs k).n : Int) == 0) = true := by simp [hf0]
              clear hf0
              refine wp_region_ws w3.heap.size (by kernel_rfl) (by kernel_rfl) ?_
              repeat (go_big_quiet_step ((go_at_call 34; exact Calls.in_ws_same (within_at _ _ _ _ hwt _))))
              refine wpQuiet_nil ?_
              rintro _ ⟨u, rfl⟩
              have hu := u.property
              generalize u.val = wu at hu ⊢
              clear u g1 g2 g3
              go_wp2
              go_meet
              case rel => exact ⟨by rw [hv.out]; rfl, hu⟩
            · have hv : Hid (ffHd fs k = true) := by show _ = _; rw [hv0.out, decide_eq_true (by omega)]
              have hfe : (((fcAt fs k).n : Int) == 0) = false := by simp; omega
              refine wp_region_ws w3.heap.size (by kernel_rfl) (by kernel_rfl) ?_
              repeat (go_big_quiet_step ((go_at_call 34; exact Calls.in_ws_same (within_at _ _ _ _ hwt _))))
              refine wpQuiet_nil ?_
              rintro _ ⟨u, rfl⟩
              have hu := u.property
              generalize u.val = wu at hu ⊢
              clear u g1 g2 g3
              go_wp2
              go_meet
              case rel => exact ⟨by rw [hv.out]; rfl, hu⟩
          · obtain ⟨i, rfl⟩ : ∃ i, k = i + 1 := ⟨k - 1, by omega⟩
            obtain ⟨b4, o4, hx4, d0, -⟩ := hp3.cells i (by omega)
            simp only [Option.some.injEq, Addr.mk.injEq, and_true] at hx4
            obtain ⟨rfl, rfl⟩ := hx4
            have g4 := Ws.here d0
            rw [Nat.add_sub_cancel] at hffd
            by_cases hle : (fcAt fs i).id < (fcAt fs (i + 1)).id
            · have hge : decide ((fcAt fs i).id ≥ (fcAt fs (i + 1)).id) = false := by simp; omega
              by_cases hf0 : (fcAt fs (i + 1)).n = 0
              · have hv : Hid (ffHd fs (i + 1) = false) := by show _ = _; rw [hffd.out, decide_eq_false (p := 0 < (fcAt fs (i + 1)).n) (by omega)]; simp
                have hfe : (((fcAt fs (i + 1)).n : Int) == 0) = true := by simp [hf0]
                clear hf0
                refine wp_region_ws w3.heap.size (by kernel_rfl) (by kernel_rfl) ?_
                repeat (go_big_quiet_step ((go_at_call 34; exact Calls.in_ws_same (within_at _ _ _ _ hwt _))))
                refine wpQuiet_nil ?_
                rintro _ ⟨u, rfl⟩
                have hu := u.property
                generalize u.val = wu at hu ⊢
                clear u g4 g1 g2 g3
                go_wp2
                go_meet
                case rel => exact ⟨by rw [hv.out]; rfl, hu⟩
              · have hv : Hid (ffHd fs (i + 1) = true) := by show _ = _; rw [hffd.out, hwt, decide_eq_true hle]; simp; omega
                have hfe : (((fcAt fs (i + 1)).n : Int) == 0) = false := by simp; omega
                refine wp_region_ws w3.heap.size (by kernel_rfl) (by kernel_rfl) ?_
                repeat (go_big_quiet_step ((go_at_call 34; exact Calls.in_ws_same (within_at _ _ _ _ hwt _))))
                refine wpQuiet_nil ?_
                rintro _ ⟨u, rfl⟩
                have hu := u.property
                generalize u.val = wu at hu ⊢
                clear u g4 g1 g2 g3
                go_wp2
                go_meet
                case rel => exact ⟨by rw [hv.out]; rfl, hu⟩
            · have hge : decide ((fcAt fs i).id ≥ (fcAt fs (i + 1)).id) = true := by simp; omega
              have hv : Hid (ffHd fs (i + 1) = false) := by show _ = _; rw [hffd.out, decide_eq_false hle]; simp
              refine wp_region_ws w3.heap.size (by kernel_rfl) (by kernel_rfl) ?_
              repeat (go_big_quiet_step ((go_at_call 34; exact Calls.in_ws_same (within_at _ _ _ _ hwt _))))
              refine wpQuiet_nil ?_
              rintro _ ⟨u, rfl⟩
              have hu := u.property
              generalize u.val = wu at hu ⊢
              clear u g4 g1 g2 g3
              go_wp2
              go_meet
              case rel => exact ⟨by rw [hv.out]; rfl, hu⟩
      case rest =>
        obtain ⟨rfl, hBc⟩ := hcut
        obtain ⟨wb, rfl⟩ : ∃ wb, wb = wc := ⟨_, rfl⟩
        have hBc2 := hB3.trans (hBc.mono hB3.size)
        have hallc : Below bk w wb := h02.trans (hBc2.mono hsz.out)
        have hszc : Hid (bk ≤ wb.heap.size) := Nat.le_trans hsz3.out hBc.size
        have k0 := cell_later hBc s0
        have k1 := cell_later hBc s1
        have k2 := cell_later hBc s2
        have k3 := cell_later hBc s3
        have m0 := cell_later hBc t0
        have m1 := cell_later hBc t1
        have hIc := hI3.later hBc
        have hOc := hO3.later hBc
        clear g1 g2 g3 s0 s1 s2 s3 t0 t1 hI3 hO3 hB3 hall3 hp3
        cases hh : ffHd fs k
        · have hbad : Hid (ffB a l n fs = false) := ff_hd hlt hh
          go_wp2
          go_ret
          exact ⟨ret_bool hbad.out.symm, by rw [hbk]; exact hallc⟩
        · have hfn0 : Hid (0 < (fcAt fs k).n) := by
            show _ < _
            rw [hffd.out] at hh
            simp only [Bool.and_eq_true, decide_eq_true_eq] at hh
            exact hh.2
          obtain ⟨fx, fo, hfx, -⟩ := hIc.cells 0 hfn0.out
          obtain ⟨ax, ac, rfl, hac, -, -, hIA⟩ := hOc.mem
          have hAl : ∃ N, N = (allNs (fs.take k)).length := ⟨_, rfl⟩
          obtain ⟨N, hN⟩ := hAl
          have hNl : Hid ((allNs (fs.take k)).length = N) := hN.symm
          rw [← hN] at hIA hac hL ⊢
          have hNow : Hid (OwnI wb w2.heap.size (.slice ax N ac) (allNs (fs.take k))) := by rw [hN]; exact hOc
          clear hN hOc
          rw [hfx] at m1 hIc
          go_wp2
          go_loopw [6] (fun i wr => ∃ q : Nat, q ≤ (fcAt fs k).n ∧ i = .int .i64 q ∧ Below wb.heap.size wb wr ∧ (∀ j, j < q → faAt a l (allNs (fs.take k)) (fcAt fs k).ns j = true)) (fun i _ => (fcAt fs k).n - (intOf i).toNat)
          case atStart => exact ⟨0, by omega, rfl, Below.refl _ _, fun j hj => by omega⟩
          case round =>
            obtain ⟨q, hq, rfl, hB, hokq⟩ := hrel
            have e1 := cell_later hB m1
            by_cases hq2 : q < (fcAt fs k).n
            · have hq' : Hid (q < (fcAt fs k).n) := hq2
              have hIr := hIc.later hB
              obtain ⟨b7, o7, hx7, d0⟩ := hIr.cells q hq2
              simp only [Option.some.injEq, Addr.mk.injEq, and_true] at hx7
              obtain ⟨rfl, rfl⟩ := hx7
              have hfad : Hid (faAt a l (allNs (fs.take k)) (fcAt fs k).ns q = (usB a l (inAt (fcAt fs k).ns q) && (q == 0 || decide (inAt (fcAt fs k).ns (q - 1) < inAt (fcAt fs k).ns q)) && !anyAt (allNs (fs.take k)).length (fun j => inAt (allNs (fs.take k)) j == inAt (fcAt fs k).ns q))) := rfl
              have g1 := Ws.here (cell_later hB k0)
              have g2 := Ws.here (cell_later hB k1)
              have g3 := Ws.here (cell_later hB k2)
              have g4 := Ws.here (cell_later hB k3)
              have g5 := Ws.here e1
              have g6 := Ws.here d0
              go_upto_region 11 with fail
              obtain ⟨ok2, hok2⟩ : ∃ ok2, Hid (ok2 = (usB a l (inAt (fcAt fs k).ns q) && (q == 0 || decide (inAt (fcAt fs k).ns (q - 1) < inAt (fcAt fs k).ns q)))) := ⟨_, rfl⟩
              go_cut [78] (fun t wc => t = .bool (!ok2) ∧ Below wr.heap.size wr wc)
              case first =>
                cases hus : usB a l (inAt (fcAt fs k).ns q)
                · have hv : Hid (ok2 = false) := by show _ = _; rw [hok2.out, hus]; rfl
                  refine wp_region_ws wr.heap.size (by kernel_rfl) (by kernel_rfl) ?_
                  repeat (go_big_quiet_step ((go_at_call 98; exact Calls.in_ws (Nat.le_refl _) (inner_is _ _ _ _ _ _ _ _ hus _ hr))))
                  refine wpQuiet_nil ?_
                  rintro _ ⟨u, rfl⟩
                  have hu := u.property
                  generalize u.val = wu at hu ⊢
                  clear u g1 g2 g3 g4 g5 g6
                  go_wp2
                  go_meet
                  case rel => exact ⟨by rw [hv.out]; rfl, hu⟩
                · by_cases hk0 : q = 0
                  · have hdk : decide (0 < q) = false := by simp; omega
                    have hv : Hid (ok2 = true) := by show _ = _; rw [hok2.out, hus, hk0]; rfl
                    clear hk0
                    refine wp_region_ws wr.heap.size (by kernel_rfl) (by kernel_rfl) ?_
                    repeat (go_big_quiet_step ((go_at_call 98; exact Calls.in_ws (Nat.le_refl _) (inner_is _ _ _ _ _ _ _ _ hus _ hr))))
                    refine wpQuiet_nil ?_
                    rintro _ ⟨u, rfl⟩
                    have hu := u.property
                    generalize u.val = wu at hu ⊢
                    clear u g1 g2 g3 g4 g5 g6
                    go_wp2
                    go_meet
                    case rel => exact ⟨by rw [hv.out]; rfl, hu⟩
                  · obtain ⟨i, rfl⟩ : ∃ i, q = i + 1 := ⟨q - 1, by omega⟩
                    obtain ⟨b8, o8, hx8, d1⟩ := hIr.cells i (by omega)
                    simp only [Option.some.injEq, Addr.mk.injEq, and_true] at hx8
                    obtain ⟨rfl, rfl⟩ := hx8
                    have g7 := Ws.here d1
                    rw [Nat.add_sub_cancel] at hok2
                    by_cases hle : inAt (fcAt fs k).ns i < inAt (fcAt fs k).ns (i + 1)
                    · have hge : decide (inAt (fcAt fs k).ns i ≥ inAt (fcAt fs k).ns (i + 1)) = false := by simp; omega
                      have hv : Hid (ok2 = true) := by show _ = _; rw [hok2.out, hus, decide_eq_true hle]; simp
                      refine wp_region_ws wr.heap.size (by kernel_rfl) (by kernel_rfl) ?_
                      repeat (go_big_quiet_step ((go_at_call 98; exact Calls.in_ws (Nat.le_refl _) (inner_is _ _ _ _ _ _ _ _ hus _ hr))))
                      refine wpQuiet_nil ?_
                      rintro _ ⟨u, rfl⟩
                      have hu := u.property
                      generalize u.val = wu at hu ⊢
                      clear u g1 g2 g3 g4 g5 g6 g7
                      go_wp2
                      go_meet
                      case rel => exact ⟨by rw [hv.out]; rfl, hu⟩
                    · have hge : decide (inAt (fcAt fs k).ns i ≥ inAt (fcAt fs k).ns (i + 1)) = true := by simp; omega
                      have hv : Hid (ok2 = false) := by show _ = _; rw [hok2.out, hus, decide_eq_false hle]; simp
                      refine wp_region_ws wr.heap.size (by kernel_rfl) (by kernel_rfl) ?_
                      repeat (go_big_quiet_step ((go_at_call 98; exact Calls.in_ws (Nat.le_refl _) (inner_is _ _ _ _ _ _ _ _ hus _ hr))))
                      refine wpQuiet_nil ?_
                      rintro _ ⟨u, rfl⟩
                      have hu := u.property
                      generalize u.val = wu at hu ⊢
                      clear u g1 g2 g3 g4 g5 g6 g7
                      go_wp2
                      go_meet
                      case rel => exact ⟨by rw [hv.out]; rfl, hu⟩
              case rest =>
                obtain ⟨rfl, hBd⟩ := hcut
                clear g1 g2 g3 g4 g5 g6
                have hBd2 := hB.trans (hBd.mono hB.size)
                have halld : Below bk w wc := hallc.trans (hBd2.mono hszc.out)
                cases hok3 : ok2
                · have hbad : Hid (ffB a l n fs = false) := ff_fa hlt hq2 (by rw [hfad.out, ← hok2.out, hok3]; rfl)
                  go_wp2
                  go_ret
                  exact ⟨ret_bool hbad.out.symm, by rw [hbk]; exact halld⟩
                · have hALr := hIA.later hBd2
                  have hNow2 := hBd2
                  go_wp2
                  obtain ⟨wq, rfl⟩ : ∃ wq, wq = wr := ⟨_, rfl⟩
                  go_loopw [7] (fun i wr => ∃ z : Nat, z ≤ N ∧ i = .int .i64 z ∧ Below wc.heap.size wc wr ∧ (∀ j, j < z → (inAt (allNs (fs.take k)) j == inAt (fcAt fs k).ns q) = false)) (fun i _ => N - (intOf i).toNat)
                  case atStart => exact ⟨0, by omega, rfl, Below.refl _ _, fun j hj => by omega⟩
                  case round =>
                    obtain ⟨z, hz, rfl, hBz, hnoz⟩ := hrel
                    by_cases hz2 : z < N
                    · have hz' : Hid (z < N) := hz2
                      obtain ⟨b9, o9, rfl, d9⟩ := (hALr.later hBz).cells z hz2
                      have g1 := Ws.here d9
                      have g2 := Ws.here (cell_later hBz (cell_later hBd e1))
                      have g3 := Ws.here (cell_later hBz (cell_later hBd d0))
                      clear d9
                      cases heq : (inAt (allNs (fs.take k)) z == inAt (fcAt fs k).ns q)
                      all_goals go_upto_region 16 with fail
                      all_goals refine wp_region_ws wr.heap.size (by kernel_rfl) (by kernel_rfl) ?_
                      all_goals repeat (go_big_quiet_step (fail))
                      all_goals refine wpQuiet_nil ?_
                      all_goals rintro _ ⟨u, rfl⟩
                      all_goals have hu := hBz.trans (u.property.mono hBz.size)
                      all_goals generalize u.val = wu at hu ⊢
                      all_goals clear u g1 g2 g3
                      · go_wp2
                        go_roundw
                        case rel => exact ⟨z + 1, hz'.out, by go_num, hu, fun j hj => by
                          by_cases hj2 : j < z
                          · exact hnoz j hj2
                          · obtain rfl : j = z := by omega
                            exact heq⟩
                        case measure => simp [intOf]; have := hz'.out; omega
                      · have hbad : Hid (ffB a l n fs = false) := ff_fa hlt hq2 (by rw [hfad.out, any_yes (f := fun j => inAt (allNs (fs.take k)) j == inAt (fcAt fs k).ns q) (by rw [hNl.out]; exact hz'.out) heq]; simp)
                        have hfin : Below bk w wu := halld.trans (hu.mono (Nat.le_trans hszc.out hBd2.size))
                        go_wp2
                        go_ret
                        exact ⟨ret_bool hbad.out.symm, by rw [hbk]; exact hfin⟩
                    · obtain rfl : z = N := by omega
                      have hyes : Hid (faAt a l (allNs (fs.take k)) (fcAt fs k).ns q = true) := by
                        show _ = _
                        rw [hfad.out, ← hok2.out, hok3, any_no (by rw [hNl.out]; exact hnoz)]
                        rfl
                      have hfin := hBd2.trans (hBz.mono hBd2.size)
                      go_wp2
                      go_roundw
                      case rel => exact ⟨q + 1, hq'.out, by go_num, hfin, fun j hj => by
                        by_cases hj2 : j < q
                        · exact hokq j hj2
                        · obtain rfl : j = q := by omega
                          exact hyes.out⟩
                      case measure => simp [intOf]; have := hq'.out; omega
            · obtain rfl : q = (fcAt fs k).n := by omega
              have hgood : Hid (ffAt a l fs k = true) := by
                show _ = _
                rw [hffa.out, hh, allR_yes hokq]
                rfl
              have hIr := hIc.later hB
              have hOr := hNow.out.later hB
              have hsr : Hid (w2.heap.size ≤ wr.heap.size) := Nat.le_trans hBc2.size hB.size
              go_wp2_with (at_builtin; refine Hid.out ?_)
              unfold Hid
              refine wpList_append_I rfl _ _ rfl w2.heap.size _ _ rfl hOr ⟨fx, fo, none⟩ (fcAt fs k).n (fcAt fs k).c (fcAt fs k).ns rfl hIr.len ?_ ?_ hsr.out ?_
              · intro j u hj
                rw [addr_add]
                have hj2 : j < (fcAt fs k).ns.length := by
                  by_cases e : j < (fcAt fs k).ns.length
                  · exact e
                  · rw [List.getElem?_eq_none (by rw [flatI_len]; omega)] at hj
                    cases hj
                rw [flatI_at hj2] at hj
                obtain ⟨b8, o8, hx8, d8⟩ := hIr.cells j (by rw [← hIr.len]; exact hj2)
                simp only [Option.some.injEq, Addr.mk.injEq, and_true] at hx8
                obtain ⟨rfl, rfl⟩ := hx8
                rw [d8]
                exact hj
              · rw [hNl.out]
                omega
              intro v9 w9 hO9 hg9
              have hB9 : Below w2.heap.size w2 w9 := below_grownr (hBc2.trans (hB.mono hBc2.size)) hg9 (fun k e => (hOr.lt k e).1)
              have hO9' : Hid (OwnI w9 w2.heap.size v9 (allNs (fs.take (k + 1)))) := by
                show OwnI _ _ _ _
                rw [hst.out]
                exact hO9
              have hlen9 : Hid ((allNs (fs.take (k + 1))).length ≤ (k + 1) * 4) := by
                show _ ≤ _
                rw [hst.out, List.length_append, hNl.out, hIr.len]
                omega
              clear hO9 hg9 hOr
              go_wp2
              go_roundw
              case rel => exact ⟨k + 1, hlt'.out, by go_num, hB9, hO9'.out, fun j hj => by
                by_cases hj2 : j < k
                · exact hok j hj2
                · obtain rfl : j = k := by omega
                  exact hgood.out, hlen9.out⟩
              case measure => simp [intOf]; have := hlt'.out; omega
    · obtain rfl : k = n := by omega
      have hy : Hid (ffB a l k fs = true) := allR_yes hok
      go_wp2
      go_ret
      exact ⟨ret_bool hy.out.symm, by rw [hbk]; exact hall⟩
end Go.Proofs.YtlalgkjollgcbaaGreat
/- What the reference asks of a network is what the program asks: mathematics. -/
namespace Go.Proofs.YtlalgkjollgcbaaGreat
open Go.RowKit Go.Shelf

theorem allR_iff {n : Nat} {f : Nat → Bool} : (List.range n).all f = true ↔ ∀ i, i < n → f i = true := by
  rw [List.all_eq_true]
  exact ⟨fun h i hi => h i (by simpa using hi), fun h i hi => h i (by simpa using hi)⟩
theorem anyAt_no {n : Nat} {f : Nat → Bool} : anyAt n f = false ↔ ∀ i, i < n → f i = false := by
  constructor
  · intro h i hi
    cases e : f i
    · rfl
    · rw [any_yes hi e] at h; cases h
  · exact any_no
theorem riseI_lt {ns : List Int} (h : riseIB ns = true) : ∀ (i j : Nat), i < j → j < ns.length → inAt ns i < inAt ns j
  | i, 0, hij, _ => by omega
  | i, j + 1, hij, hj => by
    have h1 : riseIAt ns (j + 1) = true := by
      unfold riseIB at h
      exact allR_iff.1 h (j + 1) hj
    unfold riseIAt at h1
    simp only [Nat.add_sub_cancel, Bool.or_eq_true, decide_eq_true_eq, beq_iff_eq] at h1
    have h2 : inAt ns j < inAt ns (j + 1) := by
      rcases h1 with h1 | h1
      · omega
      · exact h1
    by_cases e : i < j
    · have := riseI_lt h i j e (by omega)
      omega
    · obtain rfl : i = j := by omega
      exact h2
theorem rise_nodup {ns : List Int} (h : riseIB ns = true) : ns.Nodup := by
  unfold List.Nodup
  rw [List.pairwise_iff_getElem]
  intro i j hi hj hij e
  have := riseI_lt h i j hij hj
  rw [inAt_get hi, inAt_get hj] at this
  omega
theorem nodup_take {fs : List Fc} : ∀ k, k ≤ fs.length → ((allNs (fs.take k)).Nodup ↔ ∀ j, j < k → (fcAt fs j).ns.Nodup ∧ ∀ y ∈ (fcAt fs j).ns, y ∉ allNs (fs.take j))
  | 0, _ => by simp [allNs]
  | k + 1, hk => by
    rw [allNs_take (by omega), List.nodup_append, nodup_take k (by omega)]
    constructor
    · rintro ⟨h1, h2, h3⟩ j hj
      by_cases e : j < k
      · exact h1 j e
      · obtain rfl : j = k := by omega
        exact ⟨h2, fun y hy hm => h3 y hm y hy rfl⟩
    · intro h
      refine ⟨fun j hj => h j (by omega), (h k (by omega)).1, fun y hy z hz e => ?_⟩
      subst e
      exact (h k (by omega)).2 y hz hy
theorem not_mem_at {al : List Int} {y : Int} : anyAt al.length (fun j => inAt al j == y) = false ↔ y ∉ al := by
  rw [anyAt_no]
  constructor
  · intro h hm
    obtain ⟨j, hj, e⟩ := List.getElem_of_mem hm
    have := h j hj
    rw [inAt_get hj, e] at this
    simp at this
  · intro h j hj
    rw [inAt_get hj]
    cases e : (al[j] == y)
    · rfl
    · rw [beq_iff_eq] at e
      exact absurd (e ▸ List.getElem_mem hj) h
theorem mem_at {ns : List Int} {y : Int} : y ∈ ns ↔ ∃ i, i < ns.length ∧ inAt ns i = y := by
  constructor
  · intro h
    obtain ⟨i, hi, e⟩ := List.getElem_of_mem h
    exact ⟨i, hi, by rw [inAt_get hi]; exact e⟩
  · rintro ⟨i, hi, e⟩
    rw [inAt_get hi] at e
    exact e ▸ List.getElem_mem hi
theorem ff_eq {a l : Int} {n : Nat} {fs : List Fc} (hl : fs.length = n) (hns : ∀ k, k < n → (fcAt fs k).ns.length = (fcAt fs k).n) : ffB a l n fs = fcsB a l n fs := by
  rw [Bool.eq_iff_iff]
  have hd : (!dupB (allNs fs)) = true ↔ (allNs fs).Nodup := by unfold dupB; simp
  have hnd := nodup_take (fs := fs) n (by omega)
  rw [show fs.take n = fs by rw [← hl, List.take_length]] at hnd
  unfold fcsB
  rw [Bool.and_eq_true, Bool.and_eq_true, hd, hnd, allR_iff]
  unfold ffB riseFB
  rw [allR_iff, allR_iff, hl]
  constructor
  · intro h
    have hp : ∀ k, k < n → (wth (fcAt fs k).id 1 65536 = true ∧ (k = 0 ∨ (fcAt fs (k - 1)).id < (fcAt fs k).id) ∧ 0 < (fcAt fs k).n) ∧ ∀ i, i < (fcAt fs k).n → usB a l (inAt (fcAt fs k).ns i) = true ∧ (i = 0 ∨ inAt (fcAt fs k).ns (i - 1) < inAt (fcAt fs k).ns i) ∧ inAt (fcAt fs k).ns i ∉ allNs (fs.take k) := fun k hk => by
      have h1 := h k hk
      unfold ffAt ffHd at h1
      simp only [Bool.and_eq_true, Bool.or_eq_true, decide_eq_true_eq, beq_iff_eq, allR_iff] at h1
      refine ⟨⟨h1.1.1.1, h1.1.1.2, h1.1.2⟩, fun i hi => ?_⟩
      have h2 := h1.2 i hi
      unfold faAt at h2
      simp only [Bool.and_eq_true, Bool.or_eq_true, decide_eq_true_eq, beq_iff_eq, Bool.not_eq_true'] at h2
      exact ⟨h2.1.1, h2.1.2, not_mem_at.1 h2.2⟩
    have hr : ∀ k, k < n → riseIB (fcAt fs k).ns = true := fun k hk => by
      unfold riseIB
      rw [allR_iff, hns k hk]
      intro i hi
      unfold riseIAt
      simp only [Bool.or_eq_true, decide_eq_true_eq, beq_iff_eq]
      exact ((hp k hk).2 i hi).2.1
    refine ⟨⟨fun k hk => ?_, fun k hk => ?_⟩, fun k hk => ⟨rise_nodup (hr k hk), fun y hy => ?_⟩⟩
    · obtain ⟨⟨h1, -, h3⟩, h4⟩ := hp k hk
      unfold fcsAt adB
      simp only [Bool.and_eq_true, decide_eq_true_eq, Bool.not_eq_true']
      exact ⟨⟨h1, h3⟩, hr k hk, anyAt_no.2 fun i hi => by rw [(h4 i hi).1]; rfl⟩
    · unfold riseFAt
      simp only [Bool.or_eq_true, decide_eq_true_eq, beq_iff_eq]
      exact (hp k hk).1.2.1
    · obtain ⟨i, hi, rfl⟩ := mem_at.1 hy
      exact ((hp k hk).2 i (by rw [← hns k hk]; exact hi)).2.2
  · rintro ⟨⟨h1, h2⟩, h3⟩ k hk
    have hc := h1 k hk
    unfold fcsAt adB at hc
    simp only [Bool.and_eq_true, decide_eq_true_eq, Bool.not_eq_true'] at hc
    obtain ⟨⟨c1, c2⟩, c3, c4⟩ := hc
    have hf := h2 k hk
    unfold riseFAt at hf
    have hr := c3
    unfold riseIB at hr
    rw [allR_iff, hns k hk] at hr
    unfold ffAt ffHd
    simp only [Bool.and_eq_true, decide_eq_true_eq, allR_iff]
    refine ⟨⟨⟨c1, hf⟩, c2⟩, fun i hi => ?_⟩
    have hi2 := hr i hi
    unfold riseIAt at hi2
    unfold faAt
    simp only [Bool.and_eq_true, Bool.not_eq_true']
    refine ⟨⟨?_, hi2⟩, not_mem_at.2 ((h3 k hk).2 _ (mem_at.2 ⟨i, by rw [hns k hk]; exact hi, rfl⟩))⟩
    have := anyAt_no.1 c4 i hi
    simpa using this

/-- The i-th range, as the reference asks. -/
def rfAt (rs : List Rg) (i : Nat) : Bool := wth (rgAt rs i).p 1 65536 && rt (rgAt rs i).a (rgAt rs i).l && (i == 0 || (decide ((rgAt rs (i - 1)).a < (rgAt rs i).a) && !mts (rgAt rs (i - 1)).a (rgAt rs (i - 1)).l (rgAt rs i).a (rgAt rs i).l))
def rfB (n : Nat) (rs : List Rg) : Bool := (List.range n).all (rfAt rs)
theorem rf_eq {n : Nat} {rs : List Rg} (hl : rs.length = n) : rfB n rs = rgsB n rs := by
  rw [Bool.eq_iff_iff]
  unfold rfB rgsB riseRB
  rw [Bool.and_eq_true, allR_iff, allR_iff, allR_iff, hl]
  constructor
  · intro h
    have hp : ∀ i, i < n → wth (rgAt rs i).p 1 65536 = true ∧ rt (rgAt rs i).a (rgAt rs i).l = true ∧ (i = 0 ∨ ((rgAt rs (i - 1)).a < (rgAt rs i).a ∧ mts (rgAt rs (i - 1)).a (rgAt rs (i - 1)).l (rgAt rs i).a (rgAt rs i).l = false)) := fun i hi => by
      have h1 := h i hi
      unfold rfAt at h1
      simp only [Bool.and_eq_true, Bool.or_eq_true, decide_eq_true_eq, beq_iff_eq, Bool.not_eq_true'] at h1
      exact ⟨h1.1.1, h1.1.2, h1.2⟩
    have hs : ∀ i, i < n → 1 ≤ sp (rgAt rs i).l := fun i hi => by
      obtain ⟨h0, h1, -⟩ := rt_range (hp i hi).2.1
      exact (sp_range h0 h1).1
    have hgap : ∀ i j, j < i → i < n → (rgAt rs j).a + sp (rgAt rs j).l ≤ (rgAt rs i).a := fun i => by
      induction i with
      | zero => intro j hj; omega
      | succ i ih =>
        intro j hj hi
        have h1 : (rgAt rs i).a + sp (rgAt rs i).l ≤ (rgAt rs (i + 1)).a := by
          obtain ⟨-, hr2, h3⟩ := hp (i + 1) hi
          obtain ⟨-, hr1, -⟩ := hp i (by omega)
          rw [Nat.add_sub_cancel] at h3
          rcases h3 with h3 | ⟨h3, h4⟩
          · omega
          · by_cases e : (rgAt rs (i + 1)).a < (rgAt rs i).a + sp (rgAt rs i).l
            · have hs2 := hs (i + 1) hi
              rw [mts_of hr1 hr2 (by omega) e] at h4
              cases h4
            · omega
        by_cases e : j < i
        · have h2 := ih j e (by omega)
          have := hs i (by omega)
          omega
        · obtain rfl : j = i := by omega
          exact h1
    refine ⟨fun i hi => ?_, fun i hi => ?_⟩
    · unfold rgsAt rgB
      rw [(hp i hi).1, (hp i hi).2.1, anyAt_no.2 fun j hj => ?_]
      · rfl
      · unfold rmB
        cases e : mts (rgAt rs j).a (rgAt rs j).l (rgAt rs i).a (rgAt rs i).l
        · rfl
        · have h1 := mts_nums e
          have h2 := hgap i j hj hi
          omega
    · unfold riseRAt
      simp only [Bool.or_eq_true, decide_eq_true_eq, beq_iff_eq]
      rcases (hp i hi).2.2 with h1 | h1
      · exact .inl h1
      · exact .inr h1.1
  · rintro ⟨h1, h2⟩ i hi
    have hc := h1 i hi
    unfold rgsAt rgB at hc
    simp only [Bool.and_eq_true, Bool.not_eq_true'] at hc
    have hr := h2 i hi
    unfold riseRAt at hr
    simp only [Bool.or_eq_true, decide_eq_true_eq, beq_iff_eq] at hr
    unfold rfAt
    simp only [Bool.and_eq_true, Bool.or_eq_true, decide_eq_true_eq, beq_iff_eq, Bool.not_eq_true']
    refine ⟨⟨hc.1.2, hc.1.1⟩, ?_⟩
    rcases hr with hr | hr
    · exact .inl hr
    · by_cases e : i = 0
      · exact .inl e
      · exact .inr ⟨hr, anyAt_no.1 hc.2 (i - 1) (by omega)⟩
/-- The i-th subnet, as the reference asks. -/
def sfHd (rn : Nat) (rs : List Rg) (ss : List Sb) (i : Nat) : Bool := wth (sbAt ss i).id 1 65536 && anyAt rn (riB rs (sbAt ss i).a (sbAt ss i).l) && (i == 0 || decide ((sbAt ss (i - 1)).id < (sbAt ss i).id)) && ffB (sbAt ss i).a (sbAt ss i).l (sbAt ss i).n (sbAt ss i).fs
def sfAt (rn : Nat) (rs : List Rg) (ss : List Sb) (i : Nat) : Bool := sfHd rn rs ss i && !anyAt i (smB ss (sbAt ss i).a (sbAt ss i).l)
def sfB (rn : Nat) (rs : List Rg) (n : Nat) (ss : List Sb) : Bool := (List.range n).all (sfAt rn rs ss)
theorem sf_eq {rn : Nat} {rs : List Rg} {n : Nat} {ss : List Sb} (hl : ss.length = n) (hf : ∀ i, i < n → (sbAt ss i).fs.length = (sbAt ss i).n ∧ ∀ k, k < (sbAt ss i).n → (fcAt (sbAt ss i).fs k).ns.length = (fcAt (sbAt ss i).fs k).n) : sfB rn rs n ss = sbsB rn rs n ss := by
  rw [Bool.eq_iff_iff]
  unfold sfB sbsB riseSB
  rw [Bool.and_eq_true, allR_iff, allR_iff, allR_iff, hl]
  have he : ∀ i, i < n → (sfAt rn rs ss i = true ↔ sbsAt rn rs ss i = true ∧ riseSAt ss i = true) := fun i hi => by
    unfold sfAt sfHd sbsAt riseSAt subB
    rw [ff_eq (hf i hi).1 (hf i hi).2]
    simp only [Bool.and_eq_true]
    constructor
    · rintro ⟨⟨⟨⟨h1, h2⟩, h3⟩, h4⟩, h5⟩
      exact ⟨⟨⟨⟨h1, h2⟩, h5⟩, h4⟩, h3⟩
    · rintro ⟨⟨⟨⟨h1, h2⟩, h5⟩, h4⟩, h3⟩
      exact ⟨⟨⟨⟨h1, h2⟩, h3⟩, h4⟩, h5⟩
  constructor
  · intro h
    exact ⟨fun i hi => ((he i hi).1 (h i hi)).1, fun i hi => ((he i hi).1 (h i hi)).2⟩
  · rintro ⟨h1, h2⟩ i hi
    exact (he i hi).2 ⟨h1 i hi, h2 i hi⟩
end Go.Proofs.YtlalgkjollgcbaaGreat
/- Of a right net: its Ids, its links, its groups as the reference checks them; the routes of a table, put in one by one. -/
namespace Go.Proofs.YtlalgkjollgcbaaGreat
open Go.RowKit Go.Shelf

theorem jn_lk {ln : Nat} {ls : List (Int × Int)} (hl : ls.length = ln) (a b : Int) : jnB ln ls a b = lkB ls a b := by
  unfold lkB
  by_cases h : (min a b, max a b) ∈ ls
  · rw [decide_eq_true h]
    obtain ⟨i, hi, e⟩ := List.getElem_of_mem h
    have e2 := at_get hi
    rw [e] at e2
    exact eqLk_any.2 ⟨i, by omega, congrArg Prod.fst e2, congrArg Prod.snd e2⟩
  · rw [decide_eq_false h]
    cases hj : jnB ln ls a b
    · rfl
    · exfalso
      obtain ⟨i, hi, h0, h1⟩ := eqLk_any.1 hj
      apply h
      have e2 := at_get (ls := ls) (k := i) (by omega)
      rw [h0, h1] at e2
      rw [e2]
      exact List.getElem_mem _
theorem links_in {n : Nat} {vs : List Vn} {ln : Nat} {ls : List (Int × Int)} (hl : vs.length = n) (hll : ls.length = ln) (h : linksB n vs ln ls = true) : ∀ q ∈ ls, q.1 < q.2 ∧ (∃ k, k < n ∧ (vnAt vs k).id = q.1) ∧ ∃ k, k < n ∧ (vnAt vs k).id = q.2 := by
  intro q hq
  obtain ⟨i, hi, e⟩ := List.getElem_of_mem hq
  have e2 := at_get hi
  rw [e] at e2
  have e3 : at0 ls i = q.1 := congrArg Prod.fst e2
  have e4 : at1 ls i = q.2 := congrArg Prod.snd e2
  obtain ⟨m0, m1⟩ := links_mem hl h i (by omega)
  rw [e3] at m0
  rw [e4] at m1
  obtain ⟨k0, hk0, h0⟩ := mem_ids m0
  obtain ⟨k1, hk1, h1⟩ := mem_ids m1
  refine ⟨?_, ⟨k0, by omega, h0⟩, ⟨k1, by omega, h1⟩⟩
  unfold linksB at h
  rw [Bool.and_eq_true, Bool.not_eq_true'] at h
  have h2 := anyAt_no.1 h.2 i (by omega)
  unfold lbad at h2
  simp only [Bool.or_eq_false_iff, decide_eq_false_iff_not] at h2
  rw [e3, e4] at h2
  omega
theorem ids_one {n : Nat} {vs : List Vn} (hl : vs.length = n) (h : riseVB vs = true) : ∀ i k, i < n → k < n → (vnAt vs i).id = (vnAt vs k).id → i = k := by
  intro i k hi hk e
  have h1 := vplace_at hl h hi
  rw [e, vplace_at hl h hk] at h1
  omega
theorem meetB_comm (rn : Nat) (rs : List Rg) (qn : Nat) (qs : List Rg) : meetB rn rs qn qs = meetB qn qs rn rs := by
  have h : ∀ (rn : Nat) (rs : List Rg) (qn : Nat) (qs : List Rg), meetB rn rs qn qs = true → meetB qn qs rn rs = true := by
    intro rn rs qn qs h
    obtain ⟨i, hi, h1⟩ := anyAt_ex h
    obtain ⟨j, hj, h2⟩ := anyAt_ex h1
    refine any_yes (k := j) hj (any_yes (k := i) hi ?_)
    rw [mts_comm]
    exact h2
  cases h1 : meetB rn rs qn qs
  · cases h2 : meetB qn qs rn rs
    · rfl
    · rw [h _ _ _ _ h2] at h1
      cases h1
  · rw [h _ _ _ _ h1]
/-- Have the two networks an address in common? -/
def vmB (a b : Vn) : Bool := meetB a.rn a.rs b.rn b.rs
/-- The reference's question to the i-th: does one of its group but itself meet it? -/
def grpBad (ls : List (Int × Int)) (n : Nat) (vs : List Vn) (i k : Nat) : Bool :=
  (!(inAt (grpL ls vs (vnAt vs i).id) k == (vnAt vs i).id)) && vmB (vnAt vs i) (vnAt vs (vplace n vs (inAt (grpL ls vs (vnAt vs i).id) k)).toNat)
theorem grpL_mem {ls : List (Int × Int)} {vs : List Vn} {id y : Int} : y ∈ grpL ls vs id ↔ y ∈ idsOf vs ∧ hdOf ls y = hdOf ls id := by
  unfold grpL
  rw [List.mem_filter, beq_iff_eq]
theorem grp_at {ls : List (Int × Int)} {n : Nat} {vs : List Vn} (hl : vs.length = n) (hr : riseVB vs = true) {id : Int} {k : Nat} (hk : k < (grpL ls vs id).length) :
    ∃ j, j < n ∧ (vnAt vs j).id = inAt (grpL ls vs id) k ∧ vplace n vs (inAt (grpL ls vs id) k) = j ∧ hdOf ls (vnAt vs j).id = hdOf ls id := by
  have hm : inAt (grpL ls vs id) k ∈ grpL ls vs id := by rw [inAt_get hk]; exact List.getElem_mem _
  obtain ⟨h1, h2⟩ := grpL_mem.1 hm
  obtain ⟨j, hj, e⟩ := mem_ids h1
  refine ⟨j, by omega, e, ?_, by rw [e]; exact h2⟩
  rw [← e]
  exact vplace_at hl hr (by omega)
theorem ap_yes {ls : List (Int × Int)} {n : Nat} {vs : List Vn} (hl : vs.length = n) (hr : riseVB vs = true) (h : ∀ i, i < n → ∀ k, k < (grpL ls vs (vnAt vs i).id).length → grpBad ls n vs i k = false) : apB ls n vs = true := by
  unfold apB
  rw [List.all_eq_true]
  intro i hi
  unfold apAt
  rw [List.all_eq_true]
  intro j hj
  rw [List.mem_range] at hi hj
  cases hc : clsh (hdOf ls) vs i j
  · rfl
  · exfalso
    unfold clsh at hc
    rw [Bool.and_eq_true, beq_iff_eq] at hc
    have hjn : j < n := by omega
    have hm : (vnAt vs j).id ∈ grpL ls vs (vnAt vs i).id := by
      refine grpL_mem.2 ⟨?_, hc.1.symm⟩
      unfold idsOf
      exact List.mem_map.2 ⟨vnAt vs j, by rw [vnAt_get (by omega)]; exact List.getElem_mem _, rfl⟩
    obtain ⟨k, hk, e⟩ := List.getElem_of_mem hm
    have hb := h i hi k hk
    unfold grpBad at hb
    rw [inAt_get hk, e, vplace_at hl hr hjn] at hb
    have hne : ((vnAt vs j).id == (vnAt vs i).id) = false := by
      rw [beq_eq_false_iff_ne]
      intro e2
      have := ids_one hl hr j i hjn hi e2
      omega
    rw [hne] at hb
    simp only [Bool.not_false, Bool.true_and, Int.toNat_natCast] at hb
    unfold vmB at hb
    rw [hb] at hc
    cases hc.2
theorem ap_no {ls : List (Int × Int)} {n : Nat} {vs : List Vn} (hl : vs.length = n) (hr : riseVB vs = true) {i k : Nat} (hi : i < n) (hk : k < (grpL ls vs (vnAt vs i).id).length) (hb : grpBad ls n vs i k = true) : apB ls n vs = false := by
  cases ha : apB ls n vs
  · rfl
  · exfalso
    obtain ⟨j, hj, e, hp, hh⟩ := grp_at hl hr hk
    unfold grpBad at hb
    rw [hp, ← e] at hb
    simp only [Bool.and_eq_true, Bool.not_eq_true', beq_eq_false_iff_ne, Int.toNat_natCast] at hb
    obtain ⟨hne, hm⟩ := hb
    rcases Nat.lt_trichotomy i j with hlt | heq | hgt
    · have h1 := ap_at ha hj hlt
      unfold clsh at h1
      rw [hh] at h1
      unfold vmB at hm
      rw [meetB_comm] at hm
      rw [hm] at h1
      simp at h1
    · subst heq
      exact hne rfl
    · have h1 := ap_at ha hi hgt
      unfold clsh at h1
      rw [hh] at h1
      unfold vmB at hm
      rw [hm] at h1
      simp at h1

/- The table. -/
theorem swap_insR {xs : List Rg} {e : Rg} {q : Nat} (hq : q < xs.length) : ((xs.take (q + 1) ++ [e] ++ xs.drop (q + 1)).set q e).set (q + 1) (rgAt xs q) = xs.take q ++ [e] ++ xs.drop q := by
  have hx : xs[q]? = some (rgAt xs q) := by rw [rgAt_get hq, List.getElem?_eq_getElem hq]
  have h1 : xs.take (q + 1) = xs.take q ++ [rgAt xs q] := by rw [List.take_add_one, hx]; rfl
  have h2 : xs.drop q = rgAt xs q :: xs.drop (q + 1) := by rw [List.drop_eq_getElem_cons hq, rgAt_get hq]
  have hlen : (xs.take q).length = q := by rw [List.length_take]; omega
  rw [h1, h2]
  have e1 : (xs.take q ++ [rgAt xs q] ++ [e] ++ xs.drop (q + 1)) = xs.take q ++ (rgAt xs q :: e :: xs.drop (q + 1)) := by simp
  rw [e1]
  have e2 : (xs.take q ++ (rgAt xs q :: e :: xs.drop (q + 1))).set q e = xs.take q ++ (e :: e :: xs.drop (q + 1)) := by
    rw [List.set_append_right _ _ (by omega), hlen, Nat.sub_self]
    rfl
  rw [e2, List.set_append_right _ _ (by omega), hlen, show q + 1 - q = 1 by omega]
  simp
theorem insR_at {xs : List Rg} {e : Rg} {q : Nat} (hq : q < xs.length) : rgAt (xs.take (q + 1) ++ [e] ++ xs.drop (q + 1)) q = rgAt xs q ∧ rgAt (xs.take (q + 1) ++ [e] ++ xs.drop (q + 1)) (q + 1) = e := by
  have hlen : (xs.take (q + 1)).length = q + 1 := by rw [List.length_take]; omega
  unfold rgAt
  simp only [List.getD_eq_getElem?_getD, List.append_assoc]
  constructor
  · rw [List.getElem?_append_left (by omega), List.getElem?_take, if_pos (by omega)]
  · rw [List.getElem?_append_right (by omega), hlen, Nat.sub_self]
    rfl
/-- Put in at its place, a route leaves the list sorted. -/
theorem sort_ins {L M : List Rg} {r : Rg} {j : Nat} (h : SortOf L M) (hj : j ≤ M.length) (hgt : ∀ s ∈ M.drop j, r.a < s.a) (hle : j = 0 ∨ (rgAt M (j - 1)).a ≤ r.a) : SortOf (L ++ [r]) (M.take j ++ [r] ++ M.drop j) := by
  constructor
  · have h1 : (M.take j ++ [r] ++ M.drop j).Perm (M ++ [r]) := by
      have h2 : (M.take j ++ [r] ++ M.drop j).Perm (M.take j ++ (M.drop j ++ [r])) := by
        rw [List.append_assoc]
        exact List.Perm.append_left _ List.perm_append_comm
      rwa [← List.append_assoc, List.take_append_drop] at h2
    exact h1.trans (h.1.append_right _)
  · have hp := h.2
    rw [← List.take_append_drop j M, List.pairwise_append] at hp
    obtain ⟨p1, p2, p3⟩ := hp
    have hlow : ∀ s ∈ M.take j, s.a ≤ r.a := by
      intro s hs
      rcases hle with rfl | hle
      · simp at hs
      · obtain ⟨i, hi, rfl⟩ := List.getElem_of_mem hs
        rw [List.length_take] at hi
        rw [List.getElem_take]
        by_cases e : i = j - 1
        · subst e
          rw [← rgAt_get (by omega)]
          exact hle
        · have h5 := List.pairwise_iff_getElem.1 h.2 i (j - 1) (by omega) (by omega) (by omega)
          rw [← rgAt_get (show j - 1 < M.length by omega)] at h5
          exact Int.le_trans h5 hle
    rw [List.append_assoc, List.pairwise_append]
    refine ⟨p1, List.pairwise_cons.2 ⟨fun s hs => Int.le_of_lt (hgt s hs), p2⟩, fun s hs t ht => ?_⟩
    rcases List.mem_cons.1 ht with rfl | ht
    · exact hlow s hs
    · exact p3 s hs t ht
theorem SortOf.nil : SortOf [] [] := ⟨List.Perm.refl _, List.Pairwise.nil⟩
/-- One list alone is what sorting makes of routes with starts of their own. -/
theorem sort_one {L M N : List Rg} (h : SortOf L M) (g : SortOf L N) (hd : L.Pairwise fun r s => r.a ≠ s.a) : M = N := by
  have key : ∀ r ∈ L, ∀ s ∈ L, r.a = s.a → r = s := by
    intro r hr s hs e
    obtain ⟨i, hi, rfl⟩ := List.getElem_of_mem hr
    obtain ⟨k, hk, rfl⟩ := List.getElem_of_mem hs
    rcases Nat.lt_trichotomy i k with h1 | h1 | h1
    · exact absurd e (List.pairwise_iff_getElem.1 hd i k hi hk h1)
    · subst h1; rfl
    · exact absurd e.symm (List.pairwise_iff_getElem.1 hd k i hk hi h1)
  refine List.Perm.eq_of_pairwise ?_ h.2 g.2 (h.1.trans g.1.symm)
  intro a b ha hb h1 h2
  exact key a (h.1.mem_iff.1 ha) b (g.1.mem_iff.1 hb) (Int.le_antisymm h1 h2)
theorem RNet.starts {n : Nat} {vs : List Vn} {ln : Nat} {ls : List (Int × Int)} (h : RNet n vs ln ls) (id : Int) : (rawT ln ls id vs).Pairwise fun r s => r.a ≠ s.a := by
  have hrt : ∀ r ∈ rawT ln ls id vs, rt r.a r.l = true := by
    intro r hr
    obtain ⟨-, -, hv, -, -⟩ := chkN_zero h.chk
    unfold rawT at hr
    obtain ⟨v, hvm, hr⟩ := List.mem_flatMap.1 hr
    obtain ⟨i, hi, rfl⟩ := List.getElem_of_mem hvm
    split at hr
    · rw [← vnAt_get hi] at hr
      obtain ⟨q, hq, rfl⟩ := mem_vT hr
      have hin : i < n := by rw [← h.vl]; exact hi
      have h9 := rg_rt (rgs_at (chkV_parts (vpc_zero hv i hin)).2.2.1 (i := q) (by rw [← h.rl i hin]; exact hq)).1
      exact h9
    · cases hr
  rw [List.pairwise_iff_getElem]
  intro i k hi hk hik e
  have h1 := List.pairwise_iff_getElem.1 (h.apart id (rawT ln ls id vs)[i].a) i k hi hk hik
  have r1 := hrt _ (List.getElem_mem hi)
  have r2 := hrt _ (List.getElem_mem hk)
  apply h1
  have s1 : (0 : Int) < sp (rawT ln ls id vs)[i].l := sp_pos _
  have s2 : (0 : Int) < sp (rawT ln ls id vs)[k].l := sp_pos _
  exact ⟨hld_nums.2 ⟨r1, by omega, by omega⟩, hld_nums.2 ⟨r2, by omega, by omega⟩⟩
end Go.Proofs.YtlalgkjollgcbaaGreat
/- linked and clash of the reference. -/
namespace Go.Proofs.YtlalgkjollgcbaaGreat
open Go.RowKit Go.Shelf

set_option maxRecDepth 100000 in
set_option maxHeartbeats 1600000 in
theorem linked_any (x : Option Addr) (n c : Nat) (lx : Option Addr) (ln lc : Nat) (ls : List (Int × Int)) (a b : Int) (w : World) (hl : PS w lx ln ls) (hln : ln ≤ 1048576) :
    Calls Tryz.prog 33 #[.agg #[.slice x n c, .slice lx ln lc], .int .i64 a, .int .i64 b] w fun e w' => e = .returned (.bool (jnB ln ls a b)) ∧ Below w.heap.size w w' := by
  have hbd : Hid (jnB ln ls a b = anyAt ln (eqLk ls (min a b) (max a b))) := rfl
  go_enter Tryz.func33, Tryz.ntmps33
  go_upto_region 1 with fail
  obtain ⟨w2, hw2⟩ : ∃ w2, w2 = w.alloc (netO x n c lx ln lc) := ⟨_, rfl⟩
  rw [← hw2]
  have h02 : Below w.heap.size w w2 := by rw [hw2]; exact bl1 w _
  have hbox : w2.heap[w.heap.size]? = some (netO x n c lx ln lc) := by rw [hw2]; exact heap_new _ rfl
  clear hw2
  obtain ⟨hcl, -⟩ := box_cells hbox
  have q1 : w2.cell? ⟨w.heap.size, 1, none⟩ = some (.slice lx ln lc) := hcl 1
  clear hcl hbox
  have hl2 := hl.later h02
  generalize hbk : w.heap.size = bk at *
  go_wp2
  go_loopw [7] (fun i wr => ∃ k : Nat, k ≤ ln ∧ i = .int .i64 k ∧ wr = w2 ∧ (∀ j, j < k → eqLk ls (min a b) (max a b) j = false)) (fun i _ => ln - (intOf i).toNat)
  case atStart => exact ⟨0, by omega, rfl, rfl, fun j hj => by omega⟩
  case round =>
    obtain ⟨k, hk, rfl, rfl, hno⟩ := hrel
    have hno' : Hid (∀ j, j < k → eqLk ls (min a b) (max a b) j = false) := hno
    clear hno
    by_cases hlt : k < ln
    · have hlt' : Hid (k < ln) := hlt
      obtain ⟨bb, o, rfl, c0, c1⟩ := hl2.cells k hlt
      have he : ∀ W, (binOp .eql 63 (.agg #[.int .i64 (at0 ls k), .int .i64 (at1 ls k)]) (.agg #[.int .i64 (min a b), .int .i64 (max a b)])).run Tryz.prog W = .ok (.bool (eqLk ls (min a b) (max a b) k)) W := fun W => by
        rw [eq_link]
        unfold eqLk
        rw [decide_eq_decide.2 (eq_comm (a := at0 ls k)), decide_eq_decide.2 (eq_comm (a := at1 ls k))]
      have hg := fun x y W => guard_link .eql x y #[.int .i64 (at0 ls k), .int .i64 (at1 ls k)] #[.int .i64 (min a b), .int .i64 (max a b)] W
      generalize hmn : min a b = mn at *
      generalize hmx : max a b = mx at *
      cases hq : eqLk ls mn mx k
      all_goals rw [hq] at he
      · go_wp2
        go_roundw
        case rel => exact ⟨k + 1, hlt'.out, by go_num, by first | rfl | trivial, fun j hj => by
          by_cases hj2 : j < k
          · exact hno'.out j hj2
          · obtain rfl : j = k := by omega
            exact hq⟩
        case measure => simp [intOf]; have := hlt'.out; omega
      · have hv : Hid (jnB ln ls a b = true) := by rw [hbd.out]; exact any_yes hlt hq
        go_wp2
        go_ret
        exact ⟨ret_bool hv.out.symm, by rw [hbk]; exact h02⟩
    · obtain rfl : k = ln := by omega
      have hv : Hid (jnB k ls a b = false) := by rw [hbd.out]; exact any_no hno'.out
      go_wp2
      go_ret
      exact ⟨ret_bool hv.out.symm, by rw [hbk]; exact h02⟩
theorem linked_is (x : Option Addr) (n c : Nat) (lx : Option Addr) (ln lc : Nat) (ls : List (Int × Int)) (a b : Int) (t : Bool) (h : jnB ln ls a b = t) (w : World) (hl : PS w lx ln ls) (hln : ln ≤ 1048576) :
    Calls Tryz.prog 33 #[.agg #[.slice x n c, .slice lx ln lc], .int .i64 a, .int .i64 b] w fun e w' => e = .returned (.bool t) ∧ Below w.heap.size w w' := by
  subst h
  exact linked_any x n c lx ln lc ls a b w hl hln

theorem meetC_is (a l c m : Int) (t : Bool) (h : mts a l c m = t) (w : World) :
    Calls Tryz.prog 63 #[.agg #[.int .i64 a, .int .i64 l], .agg #[.int .i64 c, .int .i64 m]] w fun e w' => e = .returned (.bool t) ∧ Below w.heap.size w w' := by
  subst h
  exact meet_any a l c m w
set_option maxRecDepth 100000 in
set_option maxHeartbeats 1600000 in
theorem clash_any (p q : Vn) (w : World) (hp : RS w p.rx p.rn p.rs) (hq : RS w q.rx q.rn q.rs) (hpn : p.rn ≤ 1048576) (hqn : q.rn ≤ 1048576) :
    Calls Tryz.prog 32 #[.agg #[.int .i64 p.id, .slice p.rx p.rn p.rc, .slice p.sx p.sn p.sc], .agg #[.int .i64 q.id, .slice q.rx q.rn q.rc, .slice q.sx q.sn q.sc]] w fun e w' => e = .returned (.bool (vmB p q)) ∧ Below w.heap.size w w' := by
  have hbd : Hid (vmB p q = anyAt p.rn fun i => anyAt q.rn fun j => mts (rgAt p.rs i).a (rgAt p.rs i).l (rgAt q.rs j).a (rgAt q.rs j).l) := rfl
  obtain ⟨pid, prx, prn, prc, prs, psx, psn, psc, pss⟩ := p
  obtain ⟨qid, qrx, qrn, qrc, qrs, qsx, qsn, qsc, qss⟩ := q
  simp only at hp hq hpn hqn hbd ⊢
  go_enter Tryz.func32, Tryz.ntmps32
  go_upto_region 1 with fail
  obtain ⟨w1, hw1⟩ : ∃ w1, w1 = w.alloc (.cells #[.int .i64 pid, .slice prx prn prc, .slice psx psn psc] 52) := ⟨_, rfl⟩
  obtain ⟨w2, hw2⟩ : ∃ w2, w2 = w1.alloc (.cells #[.int .i64 qid, .slice qrx qrn qrc, .slice qsx qsn qsc] 52) := ⟨_, rfl⟩
  rw [← hw1, ← hw2]
  have hz1 : w1.heap.size = w.heap.size + 1 := by rw [hw1]; simp
  have h01 : Below w.heap.size w w1 := by rw [hw1]; exact bl1 w _
  have h12 : Below w1.heap.size w1 w2 := by rw [hw2]; exact bl1 w1 _
  have h02 : Below w.heap.size w w2 := h01.trans (h12.mono h01.size)
  have b1 : w1.heap[w.heap.size]? = some (.cells #[.int .i64 pid, .slice prx prn prc, .slice psx psn psc] 52) := by rw [hw1]; exact heap_new _ rfl
  have b2 : w2.heap[w1.heap.size]? = some (.cells #[.int .i64 qid, .slice qrx qrn qrc, .slice qsx qsn qsc] 52) := by rw [hw2]; exact heap_new _ rfl
  rw [hz1] at b2
  have q1 : w2.cell? ⟨w.heap.size, 1, none⟩ = some (.slice prx prn prc) := (box_cells (heap_later h12 b1)).1 1
  have q2 : w2.cell? ⟨w.heap.size + 1, 1, none⟩ = some (.slice qrx qrn qrc) := (box_cells b2).1 1
  try rw [hz1]
  clear hw1 hw2 b1 b2 h01 h12
  have hp2 := hp.later h02
  have hq2 := hq.later h02
  have hsz : Hid (w.heap.size ≤ w2.heap.size) := h02.size
  clear hz1 hp hq
  generalize hbk : w.heap.size = bk at *
  go_wp2
  go_loopw [5] (fun i wr => ∃ k : Nat, k ≤ prn ∧ i = .int .i64 k ∧ Below w2.heap.size w2 wr ∧ (∀ j, j < k → (anyAt qrn fun j' => mts (rgAt prs j).a (rgAt prs j).l (rgAt qrs j').a (rgAt qrs j').l) = false)) (fun i _ => prn - (intOf i).toNat)
  case atStart => exact ⟨0, by omega, rfl, Below.refl _ _, fun j hj => by omega⟩
  case round =>
    obtain ⟨k, hk, rfl, hB, hno⟩ := hrel
    have hno' : Hid (∀ j, j < k → (anyAt qrn fun j' => mts (rgAt prs j).a (rgAt prs j).l (rgAt qrs j').a (rgAt qrs j').l) = false) := hno
    clear hno
    have r1 := cell_later hB q1
    have r2 := cell_later hB q2
    by_cases hlt : k < prn
    · have hlt' : Hid (k < prn) := hlt
      go_wp2
      go_loopw [6] (fun i wr => ∃ m : Nat, m ≤ qrn ∧ i = .int .i64 m ∧ Below w2.heap.size w2 wr ∧ (∀ j, j < m → mts (rgAt prs k).a (rgAt prs k).l (rgAt qrs j).a (rgAt qrs j).l = false)) (fun i _ => qrn - (intOf i).toNat)
      case atStart => exact ⟨0, by omega, rfl, hB, fun j hj => by omega⟩
      case round =>
        clear r1 r2
        obtain ⟨m, hm, rfl, hC, hnq⟩ := hrel
        have hnq' : Hid (∀ j, j < m → mts (rgAt prs k).a (rgAt prs k).l (rgAt qrs j).a (rgAt qrs j).l = false) := hnq
        clear hnq hB
        have r1 := cell_later hC q1
        have r2 := cell_later hC q2
        by_cases hltq : m < qrn
        · have hltq' : Hid (m < qrn) := hltq
          obtain ⟨b, o, rfl, c0, c1, c2⟩ := (hp2.later hC).cells k hlt
          obtain ⟨b', o', rfl, d0, d1, d2⟩ := (hq2.later hC).cells m hltq
          have g0 := Ws.here c0
          have g1 := Ws.here c1
          have g2 := Ws.here d0
          have g3 := Ws.here d1
          have g4 := Ws.here r1
          have g5 := Ws.here r2
          go_upto_region 7 with fail
          clear c0 c1 c2 d0 d1 d2
          refine wp_region_ws wr.heap.size (by kernel_rfl) (by kernel_rfl) ?_
          cases hmt : mts (rgAt prs k).a (rgAt prs k).l (rgAt qrs m).a (rgAt qrs m).l
          all_goals repeat (go_big_quiet_step ((go_at_call 63; exact Calls.in_ws (Nat.le_refl _) (meetC_is _ _ _ _ _ hmt _))))
          all_goals refine wpQuiet_nil ?_
          all_goals rintro _ ⟨u, rfl⟩
          all_goals have hu := hC.trans (u.property.mono hC.size)
          all_goals generalize u.val = wu at hu ⊢
          all_goals clear u g0 g1 g2 g3 g4 g5 r1 r2
          · have r1 := cell_later hu q1
            have r2 := cell_later hu q2
            go_wp2
            go_roundw
            case rel => exact ⟨m + 1, hltq'.out, by go_num, hu, fun j hj => by
              by_cases hj2 : j < m
              · exact hnq'.out j hj2
              · obtain rfl : j = m := by omega
                exact hmt⟩
            case measure => simp [intOf]; have := hltq'.out; omega
          · have hv : Hid (vmB ⟨pid, some ⟨b, o, none⟩, prn, prc, prs, psx, psn, psc, pss⟩ ⟨qid, some ⟨b', o', none⟩, qrn, qrc, qrs, qsx, qsn, qsc, qss⟩ = true) := by rw [hbd.out]; exact any_yes hlt (any_yes hltq hmt)
            go_wp2
            go_ret
            exact ⟨ret_bool hv.out.symm, by rw [hbk]; exact h02.trans (hu.mono hsz.out)⟩
        · obtain rfl : m = qrn := by omega
          have hall : Hid ((anyAt m fun j' => mts (rgAt prs k).a (rgAt prs k).l (rgAt qrs j').a (rgAt qrs j').l) = false) := any_no hnq'.out
          go_wp2
          go_roundw
          case rel => exact ⟨k + 1, hlt'.out, by go_num, hC, fun j hj => by
            by_cases hj2 : j < k
            · exact hno'.out j hj2
            · obtain rfl : j = k := by omega
              exact hall.out⟩
          case measure => simp [intOf]; have := hlt'.out; omega
    · obtain rfl : k = prn := by omega
      have hv : Hid (vmB ⟨pid, prx, k, prc, prs, psx, psn, psc, pss⟩ ⟨qid, qrx, qrn, qrc, qrs, qsx, qsn, qsc, qss⟩ = false) := by rw [hbd.out]; exact any_no hno'.out
      go_wp2
      go_ret
      exact ⟨ret_bool hv.out.symm, by rw [hbk]; exact h02.trans (hB.mono hsz.out)⟩
end Go.Proofs.YtlalgkjollgcbaaGreat
