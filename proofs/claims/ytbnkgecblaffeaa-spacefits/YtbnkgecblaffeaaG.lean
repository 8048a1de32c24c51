/- What slices.AppendSeq and slices.Collect come to at the iterator of holes; Holes of package space. -/
import Derived.Test.YtbnkgecblaffeaaF
import Derived.Test.YtbnkgecblaffeaaU
namespace Go.Proofs.Ytbnkgecblaffeaa
open Go.RowKit Go.Shelf
attribute [local go_sem] Oper.semAt_some

def flat (H : List (Int × Int)) : List Value := H.flatMap fun h => [.int .i64 h.1, .int .i64 h.2]
theorem flat_append (H G : List (Int × Int)) : flat (H ++ G) = flat H ++ flat G := by simp [flat]
theorem flat_len (H : List (Int × Int)) : (flat H).length = H.length * 2 := by
  induction H with
  | nil => rfl
  | cons h t ih =>
    have e : flat (h :: t) = [.int .i64 h.1, .int .i64 h.2] ++ flat t := by simp [flat]
    rw [e, List.length_append, ih]
    simp only [List.length_cons, List.length_nil]
    omega
theorem flat_one (H : List (Int × Int)) : ∀ u ∈ flat H, u.oneCell' = true := by
  intro u hu
  simp only [flat, List.mem_flatMap, List.mem_cons, List.not_mem_nil, or_false] at hu
  obtain ⟨h, _, rfl | rfl⟩ := hu <;> rfl
theorem flat_get (H : List (Int × Int)) (i : Nat) (hi : i < H.length) : (flat H)[i * 2]? = some (.int .i64 (at0 H i)) ∧ (flat H)[i * 2 + 1]? = some (.int .i64 (at1 H i)) := by
  induction H generalizing i with
  | nil => cases hi
  | cons h t ih =>
    have e : flat (h :: t) = .int .i64 h.1 :: .int .i64 h.2 :: flat t := by simp [flat]
    rw [e]
    cases i with
    | zero => exact ⟨rfl, rfl⟩
    | succ i =>
      have := ih i (by simpa using hi)
      have e1 : (i + 1) * 2 = i * 2 + 1 + 1 := by omega
      rw [e1]
      simpa [at0, at1] using this

theorem hol_len (ps : List (Int × Int)) : ∀ (f : Nat) (a l : Int), (hol ps f a l).length ≤ 2 ^ f
  | 0, a, l => by unfold hol; split <;> simp
  | f + 1, a, l => by
    unfold hol
    have h1 := hol_len ps f a (l + 1)
    have h2 := hol_len ps f (a + sp (l + 1)) (l + 1)
    have h3 : 0 < 2 ^ f := Nat.pow_pos (by omega)
    rw [Nat.pow_succ]
    split
    · split
      · simp
      · rw [List.length_append]; omega
    · simp only [List.length_cons, List.length_nil]; omega

theorem own_row {β : Type} {B base : Nat} {e : TypeId} {size : Nat} {v : Value} {n : Nat} {xs : List Value} : OwnFrom B (fun (_ : β) W => W.ownsRow base e size v n xs) :=
  fun _ X Y row hs hg hr => ⟨hs.1, hs.2.imp id (fun ⟨g, cap, cur, h1, h2, h3, h4⟩ => ⟨g, cap, cur, h1, h2, (hg.block g (Array.getElem?_eq_some_iff.1 h3).1 (fun e => by
    obtain ⟨o, ho, hc⟩ := (hr g e.symm).2
    rw [h3] at ho
    cases ho
    cases hc)).trans h3, h4⟩)⟩

/-- What an owned row holds, as a slice of prefixes. -/
theorem PS.of_own {w : World} {base : Nat} {v : Value} {H : List (Int × Int)} (h : w.ownsRow base 23 2 v H.length (flat H)) : ∃ x c, v = .slice x H.length c ∧ PS w x H.length H ∧ (∀ q, x = some q → base ≤ q.block ∧ q.block < w.heap.size) ∧ H.length ≤ c ∧ c ≤ 9223372036854775807 := by
  rcases h.2 with ⟨rfl, h0⟩ | ⟨g, cap, cur, rfl, hb, hg, hn, hc, hs, ht⟩
  · refine ⟨none, 0, by rw [h0], ⟨rfl, fun i hi => ?_⟩, (fun q hq => by cases hq), by omega, by omega⟩
    omega
  · refine ⟨some ⟨g, 0, none⟩, cap, rfl, ⟨rfl, fun i hi => ⟨g, 0, rfl, ?_, ?_⟩⟩, fun q hq => by cases hq; exact ⟨hb, (Array.getElem?_eq_some_iff.1 hg).1⟩, hn, by unfold maxLen at hc; omega⟩
    · have h1 := (flat_get H i hi).1
      rw [← ht, List.getElem?_take_of_lt (by omega)] at h1
      simp only [World.cell?, hg, Nat.zero_add]
      rw [← h1]
      simp
    · have h1 := (flat_get H i hi).2
      rw [← ht, List.getElem?_take_of_lt (by omega)] at h1
      simp only [World.cell?, hg, Nat.zero_add]
      rw [← h1]
      simp

theorem info_prefix : (Try.prog.info? 23).map (fun i => (i.zero, i.size, i.bytes)) = some (some (.agg #[.int .i64 0, .int .i64 0]), 2, 16) := by kernel_rfl
theorem info_prefix' : ∃ i, Try.prog.info? 23 = some i ∧ i.zero = some (.agg #[.int .i64 0, .int .i64 0]) ∧ i.size = 2 ∧ i.bytes = 16 := by
  obtain ⟨i, hi, h⟩ := Option.map_eq_some_iff.1 info_prefix
  simp only [Prod.mk.injEq] at h
  exact ⟨i, hi, h.1, h.2.1, h.2.2⟩
theorem under_prefixes : Try.prog.underlying 24 = some (.slice 23) := by kernel_rfl

set_option maxRecDepth 100000 in
set_option maxHeartbeats 2000000 in
theorem appendSeq_any (a l : Int) (x : Option Addr) (n c : Nat) (ps : List (Int × Int)) (hr : rt a l = true) (hn : n ≤ 64) (pb ub m : Nat) (w : World)
    (p0 : w.cell? ⟨pb, 0, none⟩ = some (.int .i64 a)) (p1 : w.cell? ⟨pb, 1, none⟩ = some (.int .i64 l)) (u0 : w.heap[ub]? = some (.cells #[.slice x n c] 24)) (hp : PS w x n ps) :
    CallsIn Fence.wide m Try.prog 45 #[.slice none 0 0, .func (.func 46) #[] #[.pointer (some ⟨pb, 0, none⟩), .pointer (some ⟨ub, 0, none⟩)]] w fun e w' =>
      ∃ v, e = .returned v ∧ Below w.heap.size w w' ∧ w'.ownsRow w.heap.size 23 2 v (hol ps (16 - l).toNat a l).length (flat (hol ps (16 - l).toNat a l)) := by
  obtain ⟨i0, hi, hz0, hz1, hz2⟩ := info_prefix'
  obtain ⟨l0, l1, -, -, -⟩ := rt_range hr
  have hlen : (hol ps (16 - l).toNat a l).length ≤ 65536 := Nat.le_trans (hol_len ps _ a l) (Nat.le_trans (Nat.pow_le_pow_right (by omega) (show (16 - l).toNat ≤ 16 by omega)) (by decide))
  have hx : 0 < n → ∀ q, x = some q → q.block < w.heap.size := fun h0 q hq => by
    obtain ⟨b, o, hb, c0, _⟩ := hp.cells 0 h0
    rw [hb] at hq
    cases hq
    exact block_lt_of_cell c0
  have hB1 := bl1 w (.cells #[.slice none 0 0] 24)
  have hub : ub < w.heap.size := (Array.getElem?_eq_some_iff.1 u0).1
  refine callsIn_of_wp_marks Try.func45 rfl trivial ?_ rfl
  simp only [Try.ntmps45, List.size_toArray, List.length_cons, List.length_nil, Nat.reduceAdd, Nat.reduceSub, Array.replicate_succ, Array.replicate_zero, List.push_toArray, List.append_toArray, List.nil_append, List.cons_append]
  gi_wp2_with fail
  refine wpIn_rangeFunc_B (h := 5) (T := TH w.heap.size) (n₀ := w.heap.size) (L := []) rfl rfl (gf := 46) (lb := #[.pointer (some ⟨pb, 0, none⟩), .pointer (some ⟨ub, 0, none⟩)]) rfl trivial call_holes1
    (hol_seq w.heap.size x n c ps hn hx (16 - l).toNat a l hr (by omega) _ _ _ _ (cell_later hB1 p0) (cell_later hB1 p1) (heap_old _ u0) (by omega) (by simp) (hp.later hB1)) (by simp) (by simp; omega) (fun k hk => (by cases hk))
    (fun pre V => ∃ v, V.heap[w.heap.size]? = some (.cells #[v] 24) ∧ V.ownsRow (w.heap.size + 1) 23 2 v pre.length (flat pre) ∧ Below w.heap.size w V)
    (fun _ _ => False)
    (fun s X Y row hs hg hr' => by
      obtain ⟨v, h1, h2, h3⟩ := hs
      exact ⟨v, keeps_at hg hr' (by simp) h1, own_row () X Y row h2 hg hr', own_below (by simp) () X Y row h3 hg hr'⟩)
    (fun s X Y row hs hg hr' => hs.elim)
    ⟨.slice none 0 0, World.alloc_heap_new w _, World.ownsRow_nil _ _ _ _, hB1⟩ ?assign ?body ?done ?stop
  case assign =>
    intro l' x' V K hK
    simp only [enc2, List.setIfInBounds_toArray, List.set_cons_succ, List.set_cons_zero] at hK ⊢
    gi_wp2_with fail
    exact hK _ _ (bl1 V _) (Nat.le_refl _) (by simp) (by simp)
  case body =>
    rintro l' pre x' Bx V hl' hsp ⟨v, g1, hown, hb⟩ d0 d1
    have hV := hb.size
    have hpl : (pre ++ [x']).length ≤ 65536 := Nat.le_trans hsp.length_le hlen
    rw [List.length_append, List.length_singleton] at hpl
    obtain ⟨f0, z0⟩ := box1 g1
    simp only [enc2, List.setIfInBounds_toArray, List.set_cons_succ, List.set_cons_zero]
    have hVb : w.heap.size < V.heap.size := (Array.getElem?_eq_some_iff.1 g1).1
    gi_wp2_with (gi_at_builtin; refine Hid.out ?_)
    unfold Hid
    refine wpListIn_append_own _ rfl _ _ 24 rfl (w.heap.size + 1) 23 i0 (.agg #[.int .i64 0, .int .i64 0]) 2 16 under_prefixes hi hz0 hz1 hz2 rfl (by decide) _ _ _ rfl (hown.alloc _) ⟨V.heap.size, 0, none⟩ 1 1 [.int .i64 x'.1, .int .i64 x'.2] rfl rfl ?_ (by simp [Value.oneCell']) (by unfold maxLen; omega) (by omega) (by simp; omega) ?_
    · intro j u hj
      rcases j with _ | _ | j
      · simp at hj; subst hj; simp [Addr.add]
      · simp at hj; subst hj; simp [Addr.add]
      · simp at hj
    · intro v' w1 hown' hgrow' _
      have hgrow : (V.alloc (.cells #[.int .i64 x'.1, .int .i64 x'.2] 23)).grownBy w1 v.ownBlock := hgrow'
      clear hgrow'
      have hvN : v.ownBlock ≠ some w.heap.size := fun e => by have := (hown.lt _ e).1; omega
      have hvN' : v'.ownBlock ≠ some w.heap.size := fun e => by have := (hown'.lt _ e).1; omega
      have e1 : w1.heap[w.heap.size]? = some (.cells #[v] 24) := (hgrow.block _ (by simp; omega) (fun e => hvN e.symm)).trans (heap_old _ g1)
      have hsz := hgrow.size
      rw [World.size_alloc] at hsz
      clear f0 z0
      obtain ⟨f0, z0⟩ := box1 e1
      obtain ⟨xv, nv, cv, rfl⟩ : ∃ xv nv cv, v' = .slice xv nv cv := by rcases hown'.2 with ⟨rfl, _⟩ | ⟨g, cap, cur, rfl, _⟩ <;> exact ⟨_, _, _, rfl⟩
      gi_wp2_with fail
      refine ⟨⟨hgrow.os, hgrow.tape, hgrow.output, by simp; omega, fun k o _ ho hq => ?_⟩, _, one_setCell e1, ?_, ?_⟩
      · have hk := (Array.getElem?_eq_some_iff.1 ho).1
        have nN : k ≠ w.heap.size := by
          rintro rfl
          rw [g1] at ho
          cases ho
          rcases hq with h | h | ⟨h, _⟩
          · omega
          · cases h
          · omega
        rw [heap_setCell_other _ _ _ _ nN]
        refine (hgrow.block k (by simp; omega) (fun e => ?_)).trans (heap_old _ ho)
        rcases hown.2 with ⟨rfl, _⟩ | ⟨g, cap, cur, rfl, hbg, hg, _⟩
        · cases e
        · simp only [Value.ownBlock, Option.some.injEq] at e
          subst e
          rw [hg] at ho
          cases ho
          rcases hq with h | h | ⟨_, u, h | h⟩
          · omega
          · cases h
          · cases h
          · cases h
      · rw [List.length_append, List.length_singleton, flat_append]
        exact ownsRow_setCell_other hown' hvN' _
      · refine Below.setCell (p := ⟨w.heap.size, 0, none⟩) ?_ (Nat.le_refl _) _
        refine ⟨hgrow.os.trans hb.os, hgrow.tape.trans hb.tape, hgrow.output.trans hb.output, by omega, fun k hk => ?_⟩
        replace hk : k < w.heap.size := hk
        exact ((hgrow.block k (by simp; omega) (fun e => by have := (hown.lt _ e.symm).1; omega)).trans (Below.heap_alloc _ _ _ (by omega))).trans (hb.block k hk)
  case done =>
    rintro D xs V hD rfl ⟨v, g1, hown, hb⟩ hkl hdef
    have hV := hb.size
    obtain ⟨f0, z0⟩ := box1 g1
    gi_wp2_with fail
    refine ⟨by simp, .inl ⟨_, _, rfl, run_takeDeferred hdef, ?_⟩⟩
    refine ⟨v, by simp [results, Try.results45, go_sem], v, rfl, below_put hb (by simp at hD; omega) _, ?_⟩
    have h1 := OwnFrom.putObj (B := 0) (own_row (β := Unit)) (s := ()) (.deferred none) hown (Nat.zero_le _) hdef rfl
    exact ⟨h1.1, h1.2.imp id (fun ⟨g, cap, cur, e1, e2, e3⟩ => ⟨g, cap, cur, e1, by omega, e3⟩)⟩
  case stop =>
    rintro D pre V hD hpre hj hkl hdef
    exact hj.elim

set_option maxRecDepth 20000 in
theorem collect_any (a l : Int) (x : Option Addr) (n c : Nat) (ps : List (Int × Int)) (hr : rt a l = true) (hn : n ≤ 64) (pb ub : Nat) (w : World)
    (p0 : w.cell? ⟨pb, 0, none⟩ = some (.int .i64 a)) (p1 : w.cell? ⟨pb, 1, none⟩ = some (.int .i64 l)) (u0 : w.heap[ub]? = some (.cells #[.slice x n c] 24)) (hp : PS w x n ps) :
    Calls Try.prog 26 #[.func (.func 46) #[] #[.pointer (some ⟨pb, 0, none⟩), .pointer (some ⟨ub, 0, none⟩)]] w fun e w' =>
      ∃ x' c', e = .returned (.slice x' (hol ps (16 - l).toNat a l).length c') ∧ Below w.heap.size w w' ∧ PS w' x' (hol ps (16 - l).toNat a l).length (hol ps (16 - l).toNat a l) := by
  go_enter Try.func26, Try.ntmps26
  go_wp2_with (go_at_call 45; refine (callsIn_wide.1 (appendSeq_any a l x n c ps hr hn pb ub 0 _ p0 p1 u0 hp)).mono ?_; rintro e w1 ⟨v, rfl, hb1, hown⟩)
  go_ret
  obtain ⟨x', c', rfl, hps, _⟩ := PS.of_own hown
  exact ⟨x', c', rfl, hb1, hps⟩
end Go.Proofs.Ytbnkgecblaffeaa
