/- What the iterator of holes comes to where the prefix is parted. -/
import Derived.Test.YtbnkgecblaffeaaR
import Derived.Test.YtbnkgecblaffeaaH
namespace Go.Proofs.Ytbnkgecblaffeaa
open Go.RowKit Go.Shelf
attribute [local go_sem] Oper.semAt_some

theorem PS.keeps {w w' : World} {x : Option Addr} {n n₀ : Nat} {ps : List (Int × Int)} (h : PS w x n ps) (hk : ∀ k o, k < n₀ → w.heap[k]? = some o → w'.heap[k]? = some o) (hx : 0 < n → ∀ q, x = some q → q.block < n₀) : PS w' x n ps where
  len := h.len
  cells := fun i hi => by
    obtain ⟨b, o, hb, c0, c1⟩ := h.cells i hi
    have hlt : b < n₀ := hx (by omega) _ hb
    have hs : b < w.heap.size := block_lt_of_cell c0
    have e : w'.heap[b]? = w.heap[b]? := by
      have e : w.heap[b]? = some w.heap[b] := Array.getElem?_eq_some_iff.2 ⟨hs, rfl⟩
      rw [hk b _ hlt e, e]
    exact ⟨b, o, hb, by rw [← c0]; simp [World.cell?, e], by rw [← c1]; simp [World.cell?, e]⟩
theorem own_block {β : Type} {B D : Nat} {o : Obj} (h : D < B) : OwnFrom B (fun (_ : β) W => W.heap[D]? = some o) :=
  fun _ _ _ _ hs hg hr => keeps_at hg hr h hs
theorem round_any {k k' l' : Nat} {P : Program} {yl : Nat} {fn : FuncId} {tmps : Array Value} {assign body : Code} {V : World} {R : Ending → World → Prop} (h : RoundIn Fence.wide k P yl fn tmps assign body V R) : RoundIn (Fence.wide.inRound l') k' P yl fn tmps assign body V R :=
  ⟨h.1, fun c cs _ => h.2 c cs (fun d h => by cases h)⟩
theorem index_0 (p q r s : Value) (W : World) : Sem.run Try.prog (Instr.index 67 (.agg #[p, q, r, s]) (.int .i64 0)) W = .ok (.agg #[p, q]) W := by kernel_rfl
theorem index_1 (p q r s : Value) (W : World) : Sem.run Try.prog (Instr.index 67 (.agg #[p, q, r, s]) (.int .i64 1)) W = .ok (.agg #[r, s]) W := by kernel_rfl

theorem three_boxes (W : World) (o : Obj) (a l : Int) (x : Option Addr) (n c : Nat) : ∃ V, V = ((W.alloc o).alloc (.cells #[.int .i64 a, .int .i64 l] 23)).alloc (.cells #[.slice x n c] 24) ∧ Below W.heap.size W V ∧
    V.cell? ⟨W.heap.size + 1, 0, none⟩ = some (.int .i64 a) ∧ V.cell? ⟨W.heap.size + 1, 1, none⟩ = some (.int .i64 l) ∧ V.heap[W.heap.size + 1 + 1]? = some (.cells #[.slice x n c] 24) ∧ V.heap.size = W.heap.size + 3 := by
  refine ⟨_, rfl, (bl2 W _ _).alloc (by simp; omega) _, ?_, ?_, ?_, by simp⟩
  · have h1 : ((W.alloc o).alloc (.cells #[.int .i64 a, .int .i64 l] 23)).cell? ⟨(W.alloc o).heap.size, 0, none⟩ = some (.int .i64 a) := by simp
    rw [World.size_alloc] at h1
    exact cell_later (bl1 _ _) h1
  · have h1 : ((W.alloc o).alloc (.cells #[.int .i64 a, .int .i64 l] 23)).cell? ⟨(W.alloc o).heap.size, 1, none⟩ = some (.int .i64 l) := by simp
    rw [World.size_alloc] at h1
    exact cell_later (bl1 _ _) h1
  · have h1 := World.alloc_heap_new ((W.alloc o).alloc (.cells #[.int .i64 a, .int .i64 l] 23)) (.cells #[.slice x n c] 24)
    rwa [World.size_alloc, World.size_alloc] at h1

/-- The iterator of a prefix, f levels up from the deepest. -/
def HolSeq (n₀ : Nat) (x : Option Addr) (n c : Nat) (ps : List (Int × Int)) (f : Nat) : Prop :=
  ∀ (a l : Int), rt a l = true → (f : Int) = 16 - l → ∀ (m : Nat) (w : World) (pb ub : Nat),
    w.cell? ⟨pb, 0, none⟩ = some (.int .i64 a) → w.cell? ⟨pb, 1, none⟩ = some (.int .i64 l) → w.heap[ub]? = some (.cells #[.slice x n c] 24) → ub ≠ n₀ → n₀ < w.heap.size → PS w x n ps →
    SeqL (TH n₀) n₀ ub Fence.wide m Try.prog 46 #[.pointer (some ⟨pb, 0, none⟩), .pointer (some ⟨ub, 0, none⟩)] (fun x => #[enc2 x]) (fun xs => xs = hol ps f a l) (fun pre => pre <+: hol ps f a l) w

set_option maxRecDepth 100000 in
set_option maxHeartbeats 2000000 in
theorem holes1_parts (n₀ : Nat) (x : Option Addr) (n c : Nat) (ps : List (Int × Int)) (hn : n ≤ 64) (hx : 0 < n → ∀ q, x = some q → q.block < n₀) (f : Nat) (ih : HolSeq n₀ x n c ps f) (a l : Int) (hm : mtsAny a l ps = true) (hi : insAny a l ps = false) (hr : rt a l = true) (hf : ((f + 1 : Nat) : Int) = 16 - l) (m : Nat) (w : World) (pb ub : Nat)
    (p0 : w.cell? ⟨pb, 0, none⟩ = some (.int .i64 a)) (p1 : w.cell? ⟨pb, 1, none⟩ = some (.int .i64 l)) (u0 : w.heap[ub]? = some (.cells #[.slice x n c] 24)) (hub : ub ≠ n₀) (hn₀ : n₀ < w.heap.size) (hp : PS w x n ps) :
    SeqL (TH n₀) n₀ ub Fence.wide m Try.prog 46 #[.pointer (some ⟨pb, 0, none⟩), .pointer (some ⟨ub, 0, none⟩)] (fun x => #[enc2 x]) (fun xs => xs = hol ps (f + 1) a l) (fun pre => pre <+: hol ps (f + 1) a l) w := by
  have hh : hol ps (f + 1) a l = hol ps f a (l + 1) ++ hol ps f (a + sp (l + 1)) (l + 1) := by simp [hol, hm, hi]
  have h16 : l < 16 := by omega
  rw [hh]
  clear hh
  intro yl L J Jx W hW hJ hJx hL hY h0
  have HY : Hid (∀ pre x W1, pre ++ [x] <+: hol ps f a (l + 1) ++ hol ps f (a + sp (l + 1)) (l + 1) → J pre W1 → YieldAt Fence.wide (m - 1) Try.prog yl #[enc2 x] W1 fun e W' => Kl (TH n₀) n₀ L W1 W' ∧ ((e = .returned (.bool true) ∧ J (pre ++ [x]) W') ∨ (e = .returned (.bool false) ∧ Jx (pre ++ [x]) W'))) := hY
  have q0 := cell_later hW p0
  have q1 := cell_later hW p1
  have hub' : ub < w.heap.size := (Array.getElem?_eq_some_iff.1 u0).1
  have v0 : W.heap[ub]? = some (.cells #[.slice x n c] 24) := (hW.block ub hub').trans u0
  have vc : W.cell? ⟨ub, 0, none⟩ = some (.slice x n c) := by simp [World.cell?, v0]
  have hnW : n₀ < W.heap.size := Nat.lt_of_lt_of_le hn₀ hW.size
  have hp' := hp.later hW
  clear hY p0 p1 u0 hp
  have k0 : ∀ q, (W.alloc q).cell? ⟨pb, 0, none⟩ = some (.int .i64 a) := fun q => cell_later (bl1 W q) q0
  have k1 : ∀ q, (W.alloc q).cell? ⟨pb, 1, none⟩ = some (.int .i64 l) := fun q => cell_later (bl1 W q) q1
  have k2 : ∀ q, (W.alloc q).cell? ⟨ub, 0, none⟩ = some (.slice x n c) := fun q => cell_later (bl1 W q) vc
  refine callsIn_of_wp_marks Try.func46 rfl trivial ?_ rfl
  simp only [Try.ntmps46, List.size_toArray, List.length_cons, List.length_nil, Nat.reduceAdd, Nat.reduceSub, Array.replicate_succ, Array.replicate_zero, List.push_toArray, List.append_toArray, List.nil_append, List.cons_append]
  gi_wp2_with fail
  refine ⟨trivial, (fun h => (by cases h)), ?_⟩
  refine (callsIn_wide.2 (meetsU_any a l x n c ps _ (hp'.later (bl1 W _)) hn)).mono ?_
  rintro e w1 ⟨rfl, hb1⟩
  have hB : Below W.heap.size W w1 := (bl1 W _).trans (hb1.mono (by simp))
  have y0 : w1.heap[W.heap.size]? = some (.cells #[.func (.yield yl) #[] #[]] 49) := (hb1.block _ (by simp)).trans (World.alloc_heap_new W _)
  have r0 := cell_later hB q0
  have r1 := cell_later hB q1
  have v1 := cell_later hB vc
  have hl := hp'.len
  clear k0 k1 k2
  rw [hm]
  gi_wp2_with fail
  refine ⟨trivial, (fun h => (by cases h)), ?_⟩
  refine (callsIn_wide.2 (containsFunc_any 48 _ x n c ps _ _ (hp'.later hB) hn (inside_fn a l pb n ps _ r0 r1) call_in1)).mono ?_
  rintro e w2 ⟨rfl, hb2⟩
  have hC : Below W.heap.size W w2 := hB.trans (hb2.mono hB.size)
  have y2 : w2.heap[W.heap.size]? = _ := (hb2.block _ (Array.getElem?_eq_some_iff.1 y0).1).trans y0
  have hi' : anyAt n (fun i => ins a l (at0 ps i) (at1 ps i)) = false := by rw [← hl]; exact hi
  rw [hi']
  have z0 := cell_later hC q0
  have z1 := cell_later hC q1
  gi_wp2_with fail
  refine ⟨trivial, (fun h => (by cases h)), ?_⟩
  refine (callsIn_wide.2 (halves_ok a l _ hr h16)).mono ?_
  rintro e w3 ⟨rfl, hb3⟩
  have y3 : w3.heap[W.heap.size]? = _ := (hb3.block _ (Array.getElem?_eq_some_iff.1 y2).1).trans y2
  have hD : Below W.heap.size W w3 := hC.trans (hb3.mono hC.size)
  clear hb1 hb2 hb3 y0 y2 r0 r1 z0 z1 v1
  gi_wp2_with fail
  have hE : Below W.heap.size W ((w3.alloc (.cells #[.int .i64 a, .int .i64 (l + 1)] 23)).alloc (.cells #[.int .i64 (a + sp (l + 1)), .int .i64 (l + 1)] 23)) := hD.trans ((bl2 w3 _ _).mono hD.size)
  have y4 : ((w3.alloc (.cells #[.int .i64 a, .int .i64 (l + 1)] 23)).alloc (.cells #[.int .i64 (a + sp (l + 1)), .int .i64 (l + 1)] 23)).heap[W.heap.size]? = _ := ((bl2 w3 _ _).block _ (Array.getElem?_eq_some_iff.1 y3).1).trans y3
  generalize ((w3.alloc (.cells #[.int .i64 a, .int .i64 (l + 1)] 23)).alloc (.cells #[.int .i64 (a + sp (l + 1)), .int .i64 (l + 1)] 23)) = W4 at hE y4 ⊢
  clear hD y3 hB hC
  have v4 := cell_later hE vc
  have kv : ∀ q, (W4.alloc q).cell? ⟨ub, 0, none⟩ = some (.slice x n c) := fun q => cell_later (bl1 W4 q) v4
  refine wpIn_loop_three ?_
  gi_wp2_with fail
  rw [index_0]
  gi_wp2_with fail
  refine ⟨trivial, (fun h => (by cases h)), ?_⟩
  refine (holes_is a (l + 1) x n c _ _).mono ?_
  rintro e w5 ⟨rfl, hw5⟩
  obtain ⟨W5, hW5, b5, c50, c51, u5, s5⟩ := three_boxes W4 (.cells #[.int .i64 a, .int .i64 (l + 1)] 23) a (l + 1) x n c
  rw [← hW5] at hw5
  subst hw5
  clear hW5
  gi_wp2_with fail
  have hz4 := hE.size
  have hKW : Kl (TH n₀) n₀ L W W4 := Kl.of_below hE
  have hTy : ∀ {V : World}, Kl (TH n₀) n₀ L W4 V → V.heap[W.heap.size]? = some (.cells #[.func (.yield yl) #[] #[]] 49) := fun hk =>
    hk.same _ _ (fun hm => by have := (hL _ hm).2.1; omega) y4 (.inr (.inr ⟨hnW, _, .inr rfl⟩))
  have v4b : W4.heap[ub]? = some (.cells #[.slice x n c] 24) := (hE.block ub (Nat.lt_of_lt_of_le hub' hW.size)).trans v0
  have hTu : ∀ {V : World}, Kl (TH n₀) n₀ L W4 V → V.heap[ub]? = some (.cells #[.slice x n c] 24) := fun hk =>
    hk.same _ _ (fun hm => (hL _ hm).2.2 rfl) v4b (by rcases Nat.lt_or_gt_of_ne hub with h | h; exact .inl h; exact .inr (.inr ⟨h, _, .inl rfl⟩))
  have hTp : ∀ {V : World}, Kl (TH n₀) n₀ L W4 V → PS V x n ps := fun hk => (hp'.later hE).keeps (fun k o hkn ho => hk.same k o (fun hm => by have := (hL _ hm).1; omega) ho (.inl hkn)) hx
  refine wpIn_rangeFunc_B (h := 9) (T := TH n₀) (n₀ := n₀) (L := L) rfl rfl (gf := 46) (lb := #[.pointer (some ⟨W4.heap.size + 1, 0, none⟩), .pointer (some ⟨W4.heap.size + 1 + 1, 0, none⟩)]) rfl trivial call_holes1
    (ih a (l + 1) (rt_low hr h16) (by omega) _ w5 _ _ c50 c51 u5 (by omega) (by omega) ((hp'.later hE).later b5)) (by omega) (by omega) (fun k hk => ⟨(hL k hk).1, by have := (hL k hk).2; omega, by have := (hL k hk).2; omega⟩)
    (fun pre V => J (pre) V ∧ Kl (TH n₀) n₀ L W4 V) (fun pre V => Jx (pre) V ∧ Kl (TH n₀) n₀ L W4 V)
    (own_and (own_mono hJ (by omega)) (own_kl (by omega))) (own_and (own_mono hJx (by omega)) (own_kl (by omega)))
    ⟨OwnFrom.later hJ (OwnFrom.later hJ h0 hE) b5, Kl.of_below b5⟩ ?assign ?body ?done ?stop
  case assign =>
    intro l' x' V K hK
    simp only [enc2, List.setIfInBounds_toArray, List.set_cons_succ, List.set_cons_zero] at hK ⊢
    gi_wp2_with fail
    exact hK _ _ (bl1 V _) (Nat.le_refl _) (by simp) (by simp)
  case body =>
    rintro l' pre x' Bx V hl' hsp ⟨hj, hk⟩ c0 c1
    have hy := hTy hk
    have hyc : V.cell? ⟨W.heap.size, 0, none⟩ = some (.func (.yield yl) #[] #[]) := by simp [World.cell?, hy]
    obtain ⟨fn, tmps, assign, body, hyy, hR⟩ := HY.out _ x' V (hsp.trans (List.prefix_append _ _)) hj
    simp only [enc2, List.setIfInBounds_toArray, List.set_cons_succ, List.set_cons_zero] at hyy ⊢
    gi_wp2_with fail
    refine ⟨(fun h => (by cases h)), ?_⟩
    refine (round_any hR).mono ?_
    rintro e V2 ⟨hk2, (⟨rfl, hj2⟩ | ⟨rfl, hj2⟩)⟩
    · gi_wp2_with fail
      exact ⟨hk2, hj2, hk.trans hk2⟩
    · gi_wp2_with fail
      exact ⟨hk2, hj2, hk.trans hk2⟩
  case stop =>
    rintro D pre V hD hpre ⟨hj, hk⟩ hkl hdef
    gi_wp2_with fail
    refine ⟨by simp, .inl ⟨_, _, rfl, run_takeDeferred hdef, ?_⟩⟩
    refine ⟨_, results_none rfl _ _ _, ?_⟩
    exact ⟨⟨_, rfl⟩, (hKW.trans hk).putNew _ _ (by omega), .inr ⟨pre, hpre.trans (List.prefix_append _ _), hJx.putObj _ hj (by omega) hdef rfl⟩⟩
  case done =>
    rintro D xs V hD rfl ⟨hj, hk⟩ hkl hdef
    have vV : V.cell? ⟨ub, 0, none⟩ = some (.slice x n c) := by simp [World.cell?, hTu hk]
    have kv : ∀ q, (V.alloc q).cell? ⟨ub, 0, none⟩ = some (.slice x n c) := fun q => cell_later (bl1 V q) vV
    have hV := hkl.size
    clear c50 c51 u5 hkl
    gi_wp2_with fail
    rw [index_1]
    gi_wp2_with fail
    refine ⟨trivial, (fun h => (by cases h)), ?_⟩
    refine (holes_is (a + sp (l + 1)) (l + 1) x n c _ _).mono ?_
    rintro e w6 ⟨rfl, hw6⟩
    obtain ⟨W6, hW6, b6, c60, c61, u6, s6⟩ := three_boxes V (.cells #[.int .i64 (a + sp (l + 1)), .int .i64 (l + 1)] 23) (a + sp (l + 1)) (l + 1) x n c
    rw [← hW6] at hw6
    subst hw6
    clear hW6
    have hdef6 : w6.heap[D]? = some (.deferred (some [])) := (b6.block D (Array.getElem?_eq_some_iff.1 hdef).1).trans hdef
    have hk6 : Kl (TH n₀) n₀ L W4 w6 := hk.trans (Kl.of_below b6)
    gi_wp2_with fail
    have hDlt : D < w6.heap.size := (Array.getElem?_eq_some_iff.1 hdef6).1
    refine wpIn_rangeFunc_B (h := 9) (T := TH n₀) (n₀ := n₀) (L := L) rfl rfl (gf := 46) (lb := #[.pointer (some ⟨V.heap.size + 1, 0, none⟩), .pointer (some ⟨V.heap.size + 1 + 1, 0, none⟩)]) rfl trivial call_holes1
      (ih (a + sp (l + 1)) (l + 1) (rt_high hr h16) (by omega) _ w6 _ _ c60 c61 u6 (by omega) (by omega) ((hTp hk).later b6)) (by omega) (by omega) (fun k hk => ⟨(hL k hk).1, by have := (hL k hk).2; omega, by have := (hL k hk).2; omega⟩)
      (fun pre V => J (hol ps f a (l + 1) ++ pre) V ∧ Kl (TH n₀) n₀ L W4 V ∧ V.heap[D]? = some (.deferred (some []))) (fun pre V => Jx (hol ps f a (l + 1) ++ pre) V ∧ Kl (TH n₀) n₀ L W4 V ∧ V.heap[D]? = some (.deferred (some [])))
      (own_and (own_map (own_mono hJ (by omega)) _) (own_and (own_kl (by omega)) (own_block hDlt))) (own_and (own_map (own_mono hJx (by omega)) _) (own_and (own_kl (by omega)) (own_block hDlt)))
      ⟨by rw [List.append_nil]; exact OwnFrom.later hJ hj b6, hk6, hdef6⟩ ?assign ?body ?done ?stop
    case assign =>
      intro l' x' V3 K hK
      simp only [enc2, List.setIfInBounds_toArray, List.set_cons_succ, List.set_cons_zero] at hK ⊢
      gi_wp2_with fail
      exact hK _ _ (bl1 V3 _) (Nat.le_refl _) (by simp) (by simp)
    case body =>
      rintro l' pre x' Bx V3 hl' hsp ⟨hj, hk, hD2⟩ c0 c1
      have hy := hTy hk
      have hyc : V3.cell? ⟨W.heap.size, 0, none⟩ = some (.func (.yield yl) #[] #[]) := by simp [World.cell?, hy]
      obtain ⟨fn, tmps, assign, body, hyy, hR⟩ := HY.out _ x' V3 (by rw [List.append_assoc]; exact (List.prefix_append_right_inj _).2 hsp) hj
      simp only [enc2, List.setIfInBounds_toArray, List.set_cons_succ, List.set_cons_zero] at hyy ⊢
      gi_wp2_with fail
      refine ⟨(fun h => (by cases h)), ?_⟩
      refine (round_any hR).mono ?_
      rintro e V2 ⟨hk2, (⟨rfl, hj2⟩ | ⟨rfl, hj2⟩)⟩
      · gi_wp2_with fail
        exact ⟨hk2, by rw [← List.append_assoc]; exact hj2, hk.trans hk2, hk2.same _ _ (fun hm => by have := (hL _ hm).2.1; omega) hD2 (.inr (.inl rfl))⟩
      · gi_wp2_with fail
        exact ⟨hk2, by rw [← List.append_assoc]; exact hj2, hk.trans hk2, hk2.same _ _ (fun hm => by have := (hL _ hm).2.1; omega) hD2 (.inr (.inl rfl))⟩
    case stop =>
      rintro D2 pre V3 hD2 hpre ⟨hj3, hk3, hD3⟩ hkl hdef2
      gi_wp2_with fail
      have hDne : D2 ≠ D := by omega
      refine ⟨by simp, .inl ⟨_, _, rfl, run_takeDeferred hdef2, ?_⟩⟩
      refine ⟨by simp, .inl ⟨_, _, rfl, run_takeDeferred ((World.putObj_heap_other hDne.symm).trans hD3), ?_⟩⟩
      refine ⟨_, results_none rfl _ _ _, ?_⟩
      exact ⟨⟨_, rfl⟩, ((hKW.trans hk3).putNew _ _ (by omega)).putNew _ _ (by omega), .inr ⟨_, (List.prefix_append_right_inj _).2 hpre, hJx.putObj _ (hJx.putObj _ hj3 (by omega) hdef2 rfl) (by omega) ((World.putObj_heap_other hDne.symm).trans hD3) rfl⟩⟩
    case done =>
      rintro D2 xs V3 hD2 rfl ⟨hj3, hk3, hD3⟩ hkl hdef2
      have hDne : D2 ≠ D := by omega
      gi_wp2_with fail
      refine ⟨by simp, .inl ⟨_, _, rfl, run_takeDeferred hdef2, ?_⟩⟩
      refine ⟨by simp, .inl ⟨_, _, rfl, run_takeDeferred ((World.putObj_heap_other hDne.symm).trans hD3), ?_⟩⟩
      refine ⟨_, results_none rfl _ _ _, ?_⟩
      exact ⟨⟨_, rfl⟩, ((hKW.trans hk3).putNew _ _ (by omega)).putNew _ _ (by omega), .inl ⟨_, rfl, hJ.putObj _ (hJ.putObj _ hj3 (by omega) hdef2 rfl) (by omega) ((World.putObj_heap_other hDne.symm).trans hD3) rfl⟩⟩

theorem in_of_mts {a : Int} {ps : List (Int × Int)} (h : mtsAny a 16 ps = true) : insAny a 16 ps = true := by
  obtain ⟨u, hu, hm⟩ := mtsAny_iff.1 h
  have n := mts_nums hm
  rcases mts_ins hm with h1 | h1
  · exact insAny_iff.2 ⟨u, hu, h1⟩
  · have n1 := ins_nums h1
    have := (rt_range n.2.1).2.1
    refine insAny_iff.2 ⟨u, hu, ins_of n.1 n.2.1 ?_ ?_⟩
    · have e : u.2 = 16 := by omega
      rw [e] at n1; omega
    · have e : u.2 = 16 := by omega
      rw [e] at n1 ⊢; omega

/-- The iterator gives the holes, rising. -/
theorem hol_seq (n₀ : Nat) (x : Option Addr) (n c : Nat) (ps : List (Int × Int)) (hn : n ≤ 64) (hx : 0 < n → ∀ q, x = some q → q.block < n₀) : ∀ f, HolSeq n₀ x n c ps f
  | 0 => fun a l hr hf m w pb ub p0 p1 u0 hub hn₀ hp => by
    have u1 : w.cell? ⟨ub, 0, none⟩ = some (.slice x n c) := by simp [World.cell?, u0]
    cases hm : mtsAny a l ps
    · exact holes1_free n₀ x n c ps hn 0 a l hm m w pb ub p0 p1 u1 hp
    · have hl : l = 16 := by omega
      subst hl
      exact holes1_in n₀ x n c ps hn 0 a 16 hm (in_of_mts hm) m w pb ub p0 p1 u1 hp
  | f + 1 => fun a l hr hf m w pb ub p0 p1 u0 hub hn₀ hp => by
    have u1 : w.cell? ⟨ub, 0, none⟩ = some (.slice x n c) := by simp [World.cell?, u0]
    cases hm : mtsAny a l ps
    · exact holes1_free n₀ x n c ps hn (f + 1) a l hm m w pb ub p0 p1 u1 hp
    · cases hi : insAny a l ps
      · exact holes1_parts n₀ x n c ps hn hx f (hol_seq n₀ x n c ps hn hx f) a l hm hi hr hf m w pb ub p0 p1 u0 hub hn₀ hp
      · exact holes1_in n₀ x n c ps hn (f + 1) a l hm hi m w pb ub p0 p1 u1 hp
end Go.Proofs.Ytbnkgecblaffeaa
