/-
  DERIVED: THE SHELF's CONTRACTS AT THIS DUMP, IN PLAIN WORDS (tools/lay-plain.mjs out of 'YtgealgjeboainaaGreatSortLay0.lean', which tools/lay-shelf.mjs wrote): THE SAME DECLARATIONS UNDER THE SAME NAMES: 'import', 'namespace', 'open', 'def', 'theorem' AND NOTHING ELSE: no command of the shelf's: FOR A HAND-IN. Each laying: the table of numbers ('.._ren') and one theorem, a field a fact of the dump's own or the kernel's comparison; each contract: ONE APPLICATION.
-/
import Derived.Shelf.SlSortCmp.WholeK
import Derived.Shelf.SlGeneric
import Derived.Ground.SlsfProg
import Derived.Test.YtgealgjeboainaaGreatChecked
import Derived.Test.YtgealgjeboainaaGreatMR15
namespace Go.Proofs
open Go.Shelf
def Tryz.sortRt_ren : Go.Shelf.Ren := ⟨fun | 6 => 15 | 15 => 32 | 14 => 31 | 28 => 57 | 29 => 58 | 20 => 49 | 21 => 50 | 22 => 51 | 23 => 52 | 24 => 53 | 25 => 54 | 26 => 55 | 27 => 56 | 46 => 75 | 47 => 76 | 48 => 77 | 49 => 78 | 50 => 79 | 57 => 93 | n => n, fun | 22 => 26 | 24 => 36 | 25 => 54 | 3 => 3 | 39 => 70 | 0 => 0 | 53 => 101 | 55 => 103 | 4 => 4 | 46 => 94 | 45 => 93 | 50 => 98 | 5 => 5 | 9 => 9 | 66 => 114 | 70 => 118 | 76 => 128 | 77 => 129 | n => n, fun | n => n⟩
theorem Tryz.sortRt : Go.Proofs.SlLaysF0.n6 Tryz.prog Tryz.sortRt_ren := {
  mixed := by kernel_rfl
  f6 := ⟨Tryz.f15.name, by decide, Tryz.func15.trans (congrArg some (by kernel_rfl))⟩
  f14 := ⟨Tryz.f31.name, by decide, Tryz.func31.trans (congrArg some (by kernel_rfl))⟩
  f15 := Tryz.func32.trans (congrArg some (by kernel_rfl))
  f20 := ⟨Tryz.f49.name, by decide, Tryz.func49.trans (congrArg some (by kernel_rfl))⟩
  f21 := ⟨Tryz.f50.name, by decide, Tryz.func50.trans (congrArg some (by kernel_rfl))⟩
  f22 := ⟨Tryz.f51.name, by decide, Tryz.func51.trans (congrArg some (by kernel_rfl))⟩
  f23 := ⟨Tryz.f52.name, by decide, Tryz.func52.trans (congrArg some (by kernel_rfl))⟩
  f24 := ⟨Tryz.f53.name, by decide, Tryz.func53.trans (congrArg some (by kernel_rfl))⟩
  f25 := ⟨Tryz.f54.name, by decide, Tryz.func54.trans (congrArg some (by kernel_rfl))⟩
  f26 := ⟨Tryz.f55.name, by decide, Tryz.func55.trans (congrArg some (by kernel_rfl))⟩
  f27 := ⟨Tryz.f56.name, by decide, Tryz.func56.trans (congrArg some (by kernel_rfl))⟩
  f28 := Tryz.func57.trans (congrArg some (by kernel_rfl))
  f29 := Tryz.func58.trans (congrArg some (by kernel_rfl))
  f46 := ⟨Tryz.f75.name, by decide, Tryz.func75.trans (congrArg some (by kernel_rfl))⟩
  f47 := Tryz.func76.trans (congrArg some (by kernel_rfl))
  f48 := Tryz.func77.trans (congrArg some (by kernel_rfl))
  f49 := ⟨Tryz.f78.name, by decide, Tryz.func78.trans (congrArg some (by kernel_rfl))⟩
  f50 := ⟨Tryz.f79.name, by decide, Tryz.func79.trans (congrArg some (by kernel_rfl))⟩
  f57 := ⟨Tryz.f93.name, by decide, Tryz.func93.trans (congrArg some (by kernel_rfl))⟩
  t0 := Tryz.underlying0
  a0 := Tryz.isAgg0
  z0 := Tryz.sizeOf0
  v0 := Tryz.zeroValue0
  t3 := Tryz.underlying3
  a3 := Tryz.isAgg3
  z3 := Tryz.sizeOf3
  v3 := Tryz.zeroValue3
  t4 := Tryz.underlying4
  a4 := Tryz.isAgg4
  z4 := Tryz.sizeOf4
  v4 := Tryz.zeroValue4
  t5 := Tryz.underlying5
  a5 := Tryz.isAgg5
  z5 := Tryz.sizeOf5
  v5 := Tryz.zeroValue5
  t9 := Tryz.underlying9
  a9 := Tryz.isAgg9
  z9 := Tryz.sizeOf9
  v9 := Tryz.zeroValue9
  t22 := Tryz.underlying26
  a22 := Tryz.isAgg26
  z22 := Tryz.sizeOf26
  v22 := Tryz.zeroValue26
  t25 := Tryz.underlying54
  a25 := Tryz.isAgg54
  z25 := Tryz.sizeOf54
  v25 := Tryz.zeroValue54
  t39 := Tryz.underlying70
  a39 := Tryz.isAgg70
  z39 := Tryz.sizeOf70
  v39 := Tryz.zeroValue70
  t45 := Tryz.underlying93
  a45 := Tryz.isAgg93
  z45 := Tryz.sizeOf93
  v45 := Tryz.zeroValue93
  t46 := Tryz.underlying94
  a46 := Tryz.isAgg94
  z46 := Tryz.sizeOf94
  v46 := Tryz.zeroValue94
  t50 := Tryz.underlying98
  a50 := Tryz.isAgg98
  z50 := Tryz.sizeOf98
  v50 := Tryz.zeroValue98
  t53 := Tryz.underlying101
  a53 := Tryz.isAgg101
  z53 := Tryz.sizeOf101
  v53 := Tryz.zeroValue101
  t55 := Tryz.underlying103
  a55 := Tryz.isAgg103
  z55 := Tryz.sizeOf103
  v55 := Tryz.zeroValue103
  t66 := Tryz.underlying114
  a66 := Tryz.isAgg114
  z66 := Tryz.sizeOf114
  v66 := Tryz.zeroValue114
  t70 := Tryz.underlying118
  a70 := Tryz.isAgg118
  z70 := Tryz.sizeOf118
  v70 := Tryz.zeroValue118
  t76 := Tryz.underlying128
  a76 := Tryz.isAgg128
  z76 := Tryz.sizeOf128
  v76 := Tryz.zeroValue128
  t77 := Tryz.underlying129
  a77 := Tryz.isAgg129
  z77 := Tryz.sizeOf129
  v77 := Tryz.zeroValue129 }
end Go.Proofs
/- slices.SortFunc at routes sorts them by their first addresses (the shelf's contract, laid in SortLaid). -/
namespace Go.Proofs.YtgealgjeboainaaGreat
open Go.RowKit Go.Shelf Go.Lib Go.Sort

def encT (x : Int × Int × Int) : List Value := [.int .i64 x.1, .int .i64 x.2.1, .int .i64 x.2.2]
def cfT (x y : Int × Int × Int) : Int := if x.1 < y.1 then -1 else if x.1 = y.1 then 0 else 1
theorem cfT_cmp (x y : Int × Int × Int) : Cmp x.1 y.1 (cfT x y) := by
  unfold cfT Cmp
  rcases Int.lt_trichotomy x.1 y.1 with h | h | h
  · exact .inl ⟨h, by rw [if_pos h]⟩
  · exact .inr (.inl ⟨h, by rw [if_neg (by omega), if_pos h]⟩)
  · exact .inr (.inr ⟨h, by rw [if_neg (by omega), if_neg (by omega)]⟩)
theorem ltT (x y : Int × Int × Int) : ltOf cfT x y = decide (x.1 < y.1) := by
  unfold ltOf cfT
  by_cases h : x.1 < y.1
  · simp [h]
  · by_cases h2 : x.1 = y.1
    · simp [h2]
    · simp [h, h2]
theorem swoT : SWO (ltOf cfT) where
  irrefl x := by rw [ltT]; simp
  trans x y z h1 h2 := by rw [ltT] at *; simp at *; omega
  ntrans x y z h1 h2 := by rw [ltT] at *; simp at *; omega
set_option maxRecDepth 20000 in
set_option maxHeartbeats 1000000 in
theorem tableCmp (x y : Int × Int × Int) (W : World) : Calls Tryz.prog 16 #[.agg #[.int .i64 x.1, .int .i64 x.2.1, .int .i64 x.2.2], .agg #[.int .i64 y.1, .int .i64 y.2.1, .int .i64 y.2.2]] W fun e w' => e = .returned (.int .i64 (cfT x y)) ∧ ∃ q os', w' = grow (W.drewN q) os' := by
  have hc := cfT_cmp x y
  generalize cfT x y = r at hc ⊢
  go_enter Tryz.func16, Tryz.ntmps16
  go_wp2_with (go_at_call 17; refine (cmp_is _ _ _ hc _).mono ?_; rintro e w' ⟨rfl, rfl⟩)
  go_ret
  exact ⟨rfl, 0, _, by rw [alloc_eq_grow, alloc_eq_grow, grow_grow]; rfl⟩
theorem call_tableCmp (args : Array Value) (W : World) : (callFunc 16 args).run Tryz.prog W = .ok (.enter 16 args) W := by simp [go_sem]
theorem cmpLaysT (blk off size : Nat) (w : World) : CmpLays Tryz.prog 16 #[] encT 3 cfT blk off size w :=
  fun _ _ _ _ x y => tableCmp x y _
def toT (r : Rg) : Int × Int × Int := (r.a, r.l, r.p)
def ofT (x : Int × Int × Int) : Rg := ⟨x.1, x.2.1, x.2.2⟩
theorem flatT_get (d : Array (Int × Int × Int)) (t : Nat) (h : t < d.size * 3) : (flatR (d.toList.map ofT))[t]? = some ((flatK encT 3 d)[t]!) := by
  rw [get_flatK encT 3 d t h]
  have h1 := flatR_at (d.toList.map ofT) (t / 3) (t % 3) (by simp; omega) (by omega)
  rw [show t / 3 * 3 + t % 3 = t by omega] at h1
  rw [h1, rgAt_get (by simp; omega)]
  have h2 : t / 3 < d.size := by omega
  rw [getElem!_pos d (t / 3) h2]
  simp only [List.getElem_map, Array.getElem_toList]
  have h3 : t % 3 = 0 ∨ t % 3 = 1 ∨ t % 3 = 2 := by omega
  rcases h3 with h3 | h3 | h3 <;> rw [h3] <;> rfl
theorem put_heap (W : World) (g m : Nat) (F cur : Array Value) (e : TypeId) (os : Array Obj) (h : W.heap[g]? = some (.cells cur e)) : (grow (putRow id (Sort.ahead W m) g 0 F) os).heap[g]? = some (.cells (putCells id 0 F cur) e) := by
  have hlt : g < W.heap.size := (Array.getElem?_eq_some_iff.1 h).1
  unfold grow putRow mapBlock Sort.ahead
  simp only
  rw [Array.getElem?_append_left (by simpa using hlt), Array.getElem?_modify, if_pos rfl, h]
  rfl
theorem put_other (W : World) (g m j : Nat) (F : Array Value) (os : Array Obj) (hj : j < W.heap.size) (hne : g ≠ j) : (grow (putRow id (Sort.ahead W m) g 0 F) os).heap[j]? = W.heap[j]? := by
  unfold grow putRow mapBlock Sort.ahead
  simp only
  rw [Array.getElem?_append_left (by simpa using hj), Array.getElem?_modify, if_neg hne]

set_option maxRecDepth 20000 in
theorem len64_0 (w : World) : Calls Tryz.prog 58 #[.int .u64 0] w fun e w' => (∃ l, e = .returned (.int .i64 l)) ∧ w' = w := by
  go_enter Tryz.func58, Tryz.ntmps58
  go_wp2
  go_ret
  exact ⟨⟨_, rfl⟩, rfl⟩
set_option maxRecDepth 20000 in
theorem len_0 (w : World) : Calls Tryz.prog 32 #[.int .u64 0] w fun e w' => (∃ l, e = .returned (.int .i64 l)) ∧ w' = w := by
  go_enter Tryz.func32, Tryz.ntmps32
  go_wp2_with (go_at_call 58; refine (len64_0 _).mono ?_; rintro e w1 ⟨⟨lv, rfl⟩, rfl⟩)
  go_ret
  exact ⟨⟨_, rfl⟩, rfl⟩
set_option maxRecDepth 100000 in
theorem insertion_0 (x : Option Addr) (n c : Nat) (f : Value) (w : World) :
    Calls Tryz.prog 49 #[.slice x n c, .int .i64 0, .int .i64 0, f] w fun e w' => e = .returned (.tuple #[]) ∧ w' = w := by
  go_enter Tryz.func49, Tryz.ntmps49
  go_wp2
  refine wp_loop_rounds 1 ?_
  rw [rounds_succ]
  go_wp2
  go_end0
  exact ⟨rfl, rfl⟩
set_option maxRecDepth 100000 in
theorem pdq_0 (x : Option Addr) (n c : Nat) (lv : Int) (f : Value) (w : World) :
    Calls Tryz.prog 31 #[.slice x n c, .int .i64 0, .int .i64 0, .int .i64 lv, f] w fun e w' => e = .returned (.tuple #[]) ∧ w' = w := by
  go_enter Tryz.func31, Tryz.ntmps31
  go_wp2
  refine wp_loop_rounds 1 ?_
  rw [rounds_succ]
  go_wp2_with (go_at_call 49; refine (insertion_0 _ _ _ _ _).mono ?_; rintro e w1 ⟨rfl, rfl⟩)
  refine bodyPost_ret (results_none Tryz.results31 _ _ _) rfl ?_
  exact ⟨rfl, rfl⟩
set_option maxRecDepth 20000 in
theorem sort_0 (x : Option Addr) (c : Nat) (f : Value) (w : World) :
    Calls Tryz.prog 15 #[.slice x 0 c, f] w fun e w' => e = .returned (.tuple #[]) ∧ w' = w := by
  go_enter Tryz.func15, Tryz.ntmps15
  go_wp2_with (first | (go_at_call 32; refine (len_0 _).mono ?_; rintro e w1 ⟨⟨lv, rfl⟩, rfl⟩) | (go_at_call 31; refine (pdq_0 _ _ _ _ _ _).mono ?_; rintro e w2 ⟨rfl, rfl⟩))
  go_end0
  exact ⟨rfl, rfl⟩

set_option maxHeartbeats 1000000 in
theorem sorts_any (L : List Rg) (hL : L.length ≤ 1000000) : Sorts L := by
  intro W base v hO hbase
  by_cases h0 : L = []
  · subst h0
    obtain ⟨x, c, rfl, -⟩ := hO.mem
    refine (sort_0 x c _ W).mono fun e w' h => ?_
    obtain ⟨rfl, rfl⟩ := h
    exact ⟨rfl, [], hO, ⟨List.Perm.nil, List.Pairwise.nil⟩, Below.refl _ _⟩
  · obtain ⟨hfl, hv⟩ := hO
    rcases hv with ⟨-, hn⟩ | ⟨g, cap, cur, rfl, hg, hheap, hcap, hmax, hcs, htake⟩
    · exact absurd (List.length_eq_zero_iff.1 hn) h0
    · have hds : ((L.map toT).toArray).size = L.length := by simp
      have hid : ((L.map toT).toArray.toList.map ofT) = L := by simp [ofT, toT, Function.comp_def]
      have hlt : g < W.heap.size := (Array.getElem?_eq_some_iff.1 hheap).1
      have hH : HoldsK encT 3 W g 0 (L.map toT).toArray := fun j hj => by
        rw [size_flatK, hds] at hj
        have h1 := flatT_get (L.map toT).toArray j (by rw [hds]; exact hj)
        rw [hid, ← htake, List.getElem?_take_of_lt hj] at h1
        obtain ⟨hc, hf⟩ := box_cells hheap
        rw [Nat.zero_add]
        refine ⟨?_, hf j⟩
        rw [hc j, ← Array.getElem?_toList]
        exact h1
      have hcon := AnyQ.slices_SortFunc Tryz.sortRt 3 Tryz.isAgg36 Tryz.sizeOf36 encT (fun _ => rfl) (fun x v hv => by simp [encT] at hv; rcases hv with rfl | rfl | rfl <;> rfl) cfT swoT 16 #[] g 0 cap (L.map toT).toArray W call_tableCmp (cmpLaysT g 0 _ W) hH hlt (by rw [hds]; omega)
      rw [hds] at hcon
      refine hcon.mono fun e w' h => ?_
      obtain ⟨rfl, d', m, os, ⟨hsz, -, hpm⟩, hso, rfl⟩ := h
      rw [hds] at hsz
      have hd' : (d'.toList.map ofT).length = L.length := by simp [hsz]
      refine ⟨rfl, d'.toList.map ofT, ?_, ⟨?_, ?_⟩, ?_⟩
      · refine ⟨by rw [flatR_len], .inr ⟨g, cap, putCells id 0 (flatK encT 3 d') cur, by rw [hd'], hg, put_heap W g m _ cur _ os hheap, by rw [hd']; exact hcap, hmax, by simp [putCells, hcs], ?_⟩⟩
        rw [hd']
        apply List.ext_getElem?
        intro t
        by_cases ht : t < L.length * 3
        · rw [List.getElem?_take_of_lt ht, flatT_get d' t (by rw [hsz]; exact ht), Array.getElem?_toList]
          have hc : t < cur.size := by rw [hcs]; exact Nat.lt_of_lt_of_le ht (Nat.mul_le_mul_right 3 hcap)
          simp only [putCells, Array.getElem?_mapIdx, Array.getElem?_eq_getElem hc, Option.map_some]
          rw [if_pos ⟨Nat.zero_le _, by rw [size_flatK, hsz]; omega⟩]
          rfl
        · rw [List.getElem?_eq_none (by simp; omega), List.getElem?_eq_none (by rw [flatR_len, hd']; omega)]
      · have h1 : d'.toList.Perm (L.map toT) := by
          have e1 : (d'.extract 0 L.length).toList = d'.toList := by rw [← hsz]; simp
          have e2 : ((L.map toT).toArray.extract 0 L.length).toList = L.map toT := by
            rw [Array.extract_eq_self_of_le (by rw [hds]; exact Nat.le_refl _)]
          rw [e1, e2] at hpm
          exact hpm
        have h2 := h1.map ofT
        simpa [ofT, toT, Function.comp_def] using h2
      · rw [List.pairwise_iff_getElem]
        intro i j hi hj hij
        have h1 := hso i j (Nat.zero_le _) hij (by rw [← hd']; exact hj)
        have hi' : i < d'.size := by simpa using hi
        have hj' : j < d'.size := by simpa using hj
        rw [getElem!_pos d' i hi', getElem!_pos d' j hj', ltT] at h1
        simp only [List.getElem_map, Array.getElem_toList, ofT]
        simpa using h1
      · exact ⟨rfl, rfl, rfl, by simp [sortWorldK, putRowK, putRow, mapBlock, Sort.ahead, grow], fun j hj => put_other W g m j _ os (by omega) (by omega)⟩
end Go.Proofs.YtgealgjeboainaaGreat
/- A table's routes: mathematics. -/
namespace Go.Proofs.YtgealgjeboainaaGreat
open Go.RowKit Go.Shelf

theorem hd_step_same (ms : List (Int × Int)) : ∀ (hd : Int → Int) (x y : Int), hd x = hd y → (ms.foldl (fun hd l x => if hd x = hd l.1 then hd l.2 else hd x) hd) x = (ms.foldl (fun hd l x => if hd x = hd l.1 then hd l.2 else hd x) hd) y := by
  induction ms with
  | nil => intro hd x y h; exact h
  | cons m ms ih =>
    intro hd x y h
    rw [List.foldl_cons]
    refine ih _ x y ?_
    simp only [h]
theorem hd_linked {ls : List (Int × Int)} {a b : Int} (h : (a, b) ∈ ls) : hdOf ls a = hdOf ls b := by
  obtain ⟨p, q, rfl⟩ := List.append_of_mem h
  unfold hdOf
  rw [List.foldl_append, List.foldl_cons]
  refine hd_step_same q _ a b ?_
  simp only [if_true]
  split <;> rfl
theorem jn_hd {ln : Nat} {ls : List (Int × Int)} {a b : Int} (hl : ls.length = ln) (h : jnB ln ls a b = true) : hdOf ls a = hdOf ls b := by
  obtain ⟨i, hi, h0, h1⟩ := eqLk_any.1 h
  have hm : (min a b, max a b) ∈ ls := by
    rw [← h0, ← h1, at_get (by omega)]
    exact List.getElem_mem _
  have := hd_linked hm
  by_cases e : a ≤ b
  · rw [show min a b = a by omega, show max a b = b by omega] at this
    exact this
  · rw [show min a b = b by omega, show max a b = a by omega] at this
    exact this.symm
theorem vpc_zero {n : Nat} {vs : List Vn} (h : vpcsB n vs = true) : ∀ i, i < n → chkV (vnAt vs i).id (vnAt vs i).rn (vnAt vs i).rs (vnAt vs i).sn (vnAt vs i).ss = 0 := fun i hi => by
  unfold vpcsB at h
  rw [Bool.and_eq_true] at h
  have hb : vbad (vnAt vs i) = false := by
    cases e : vbad (vnAt vs i)
    · rfl
    · rw [any_yes (f := fun i => vbad (vnAt vs i)) hi e] at h
      exact absurd h.2 (by simp)
  unfold vbad at hb
  simpa using hb
theorem chkV_parts {id : Int} {rn : Nat} {rs : List Rg} {sn : Nat} {ss : List Sb} (h : chkV id rn rs sn ss = 0) : vmanyB rn sn ss = false ∧ wth id 1 65536 = true ∧ rgsB rn rs = true ∧ sbsB rn rs sn ss = true := by
  unfold chkV at h
  split at h
  · omega
  · rename_i hm
    split at h
    · rename_i hw
      simp only [Bool.and_eq_true] at hw
      exact ⟨by simpa using hm, hw.1.1, hw.1.2, hw.2⟩
    · omega
theorem rgs_at {rn : Nat} {rs : List Rg} (h : rgsB rn rs = true) {i : Nat} (hi : i < rn) : rgB (rgAt rs i) = true ∧ ∀ j, j < i → mts (rgAt rs j).a (rgAt rs j).l (rgAt rs i).a (rgAt rs i).l = false := by
  unfold rgsB at h
  rw [Bool.and_eq_true, List.all_eq_true] at h
  have h1 := h.1 i (by simpa using hi)
  unfold rgsAt at h1
  rw [Bool.and_eq_true] at h1
  refine ⟨h1.1, fun j hj => ?_⟩
  cases e : mts (rgAt rs j).a (rgAt rs j).l (rgAt rs i).a (rgAt rs i).l
  · rfl
  · rw [any_yes (f := rmB rs (rgAt rs i).a (rgAt rs i).l) hj e] at h1
    exact absurd h1.2 (by simp)
theorem rg_rt {r : Rg} (h : rgB r = true) : rt r.a r.l = true := by
  unfold rgB at h
  rw [Bool.and_eq_true] at h
  exact h.1
theorem not_both {a l c m y : Int} (h : mts a l c m = false) : ¬ (hld a l y = true ∧ hld c m y = true) := by
  rintro ⟨h1, h2⟩
  rw [hld_nums] at h1 h2
  rw [mts_of h1.1 h2.1 (by omega) (by omega)] at h
  cases h
theorem ap_at {ls : List (Int × Int)} {n : Nat} {vs : List Vn} (h : apB ls n vs = true) {i j : Nat} (hi : i < n) (hj : j < i) : clsh (hdOf ls) vs i j = false := by
  unfold apB at h
  rw [List.all_eq_true] at h
  have h1 := h i (by simpa using hi)
  unfold apAt at h1
  rw [List.all_eq_true] at h1
  have h2 := h1 j (by simpa using hj)
  simpa using h2
theorem clsh_mts {hd : Int → Int} {vs : List Vn} {i j : Nat} (h : clsh hd vs i j = false) (he : hd (vnAt vs i).id = hd (vnAt vs j).id) {p q : Nat} (hp : p < (vnAt vs i).rn) (hq : q < (vnAt vs j).rn) :
    mts (rgAt (vnAt vs i).rs p).a (rgAt (vnAt vs i).rs p).l (rgAt (vnAt vs j).rs q).a (rgAt (vnAt vs j).rs q).l = false := by
  unfold clsh at h
  rw [he] at h
  simp only [beq_self_eq_true, Bool.true_and] at h
  cases e : mts (rgAt (vnAt vs i).rs p).a (rgAt (vnAt vs i).rs p).l (rgAt (vnAt vs j).rs q).a (rgAt (vnAt vs j).rs q).l
  · rfl
  · unfold meetB at h
    rw [any_yes (f := fun i' => anyAt (vnAt vs j).rn fun j' => mts (rgAt (vnAt vs i).rs i').a (rgAt (vnAt vs i).rs i').l (rgAt (vnAt vs j).rs j').a (rgAt (vnAt vs j).rs j').l) hp (any_yes (f := fun j' => mts (rgAt (vnAt vs i).rs p).a (rgAt (vnAt vs i).rs p).l (rgAt (vnAt vs j).rs j').a (rgAt (vnAt vs j).rs j').l) hq e)] at h
    cases h

/-- A right net. -/
structure RNet (n : Nat) (vs : List Vn) (ln : Nat) (ls : List (Int × Int)) : Prop where
  vl : vs.length = n
  ll : ls.length = ln
  rl : ∀ i, i < n → (vnAt vs i).rs.length = (vnAt vs i).rn
  chk : chkN n vs ln ls = 0
theorem RNet.near_hd {n : Nat} {vs : List Vn} {ln : Nat} {ls : List (Int × Int)} (h : RNet n vs ln ls) {id : Int} {v : Vn} (hv : nearB ln ls id v = true) : hdOf ls v.id = hdOf ls id := by
  unfold nearB at hv
  simp only [Bool.or_eq_true, beq_iff_eq] at hv
  rcases hv with hv | hv
  · rw [hv]
  · exact jn_hd h.ll hv
theorem mem_vT {v : Vn} {r : Rg} (h : r ∈ vT v) : ∃ k, k < v.rs.length ∧ r = ⟨(rgAt v.rs k).a, (rgAt v.rs k).l, v.id⟩ := by
  unfold vT at h
  obtain ⟨u, hu, rfl⟩ := List.mem_map.1 h
  obtain ⟨k, hk, rfl⟩ := List.getElem_of_mem hu
  exact ⟨k, hk, by rw [rgAt_get hk]⟩
/-- No address is held by two of a table's routes. -/
theorem RNet.apart {n : Nat} {vs : List Vn} {ln : Nat} {ls : List (Int × Int)} (h : RNet n vs ln ls) (id y : Int) : (rawT ln ls id vs).Pairwise fun r s => ¬ (hld r.a r.l y = true ∧ hld s.a s.l y = true) := by
  obtain ⟨-, -, hv, -, ha⟩ := chkN_zero h.chk
  unfold rawT
  rw [List.pairwise_flatMap]
  constructor
  · intro v hmem
    obtain ⟨i, hi, rfl⟩ := List.getElem_of_mem hmem
    split
    · rw [← vnAt_get hi]
      unfold vT
      rw [List.pairwise_map, List.pairwise_iff_getElem]
      intro p q hp hq hpq
      have hin : i < n := by rw [← h.vl]; exact hi
      have hr := (chkV_parts (vpc_zero hv i hin)).2.2.1
      have h1 := (rgs_at hr (i := q) (by rw [← h.rl i hin]; exact hq)).2 p hpq
      rw [rgAt_get hp, rgAt_get hq] at h1
      exact not_both h1
    · exact List.Pairwise.nil
  · rw [List.pairwise_iff_getElem]
    intro i j hi hj hij r hr s hs
    rw [← vnAt_get hi] at hr
    rw [← vnAt_get hj] at hs
    split at hr
    · rename_i hni
      split at hs
      · rename_i hnj
        obtain ⟨p, hp, rfl⟩ := mem_vT hr
        obtain ⟨q, hq, rfl⟩ := mem_vT hs
        have hin : i < n := by rw [← h.vl]; exact hi
        have hjn : j < n := by rw [← h.vl]; exact hj
        have h1 := clsh_mts (ap_at ha hjn hij) (by rw [h.near_hd hni, h.near_hd hnj]) (p := q) (q := p) (by rw [← h.rl j hjn]; exact hq) (by rw [← h.rl i hin]; exact hp)
        intro hb
        exact not_both h1 ⟨hb.2, hb.1⟩
      · cases hs
    · cases hr
theorem filter_one {α : Type} {f : α → Bool} : ∀ {l : List α}, l.Pairwise (fun r s => ¬ (f r = true ∧ f s = true)) → (l.filter f).length ≤ 1
  | [], _ => by simp
  | x :: l, h => by
    rw [List.pairwise_cons] at h
    by_cases hx : f x = true
    · have : l.filter f = [] := by
        rw [List.filter_eq_nil_iff]
        intro s hs hf
        exact h.1 s hs ⟨hx, hf⟩
      rw [List.filter_cons_of_pos hx, this]
      simp
    · rw [List.filter_cons_of_neg hx]
      exact filter_one h.2
/-- How many of the first k hold it. -/
def cntH (L : List Rg) (y : Int) (k : Nat) : Nat := ((L.take k).filter fun r => hld r.a r.l y).length
theorem cntH_step {L : List Rg} {y : Int} {k : Nat} (h : k < L.length) : cntH L y (k + 1) = cntH L y k + (if hld (rgAt L k).a (rgAt L k).l y = true then 1 else 0) := by
  unfold cntH
  rw [List.take_add_one, List.getElem?_eq_getElem h, Option.toList_some, List.filter_append, List.length_append, rgAt_get h]
  split
  · rename_i hh
    simp [hh]
  · rename_i hh
    simp [hh]
theorem cntH_le (L : List Rg) (y : Int) (k : Nat) : cntH L y k ≤ L.length := by
  unfold cntH
  have h1 := List.length_filter_le (fun r => hld r.a r.l y) (L.take k)
  rw [List.length_take] at h1
  omega
theorem bst_holds {L : List Rg} {y : Int} : ∀ k, k ≤ L.length → 0 ≤ bst L y k → hld (rgAt L (bst L y k).toNat).a (rgAt L (bst L y k).toNat).l y = true
  | 0, _, h => by simp [bst] at h
  | k + 1, hk, h => by
    simp only [bst] at h ⊢
    split
    · rename_i hc
      simp only [Bool.and_eq_true] at hc
      rw [Int.toNat_natCast]
      exact hc.1
    · rename_i hc
      rw [if_neg hc] at h
      exact bst_holds k (by omega) h
theorem bst_none {L : List Rg} {y : Int} : ∀ k, k ≤ L.length → bst L y k < 0 → ∀ j, j < k → hld (rgAt L j).a (rgAt L j).l y = false
  | 0, _, _, j, hj => by omega
  | k + 1, hk, h, j, hj => by
    simp only [bst] at h
    split at h
    · omega
    · rename_i hc
      have ih := bst_none k (by omega) h
      by_cases hj2 : j < k
      · exact ih j hj2
      · obtain rfl : j = k := by omega
        cases e : hld (rgAt L j).a (rgAt L j).l y
        · rfl
        · exact absurd (by simp [e, h]) hc
theorem cnt_zero {L : List Rg} {y : Int} : ∀ k, k ≤ L.length → (∀ j, j < k → hld (rgAt L j).a (rgAt L j).l y = false) → cntH L y k = 0
  | 0, _, _ => by simp [cntH]
  | k + 1, hk, h => by
    rw [cntH_step (by omega), cnt_zero k (by omega) (fun j hj => h j (by omega)), h k (by omega)]
    rfl
theorem cnt_pos {L : List Rg} {y : Int} {j : Nat} : ∀ k, k ≤ L.length → j < k → hld (rgAt L j).a (rgAt L j).l y = true → 0 < cntH L y k
  | 0, _, hj, _ => by omega
  | k + 1, hk, hj, h => by
    rw [cntH_step (by omega)]
    by_cases hj2 : j < k
    · have := cnt_pos k (by omega) hj2 h
      omega
    · obtain rfl : j = k := by omega
      rw [if_pos h]
      omega
/-- What the law asks of a table. -/
theorem RNet.table {n : Nat} {vs : List Vn} {ln : Nat} {ls : List (Int × Int)} (h : RNet n vs ln ls) (id y : Int) {L : List Rg} (hS : SortOf (rawT ln ls id vs) L) (hy : 0 ≤ y ∧ y ≤ 65535) :
    L.length ≤ 64 ∧ findE L.length L y = 0 ∧ cntH L y L.length ≤ 1 ∧ (decide (0 ≤ bst L y L.length) = (cntH L y L.length == 1)) ∧
      (0 ≤ bst L y L.length → ∃ i, i < n ∧ (rgAt L (bst L y L.length).toNat).p = (vnAt vs i).id ∧ ∃ k, k < (vnAt vs i).rn ∧ hld (rgAt (vnAt vs i).rs k).a (rgAt (vnAt vs i).rs k).l y = true) := by
  obtain ⟨hn6, -, hv, -, -⟩ := chkN_zero h.chk
  have hmem : ∀ r ∈ L, ∃ i, i < n ∧ ∃ k, k < (vnAt vs i).rn ∧ r = ⟨(rgAt (vnAt vs i).rs k).a, (rgAt (vnAt vs i).rs k).l, (vnAt vs i).id⟩ := fun r hr => by
    have hr2 := hS.1.mem_iff.1 hr
    unfold rawT at hr2
    obtain ⟨v, hvm, hrv⟩ := List.mem_flatMap.1 hr2
    obtain ⟨i, hi, rfl⟩ := List.getElem_of_mem hvm
    rw [← vnAt_get hi] at hrv
    split at hrv
    · obtain ⟨k, hk, rfl⟩ := mem_vT hrv
      have hin : i < n := by rw [← h.vl]; exact hi
      exact ⟨i, hin, k, by rw [← h.rl i hin]; exact hk, rfl⟩
    · cases hrv
  have hlen : L.length ≤ 64 := by
    rw [hS.1.length_eq]
    have hfl : ∀ (us : List Vn), (∀ u ∈ us, u.rs.length ≤ 4) → (rawT ln ls id us).length ≤ us.length * 4 := fun us => by
      induction us with
      | nil => intro _; simp [rawT]
      | cons u us ih =>
        intro hu
        have h1 := ih (fun w hw => hu w (by simp [hw]))
        have h2 := hu u (by simp)
        unfold rawT at h1 ⊢
        rw [List.flatMap_cons, List.length_append, List.length_cons]
        have h3 : (if nearB ln ls id u = true then vT u else []).length ≤ 4 := by
          split
          · rw [vT_len]; exact h2
          · simp
        omega
    have h1 := hfl vs (fun u hu => by
      obtain ⟨i, hi, rfl⟩ := List.getElem_of_mem hu
      have hin : i < n := by rw [← h.vl]; exact hi
      rw [← vnAt_get hi, h.rl i hin]
      exact (few (chkV_parts (vpc_zero hv i hin)).1).1)
    rw [h.vl] at h1
    omega
  have hrt : ∀ j, j < L.length → rt (rgAt L j).a (rgAt L j).l = true := fun j hj => by
    obtain ⟨i, hi, k, hk, e⟩ := hmem (rgAt L j) (by rw [rgAt_get hj]; exact List.getElem_mem hj)
    rw [e]
    have h1 := rg_rt (rgs_at (chkV_parts (vpc_zero hv i hi)).2.2.1 hk).1
    exact h1
  have hE : findE L.length L y = 0 := by
    unfold findE
    rw [if_neg (by omega), any_no (fun j hj => by rw [hrt j hj]; rfl), if_neg (by simp), if_neg (by omega)]
  have hc : cntH L y L.length ≤ 1 := by
    unfold cntH
    rw [List.take_length, (hS.1.filter _).length_eq]
    exact filter_one (f := fun r : Rg => hld r.a r.l y) (h.apart id y)
  have hb := bst_lt L y L.length
  refine ⟨hlen, hE, hc, ?_, ?_⟩
  · by_cases hp : 0 ≤ bst L y L.length
    · have h1 := bst_holds (L := L) (y := y) L.length (Nat.le_refl _) hp
      have hj : (bst L y L.length).toNat < L.length := by omega
      have h2 := cnt_pos (L := L) (y := y) (j := (bst L y L.length).toNat) L.length (Nat.le_refl _) hj h1
      have h3 : cntH L y L.length = 1 := Nat.le_antisymm hc h2
      rw [h3]
      simpa using hp
    · have h1 := cnt_zero (L := L) (y := y) L.length (Nat.le_refl _) (bst_none (L := L) (y := y) L.length (Nat.le_refl _) (by omega))
      rw [h1]
      simpa using hp
  · intro hp
    have h1 := bst_holds (L := L) (y := y) L.length (Nat.le_refl _) hp
    have hj : (bst L y L.length).toNat < L.length := by omega
    obtain ⟨i, hi, k, hk, e⟩ := hmem (rgAt L (bst L y L.length).toNat) (by rw [rgAt_get hj]; exact List.getElem_mem hj)
    rw [e] at h1 ⊢
    exact ⟨i, hi, rfl, k, hk, h1⟩
/-- Ids rise: so no two are the same. -/
theorem rise_lt {vs : List Vn} (h : riseVB vs = true) : ∀ (i j : Nat), i < j → j < vs.length → (vnAt vs i).id < (vnAt vs j).id
  | i, 0, hij, _ => by omega
  | i, j + 1, hij, hj => by
    have h1 : riseVAt vs (j + 1) = true := by
      unfold riseVB at h
      rw [List.all_eq_true] at h
      exact h (j + 1) (by simpa using hj)
    unfold riseVAt at h1
    simp only [Nat.add_sub_cancel, Bool.or_eq_true, decide_eq_true_eq, beq_iff_eq] at h1
    have h2 : (vnAt vs j).id < (vnAt vs (j + 1)).id := by
      rcases h1 with h1 | h1
      · omega
      · exact h1
    by_cases e : i < j
    · have := rise_lt h i j e (by omega)
      omega
    · obtain rfl : i = j := by omega
      exact h2
theorem vplace_at {n : Nat} {vs : List Vn} (hl : vs.length = n) (h : riseVB vs = true) {i : Nat} (hi : i < n) : vplace n vs (vnAt vs i).id = i :=
  vplace_yes hi (by simp) (fun j hj => by
    have := rise_lt h j i hj (by omega)
    simp
    omega)
end Go.Proofs.YtgealgjeboainaaGreat
/- VpcAt, and the law RouteTrue. -/
namespace Go.Proofs.YtgealgjeboainaaGreat
open Go.RowKit Go.Shelf

def chooseV (c n : Int) : Int := if c < 0 then -((c + 1).tmod n) else c % n
theorem choose_range (c n : Int) (hn : 0 < n) : 0 ≤ chooseV c n ∧ chooseV c n < n := by
  unfold chooseV
  split
  · rename_i h
    rw [← Int.neg_tmod, Int.tmod_eq_emod_of_nonneg (by omega)]
    exact ⟨Int.emod_nonneg _ (by omega), Int.emod_lt_of_pos _ hn⟩
  · exact ⟨Int.emod_nonneg _ (by omega), Int.emod_lt_of_pos _ hn⟩
/-- Which of n things a raw number speaks of. -/
theorem choose_any (c n : Int) (w : World) (hc0 : -9223372036854775808 ≤ c) (hc1 : c ≤ 9223372036854775807) (hn0 : 0 < n) (hn1 : n ≤ 65536) :
    Calls Tryz.prog 10 #[.int .i64 c, .int .i64 n] w fun e w' => e = .returned (.int .i64 (chooseV c n)) ∧ w' = w := by
  have hz : n ≠ 0 := by omega
  unfold chooseV
  by_cases hneg : c < 0
  · rw [if_pos hneg]
    have h1 : IntKind.i64.wrap (c + 1) = c + 1 := by rw [IntKind.wrap_i64]; omega
    have h2 : IntKind.i64.wrap (-(c + 1)) = -(c + 1) := by rw [IntKind.wrap_i64]; omega
    go_enter Tryz.func10, Tryz.ntmps10
    go_wp2
    go_ret
    exact ⟨rfl, rfl⟩
  · rw [if_neg hneg]
    go_enter Tryz.func10, Tryz.ntmps10
    go_wp2
    go_ret
    exact ⟨rfl, rfl⟩

set_option maxRecDepth 100000 in
set_option maxHeartbeats 1600000 in
theorem vpcAt_any (x : Option Addr) (n c : Nat) (vs : List Vn) (lx : Option Addr) (ln lc : Nat) (id : Int) (w : World) (hp : VS w x n vs) (hn : n ≤ 1048576) :
    Calls Tryz.prog 7 #[.agg #[.slice x n c, .slice lx ln lc], .int .i64 id] w fun e w' => e = .returned (.int .i64 (vplace n vs id)) ∧ Below w.heap.size w w' := by
  go_enter Tryz.func7, Tryz.ntmps7
  go_upto_region 1 with fail
  obtain ⟨w2, hw2⟩ : ∃ w2, w2 = w.alloc (netO x n c lx ln lc) := ⟨_, rfl⟩
  rw [← hw2]
  have h02 : Below w.heap.size w w2 := by rw [hw2]; exact bl1 w _
  have hbox : w2.heap[w.heap.size]? = some (netO x n c lx ln lc) := by rw [hw2]; exact heap_new _ rfl
  clear hw2
  obtain ⟨hcl, -⟩ := box_cells hbox
  have q0 : w2.cell? ⟨w.heap.size, 0, none⟩ = some (.slice x n c) := hcl 0
  clear hcl hbox
  have hp2 := hp.later h02
  generalize hbk : w.heap.size = bk at *
  go_wp2
  go_loopw [5] (fun i wr => ∃ k : Nat, k ≤ n ∧ i = .int .i64 k ∧ wr = w2 ∧ (∀ j, j < k → ((vnAt vs j).id == id) = false)) (fun i _ => n - (intOf i).toNat)
  case atStart => exact ⟨0, by omega, rfl, rfl, fun j hj => by omega⟩
  case round =>
    obtain ⟨k, hk, rfl, rfl, hno⟩ := hrel
    have hno' : Hid (∀ j, j < k → ((vnAt vs j).id == id) = false) := hno
    clear hno
    by_cases hlt : k < n
    · have hlt' : Hid (k < n) := hlt
      obtain ⟨b, o, rfl, c0, c1, c2⟩ := hp2.cells k hlt
      cases he : ((vnAt vs k).id == id)
      · go_wp2
        go_roundw
        case rel => exact ⟨k + 1, hlt'.out, by go_num, by first | rfl | trivial, fun j hj => by
          by_cases hj2 : j < k
          · exact hno'.out j hj2
          · obtain rfl : j = k := by omega
            exact he⟩
        case measure => simp [intOf]; have := hlt'.out; omega
      · have hv : Hid (vplace n vs id = k) := vplace_yes hlt he hno'.out
        go_wp2
        go_ret
        exact ⟨ret_int hv.out.symm, by rw [hbk]; exact h02⟩
    · obtain rfl : k = n := by omega
      have hv : Hid (vplace k vs id = -1) := vplace_no hno'.out
      go_wp2
      go_ret
      exact ⟨ret_int hv.out.symm, by rw [hbk]; exact h02⟩
theorem vpcAt_is (x : Option Addr) (n c : Nat) (vs : List Vn) (lx : Option Addr) (ln lc : Nat) (id t : Int) (h : vplace n vs id = t) (w : World) (hp : VS w x n vs) (hn : n ≤ 1048576) :
    Calls Tryz.prog 7 #[.agg #[.slice x n c, .slice lx ln lc], .int .i64 id] w fun e w' => e = .returned (.int .i64 t) ∧ Below w.heap.size w w' := by
  subst h
  exact vpcAt_any x n c vs lx ln lc id w hp hn
theorem RNet.of {w : World} {x : Option Addr} {n : Nat} {vs : List Vn} {lx : Option Addr} {ln : Nat} {ls : List (Int × Int)} {id : Int} (hp : VS w x n vs) (hl : PS w lx ln ls) (h : grpE n vs ln ls id = 0) : RNet n vs ln ls :=
  ⟨hp.len, hl.len, fun i hi => (hp.vps i hi).2.2.2.ranges.len, (grpE_zero h).1⟩
theorem RNet.raw {n : Nat} {vs : List Vn} {ln : Nat} {ls : List (Int × Int)} (h : RNet n vs ln ls) (id : Int) : (rawT ln ls id vs).length ≤ 1000000 := by
  obtain ⟨hn6, -, hv, -, -⟩ := chkN_zero h.chk
  have h1 := rawT_len (ln := ln) (ls := ls) (id := id) (vs := vs) (fun u hu => by
    obtain ⟨i, hi, rfl⟩ := List.getElem_of_mem hu
    have hin : i < n := by rw [← h.vl]; exact hi
    rw [← vnAt_get hi, h.rl i hin]
    exact (vpcs_few hv i hin).2)
  rw [h.vl] at h1
  omega
theorem table_full (x : Option Addr) (n c : Nat) (vs : List Vn) (lx : Option Addr) (ln lc : Nat) (ls : List (Int × Int)) (id : Int) (w : World) (hp : VS w x n vs) (hn : n ≤ 9223372036854775807) (hnc : n ≤ c) (hl : PS w lx ln ls) (hln : ln ≤ 9223372036854775807) :
    Calls Tryz.prog 5 #[.agg #[.slice x n c, .slice lx ln lc], .int .i64 id] w (TabPost n vs ln ls id w) :=
  table_any x n c vs lx ln lc ls id w hp hn hnc hl hln fun h => sorts_any _ ((RNet.of hp hl h).raw id)

set_option maxRecDepth 100000 in
set_option maxHeartbeats 6400000 in
theorem routeTrue_any (x : Option Addr) (n c : Nat) (vs : List Vn) (lx : Option Addr) (ln lc : Nat) (ls : List (Int × Int)) (id y : Int) (w : World) (hp : VS w x n vs) (hn : n ≤ 9223372036854775807) (hnc : n ≤ c) (hl : PS w lx ln ls) (hln : ln ≤ 9223372036854775807)
    (hy0 : -9223372036854775808 ≤ y) (hy1 : y ≤ 9223372036854775807) :
    Calls Tryz.prog 4 #[.agg #[.slice x n c, .slice lx ln lc], .int .i64 id, .int .i64 y] w fun e w' => e = .returned (.bool true) ∧ Below w.heap.size w w' := by
  go_enter Tryz.func4, Tryz.ntmps4
  go_upto_region 1 with fail
  obtain ⟨w2, hw2⟩ : ∃ w2, w2 = w.alloc (netO x n c lx ln lc) := ⟨_, rfl⟩
  rw [← hw2]
  have h02 : Below w.heap.size w w2 := by rw [hw2]; exact bl1 w _
  have hbox : w2.heap[w.heap.size]? = some (netO x n c lx ln lc) := by rw [hw2]; exact heap_new _ rfl
  clear hw2
  obtain ⟨hcl, -⟩ := box_cells hbox
  have q0 : w2.cell? ⟨w.heap.size, 0, none⟩ = some (.slice x n c) := hcl 0
  have q1 : w2.cell? ⟨w.heap.size, 1, none⟩ = some (.slice lx ln lc) := hcl 1
  clear hcl hbox
  have hp2 := hp.later h02
  have hl2 := hl.later h02
  have hsz : Hid (w.heap.size ≤ w2.heap.size) := h02.size
  have hT := table_full x n c vs lx ln lc ls id w2 hp2 hn hnc hl2 hln
  generalize hbk : w.heap.size = bk at *
  go_wp2_with fail
  refine hT.mono ?_
  rintro e w3 ⟨tv, L, rfl, hO, hs1, -, hb3⟩
  clear hT
  have h03 : Below bk w w3 := h02.trans (hb3.mono hsz.out)
  have hsz3 : Hid (bk ≤ w3.heap.size) := Nat.le_trans hsz.out hb3.size
  by_cases hz : grpE n vs ln ls id = 0
  · have hR := RNet.of hp hl hz
    have hn6 : n ≤ 6 := (chkN_zero hR.chk).1
    have hri : riseVB vs = true := by
      have h1 := (chkN_zero hR.chk).2.2.1
      unfold vpcsB at h1
      rw [Bool.and_eq_true] at h1
      exact h1.1
    have hch := choose_range y 65536 (by omega)
    have hchc := choose_any y 65536 w3 hy0 hy1 (by omega) (by omega)
    generalize hyy : chooseV y 65536 = z at *
    obtain ⟨m1, m2, m3, m4, m5⟩ := hR.table id z (hs1 hz) ⟨hch.1, by omega⟩
    obtain ⟨x8, c8, rfl, h8a, h8b, -, hc8⟩ := hO.mem
    have hL3 : RS w3 x8 L.length L := ⟨rfl, hc8⟩
    clear hc8 hO hs1
    have hm1 : Hid (L.length ≤ 64) := m1
    have hll : ∃ N, N = L.length := ⟨_, rfl⟩
    obtain ⟨N, hN⟩ := hll
    rw [← hN] at hL3 m1 m2 m3 m4 m5 hm1 h8a ⊢
    have hlen : Hid (L.length = N) := hN.symm
    clear hN
    have r0 := cell_later hb3 q0
    have r1 := cell_later hb3 q1
    have hp3 := hp2.later hb3
    clear q0 q1 hb3 hp2 hl2 h02
    rw [hz]
    go_wp2_with fail
    refine hchc.mono ?_
    rintro e w4 ⟨rfl, rfl⟩
    go_wp2
    go_loopw [10, 11] (fun u i wr => ∃ k : Nat, k ≤ N ∧ i = .int .i64 k ∧ u = .int .i64 (cntH L z k : Nat) ∧ Below w4.heap.size w4 wr) (fun _ i _ => N - (intOf i).toNat)
    case atStart => exact ⟨0, by omega, rfl, rfl, Below.refl _ _⟩
    case round =>
      obtain ⟨k, hk, rfl, rfl, hB⟩ := hrel
      by_cases hlt : k < N
      · have hlt' : Hid (k < N) := hlt
        have hcs : Hid (cntH L z (k + 1) = cntH L z k + (if hld (rgAt L k).a (rgAt L k).l z = true then 1 else 0)) := cntH_step (by rw [hlen.out]; exact hlt)
        have hcl : Hid (cntH L z k ≤ 64) := Nat.le_trans (cntH_le L z k) (by rw [hlen.out]; exact m1)
        have hLr := hL3.later hB
        obtain ⟨b8, o8, rfl, d0, d1, d2⟩ := hLr.cells k hlt
        cases hh : hld (rgAt L k).a (rgAt L k).l z
        · go_wp2_with (go_at_call 11; refine (holds_is _ _ _ _ hh _).mono ?_; rintro e w5 ⟨rfl, hb5⟩)
          go_roundw
          case rel => exact ⟨k + 1, hlt'.out, by go_num, by rw [hcs.out, hh]; simp, hB.trans (hb5.mono hB.size)⟩
          case measure => simp [intOf]; have := hlt'.out; omega
        · go_wp2_with (go_at_call 11; refine (holds_is _ _ _ _ hh _).mono ?_; rintro e w5 ⟨rfl, hb5⟩)
          go_roundw
          case rel => exact ⟨k + 1, hlt'.out, by go_num, by
            have := hcl.out
            rw [hcs.out, hh]
            simp only [if_true, Value.int.injEq, true_and]
            unfold wrap64
            omega, hB.trans (hb5.mono hB.size)⟩
          case measure => simp [intOf]; have := hlt'.out; omega
      · obtain rfl : k = N := by omega
        have hLr := hL3.later hB
        have hF := find_any x8 k c8 L z wr hLr (by omega)
        have s0 := cell_later hB r0
        have s1 := cell_later hB r1
        have hpr := hp3.later hB
        have hBr : Below bk w wr := h03.trans (hB.mono hsz3.out)
        have hszr : Hid (bk ≤ wr.heap.size) := Nat.le_trans hsz3.out hB.size
        clear r0 r1 hB hL3 hp3 h03
        have hfv : fndV k L z = if findE k L z = 0 ∧ 0 ≤ bst L z k then .tuple #[.agg #[.int .i64 (rgAt L (bst L z k).toNat).a, .int .i64 (rgAt L (bst L z k).toNat).l, .int .i64 (rgAt L (bst L z k).toNat).p], .bool true, .int .i64 0] else .tuple #[.agg #[.int .i64 0, .int .i64 0, .int .i64 0], .bool false, .int .i64 (findE k L z)] := rfl
        by_cases hb : 0 ≤ bst L z k
        · have hc1 : cntH L z k = 1 := by
            rw [decide_eq_true hb] at m4
            simpa using m4.symm
          obtain ⟨i, hi, hto, kk, hkk, hh⟩ := m5 hb
          rw [if_pos ⟨m2, hb⟩, hto] at hfv
          rw [hfv] at hF
          rw [hc1]
          generalize (rgAt L (bst L z k).toNat).a = fa at hF
          generalize (rgAt L (bst L z k).toNat).l = fl at hF
          clear hfv m2 m3 m4 m5 hb hto hc1
          go_wp2_with fail
          refine hF.mono ?_
          rintro e w5 ⟨rfl, hb5⟩
          have t0 := cell_later hb5 s0
          have t1 := cell_later hb5 s1
          have hp5 := hpr.later hb5
          have hB5 : Below bk w w5 := hBr.trans (hb5.mono hszr.out)
          have hsz5 : Hid (bk ≤ w5.heap.size) := Nat.le_trans hszr.out hb5.size
          clear s0 s1 hpr hBr hF hb5
          go_upto_region 16 with fail
          obtain ⟨w6, hw6⟩ : ∃ w6, w6 = w5.alloc (rtO fa fl (vnAt vs i).id) := ⟨_, rfl⟩
          rw [← hw6]
          have h56 : Below w5.heap.size w5 w6 := by rw [hw6]; exact bl1 w5 _
          have hbox6 : w6.heap[w5.heap.size]? = some (rtO fa fl (vnAt vs i).id) := by rw [hw6]; exact heap_new _ rfl
          clear hw6
          have v2 : w6.cell? ⟨w5.heap.size, 2, none⟩ = some (.int .i64 (vnAt vs i).id) := (box_cells hbox6).1 2
          have v0 := cell_later h56 t0
          have v1 := cell_later h56 t1
          have hp6 := hp5.later h56
          have hB6 : Below bk w w6 := hB5.trans (h56.mono hsz5.out)
          have hsz6 : Hid (bk ≤ w6.heap.size) := Nat.le_trans hsz5.out h56.size
          clear t0 t1 hp5 hB5 h56 hbox6
          generalize w5.heap.size = b5 at *
          go_wp2_with fail
          refine (vpcAt_is x n c vs lx ln lc _ _ (vplace_at hR.vl hri hi) w6 hp6 (by omega)).mono ?_
          rintro e w7 ⟨rfl, hb7⟩
          have hp7 := hp6.later hb7
          have k0 := cell_later hb7 v0
          have hB7 : Below bk w w7 := hB6.trans (hb7.mono hsz6.out)
          have hsz7 : Hid (bk ≤ w7.heap.size) := Nat.le_trans hsz6.out hb7.size
          clear v0 v1 v2 hp6 hB6 hb7
          have hi0 : ¬ ((i : Int) < 0) := by omega
          have hrk := (hp7.vps i hi).2.2.2.ranges
          have hrn4 := ((vpcs_few (chkN_zero hR.chk).2.2.1) i hi).2
          have hany : Hid (anyAt (vnAt vs i).rn (fun j => hld (rgAt (vnAt vs i).rs j).a (rgAt (vnAt vs i).rs j).l z) = true) := any_yes hkk hh
          obtain ⟨bv, ov, hxv, -, c1, -⟩ := hp7.cells i hi
          rw [hxv] at k0
          clear hh hkk
          go_wp2
          go_loopw [16, 17] (fun u q wr => ∃ j : Nat, j ≤ (vnAt vs i).rn ∧ q = .int .i64 j ∧ u = .bool (anyAt j fun j => hld (rgAt (vnAt vs i).rs j).a (rgAt (vnAt vs i).rs j).l z) ∧ Below w7.heap.size w7 wr) (fun _ q _ => (vnAt vs i).rn - (intOf q).toNat)
          case atStart => exact ⟨0, by omega, rfl, rfl, Below.refl _ _⟩
          case round =>
            obtain ⟨j, hj, rfl, rfl, hB⟩ := hrel
            have e0 := cell_later hB k0
            have e1 := cell_later hB c1
            have hst : Hid (anyAt (j + 1) (fun j => hld (rgAt (vnAt vs i).rs j).a (rgAt (vnAt vs i).rs j).l z) = (anyAt j (fun j => hld (rgAt (vnAt vs i).rs j).a (rgAt (vnAt vs i).rs j).l z) || hld (rgAt (vnAt vs i).rs j).a (rgAt (vnAt vs i).rs j).l z)) := by
              show _ = _
              unfold anyAt
              rw [List.range_succ, List.any_append]
              simp
            by_cases hlt : j < (vnAt vs i).rn
            · have hlt' : Hid (j < (vnAt vs i).rn) := hlt
              obtain ⟨br, or, hxr, d0, d1, d2⟩ := (hrk.later hB).cells j hlt
              rw [hxr] at e1
              cases ht : anyAt j (fun j => hld (rgAt (vnAt vs i).rs j).a (rgAt (vnAt vs i).rs j).l z)
              · cases hh : hld (rgAt (vnAt vs i).rs j).a (rgAt (vnAt vs i).rs j).l z
                · go_wp2_with (go_at_call 11; refine (holds_is _ _ _ _ hh _).mono ?_; rintro e w8 ⟨rfl, hb8⟩)
                  go_roundw
                  case rel => exact ⟨j + 1, hlt'.out, by go_num, by rw [hst.out, ht, hh]; rfl, hB.trans (hb8.mono hB.size)⟩
                  case measure => simp [intOf]; have := hlt'.out; omega
                · go_wp2_with (go_at_call 11; refine (holds_is _ _ _ _ hh _).mono ?_; rintro e w8 ⟨rfl, hb8⟩)
                  go_roundw
                  case rel => exact ⟨j + 1, hlt'.out, by go_num, by rw [hst.out, ht, hh]; rfl, hB.trans (hb8.mono hB.size)⟩
                  case measure => simp [intOf]; have := hlt'.out; omega
              · go_wp2
                go_roundw
                case rel => exact ⟨j + 1, hlt'.out, by go_num, by rw [hst.out, ht]; rfl, hB⟩
                case measure => simp [intOf]; have := hlt'.out; omega
            · obtain rfl : j = (vnAt vs i).rn := by omega
              rw [hany.out]
              have hB8 : Below bk w wr := hB7.trans (hB.mono hsz7.out)
              have hsz8 : Hid (bk ≤ wr.heap.size) := Nat.le_trans hsz7.out hB.size
              go_wp2_with (go_at_call 9; refine (routeBegun_any _).mono ?_; rintro e w9 ⟨rfl, hb9⟩)
              go_ret
              exact ⟨rfl, by rw [hbk]; exact hB8.trans (hb9.mono hsz8.out)⟩
        · have hc0 : cntH L z k = 0 := by
            rw [decide_eq_false hb] at m4
            have : cntH L z k ≠ 1 := by simpa using m4.symm
            omega
          rw [if_neg (fun h => hb h.2), m2] at hfv
          rw [hfv] at hF
          rw [hc0]
          clear hfv m2 m3 m4 m5 hb hc0
          go_wp2_with fail
          refine hF.mono ?_
          rintro e w5 ⟨rfl, hb5⟩
          have hB5 : Below bk w w5 := hBr.trans (hb5.mono hszr.out)
          have hsz5 : Hid (bk ≤ w5.heap.size) := Nat.le_trans hszr.out hb5.size
          go_wp2_with fail
          refine (routeBegun_any _).mono ?_
          rintro e w6 ⟨rfl, hb6⟩
          go_wp2
          go_ret
          exact ⟨rfl, by rw [hbk]; exact hB5.trans (((bl1 w5 _).trans (hb6.mono (by simp))).mono hsz5.out)⟩
  · have h2 : (grpE n vs ln ls id != 0) = true := by simpa using hz
    go_wp2_with (go_at_call 9; refine (routeBegun_any _).mono ?_; rintro e w4 ⟨rfl, hb4⟩)
    go_ret
    exact ⟨rfl, by rw [hbk]; exact h03.trans (hb4.mono hsz3.out)⟩
end Go.Proofs.YtgealgjeboainaaGreat
/- What a net that came in is. -/
namespace Go.Proofs.YtgealgjeboainaaGreat
open Go.ChangeShapes Go.WideShapes Go.ChangeAt Go.RowKit Go.Joins

theorem cellsRg : Tryz.prog.cellsOf 48 = 3 := by kernel_rfl
theorem cellsFc : Tryz.prog.cellsOf 83 = 2 := by kernel_rfl
theorem cellsSb : Tryz.prog.cellsOf 78 = 4 := by kernel_rfl
theorem cellsVn : Tryz.prog.cellsOf 46 = 3 := by kernel_rfl
theorem cellsLk : Tryz.prog.cellsOf 57 = 2 := by kernel_rfl
theorem cellsNt : Tryz.prog.cellsOf 25 = 2 := by kernel_rfl
theorem cellsIs : Tryz.prog.cellsOf 50 = 1 := by kernel_rfl
theorem cellsRs : Tryz.prog.cellsOf 43 = 1 := by kernel_rfl
theorem cellsFs : Tryz.prog.cellsOf 76 = 1 := by kernel_rfl
theorem cellsSs : Tryz.prog.cellsOf 44 = 1 := by kernel_rfl
def cI (a : Int) : List Value := [.int .i64 a]
def cV (v : Vn) : List Value := [.int .i64 v.id, .slice v.rx v.rn v.rc, .slice v.sx v.sn v.sc]
def cK (l : Int × Int) : List Value := [.int .i64 l.1, .int .i64 l.2]
def lkAt (ls : List (Int × Int)) (i : Nat) : Int × Int := ls.getD i (0, 0)
section
variable {H : Type} {enc : TypeId × Value → H} {w : World}
theorem trod_in {n : Nat} {cs : List Value} {x : DataW H × List MemPlace} (hl : cs.length = 1) (h : DataW.trod enc Tryz.prog w 0 (fun _ => true) true n 3 cs = some x) : ∃ a : Int, cs = cI a := by
  match cs, hl with
  | [v0], _ =>
    obtain ⟨a, e, -⟩ := DataW.trod_int Tryz.underlying3 h
    simp at e
    exact ⟨a, by rw [e]; rfl⟩
set_option maxRecDepth 20000 in
theorem trod_ins {n : Nat} {v : Value} {y : DataW H × List MemPlace} (h : DataW.trod enc Tryz.prog w 0 (fun _ => true) true n 50 [v] = some y) :
    ∃ (x : Option Addr) (k c : Nat) (es : List Int), v = .slice x k c ∧ IS w x k es ∧ k ≤ c ∧ c ≤ 9223372036854775807 := by
  rcases Deep.open_slice Tryz.underlying50 h with ⟨h0, -⟩ | ⟨a, len, cap, m, k, D, Pl, h1, -, hl, hm, hmm, hx, hcell⟩
  · simp at h0
    exact ⟨none, 0, 0, [], h0, ⟨rfl, fun i hi => by omega⟩, by omega, by omega⟩
  · simp at h1
    subst h1
    simp at hmm
    have hmm' := hmm.symm
    subst hmm'
    clear hmm
    have each : ∀ i, i < cap → ∃ q : Int, (∀ j, j < 1 → w.cell? (a.add (i * 1 + j)) = (cI q)[j]?) := fun i hi => by
      obtain ⟨cs', e1, e2⟩ := hcell i hi
      rw [cells3] at e1
      obtain ⟨-, hlen, hc⟩ := World.cells?_some e1
      obtain ⟨q, rfl⟩ := trod_in hlen e2
      exact ⟨q, fun j hj => by
        have := hc j hj
        rw [Deep.add_add] at this
        exact this⟩
    have : Inhabited Int := ⟨0⟩
    obtain ⟨Q, hQ⟩ := Deep.choose_lt each
    have hmax : cap ≤ 9223372036854775807 := by unfold maxLen at hm; omega
    by_cases hn0 : len = 0
    · subst hn0
      exact ⟨some a, 0, cap, [], rfl, ⟨rfl, fun i hi => by omega⟩, by omega, hmax⟩
    · have hsp : a.spot = none := by
        have h0 := hQ 0 (by omega) 0 (by omega)
        have h1 : w.cell? (a.add (0 * 1 + 0)) = some (.int .i64 (Q 0)) := h0
        have := World.cell?_spot h1
        simpa [Addr.add] using this
      obtain ⟨b, o, sp⟩ := a
      simp only at hsp
      subst hsp
      have hat : ∀ i, i < len → inAt ((List.range len).map Q) i = Q i := fun i hi => by unfold inAt; rw [List.getD_eq_getElem?_getD, List.getElem?_map, List.getElem?_range hi]; rfl
      have e : ∀ i, i < len → ∀ j, j < 1 → ∀ u, (cI (Q i))[j]? = some u → w.cell? ⟨b, o + i * 1 + j, none⟩ = some u := fun i hi j hj u hu => by
        have := hQ i (by omega) j hj
        rw [addr_add, hu, ← Nat.add_assoc] at this
        exact this
      refine ⟨some ⟨b, o, none⟩, len, cap, (List.range len).map Q, rfl, ?_, hl, hmax⟩
      exact ⟨by simp, fun i hi => ⟨b, o, rfl, by rw [hat i hi]; have := e i hi 0 (by omega) _ rfl; simpa using this⟩⟩
set_option maxRecDepth 20000 in
theorem trod_fc {n : Nat} {cs : List Value} {x : DataW H × List MemPlace} (hl : cs.length = 2) (h : DataW.trod enc Tryz.prog w 0 (fun _ => true) true n 83 cs = some x) : ∃ f : Fc, cs = cF f ∧ f.n ≤ f.c ∧ f.n ≤ 9223372036854775807 ∧ IS w f.x f.n f.ns := by
  obtain ⟨xs, k, -, -, -, hxl, hf⟩ := DataW.trod_struct Tryz.underlying83 h
  match cs, hl with
  | [v0, v1], _ =>
    have g0 := hf 0 _ rfl
    have g1 := hf 1 _ rfl
    have y : ∀ i, i < 2 → (xs[i]?).isSome = true := fun i hi => some_at hxl hi
    simp [cells3, cellsIs] at g0 g1
    obtain ⟨a0, rfl⟩ := int_of (y 0 (by omega)) g0
    obtain ⟨z1, h1⟩ := Option.isSome_iff_exists.1 (y 1 (by omega))
    rw [h1] at g1
    obtain ⟨lx, ln, lc, ls, rfl, hLS, hlc, hlm⟩ := trod_ins g1
    exact ⟨⟨a0, lx, ln, lc, ls⟩, rfl, hlc, Nat.le_trans hlc hlm, hLS⟩
set_option maxRecDepth 20000 in
theorem trod_fcs {n : Nat} {v : Value} {y : DataW H × List MemPlace} (h : DataW.trod enc Tryz.prog w 0 (fun _ => true) true n 76 [v] = some y) :
    ∃ (x : Option Addr) (k c : Nat) (es : List Fc), v = .slice x k c ∧ FcS w x k es ∧ k ≤ c ∧ c ≤ 9223372036854775807 := by
  rcases Deep.open_slice Tryz.underlying76 h with ⟨h0, -⟩ | ⟨a, len, cap, m, k, D, Pl, h1, -, hl, hm, hmm, hx, hcell⟩
  · simp at h0
    exact ⟨none, 0, 0, [], h0, ⟨rfl, fun i hi => by omega, fun i hi => by omega⟩, by omega, by omega⟩
  · simp at h1
    subst h1
    simp at hmm
    have hmm' := hmm.symm
    subst hmm'
    clear hmm
    have each : ∀ i, i < cap → ∃ q : Fc, (∀ j, j < 2 → w.cell? (a.add (i * 2 + j)) = (cF q)[j]?) ∧ q.n ≤ q.c ∧ q.n ≤ 9223372036854775807 ∧ IS w q.x q.n q.ns := fun i hi => by
      obtain ⟨cs', e1, e2⟩ := hcell i hi
      rw [cellsFc] at e1
      obtain ⟨-, hlen, hc⟩ := World.cells?_some e1
      obtain ⟨q, rfl, hq⟩ := trod_fc hlen e2
      exact ⟨q, fun j hj => by
        have := hc j hj
        rw [Deep.add_add] at this
        exact this, hq⟩
    have : Inhabited Fc := ⟨fcZ⟩
    obtain ⟨Q, hQ⟩ := Deep.choose_lt each
    have hmax : cap ≤ 9223372036854775807 := by unfold maxLen at hm; omega
    by_cases hn0 : len = 0
    · subst hn0
      exact ⟨some a, 0, cap, [], rfl, ⟨rfl, fun i hi => by omega, fun i hi => by omega⟩, by omega, hmax⟩
    · have hsp : a.spot = none := by
        have h0 := (hQ 0 (by omega)).1 0 (by omega)
        have h1 : w.cell? (a.add (0 * 2 + 0)) = some (.int .i64 (Q 0).id) := h0
        have := World.cell?_spot h1
        simpa [Addr.add] using this
      obtain ⟨b, o, sp⟩ := a
      simp only at hsp
      subst hsp
      have hat : ∀ i, i < len → fcAt ((List.range len).map Q) i = Q i := fun i hi => by unfold fcAt; rw [List.getD_eq_getElem?_getD, List.getElem?_map, List.getElem?_range hi]; rfl
      have e : ∀ i, i < len → ∀ j, j < 2 → ∀ u, (cF (Q i))[j]? = some u → w.cell? ⟨b, o + i * 2 + j, none⟩ = some u := fun i hi j hj u hu => by
        have := (hQ i (by omega)).1 j hj
        rw [addr_add, hu, ← Nat.add_assoc] at this
        exact this
      refine ⟨some ⟨b, o, none⟩, len, cap, (List.range len).map Q, rfl, ?_, hl, hmax⟩
      exact ⟨by simp, fun i hi => ⟨b, o, rfl, by rw [hat i hi]; exact ⟨e i hi 0 (by omega) _ rfl, e i hi 1 (by omega) _ rfl⟩⟩, fun i hi => by rw [hat i hi]; exact (hQ i (by omega)).2⟩
set_option maxRecDepth 20000 in
theorem trod_sb {n : Nat} {cs : List Value} {x : DataW H × List MemPlace} (hl : cs.length = 4) (h : DataW.trod enc Tryz.prog w 0 (fun _ => true) true n 78 cs = some x) : ∃ f : Sb, cs = cS f ∧ f.n ≤ f.c ∧ f.n ≤ 9223372036854775807 ∧ FcS w f.x f.n f.fs := by
  obtain ⟨xs, k, -, -, -, hxl, hf⟩ := DataW.trod_struct Tryz.underlying78 h
  match cs, hl with
  | [v0, v1, v2, v3], _ =>
    have g0 := hf 0 _ rfl
    have g1 := hf 1 _ rfl
    have g2 := hf 2 _ rfl
    have y : ∀ i, i < 3 → (xs[i]?).isSome = true := fun i hi => some_at hxl hi
    simp [cells3, cellsP, cellsFs] at g0 g1 g2
    obtain ⟨a0, rfl⟩ := int_of (y 0 (by omega)) g0
    obtain ⟨z1, h1⟩ := Option.isSome_iff_exists.1 (y 1 (by omega))
    obtain ⟨z2, h2⟩ := Option.isSome_iff_exists.1 (y 2 (by omega))
    rw [h1] at g1
    rw [h2] at g2
    obtain ⟨us, k4, -, -, -, hul, hu⟩ := DataW.trod_struct Tryz.underlying34 g1
    have p0 := hu 0 _ rfl
    have p1 := hu 1 _ rfl
    simp [cells3] at p0 p1
    obtain ⟨a1, rfl⟩ := int_of (some_at hul (by decide)) p0
    obtain ⟨a2, rfl⟩ := int_of (some_at hul (by decide)) p1
    obtain ⟨lx, ln, lc, ls, rfl, hLS, hlc, hlm⟩ := trod_fcs g2
    exact ⟨⟨a0, a1, a2, lx, ln, lc, ls⟩, rfl, hlc, Nat.le_trans hlc hlm, hLS⟩
set_option maxRecDepth 20000 in
theorem trod_sbs {n : Nat} {v : Value} {y : DataW H × List MemPlace} (h : DataW.trod enc Tryz.prog w 0 (fun _ => true) true n 44 [v] = some y) :
    ∃ (x : Option Addr) (k c : Nat) (es : List Sb), v = .slice x k c ∧ SS w x k es ∧ k ≤ c ∧ c ≤ 9223372036854775807 := by
  rcases Deep.open_slice Tryz.underlying44 h with ⟨h0, -⟩ | ⟨a, len, cap, m, k, D, Pl, h1, -, hl, hm, hmm, hx, hcell⟩
  · simp at h0
    exact ⟨none, 0, 0, [], h0, ⟨rfl, fun i hi => by omega, fun i hi => by omega⟩, by omega, by omega⟩
  · simp at h1
    subst h1
    simp at hmm
    have hmm' := hmm.symm
    subst hmm'
    clear hmm
    have each : ∀ i, i < cap → ∃ q : Sb, (∀ j, j < 4 → w.cell? (a.add (i * 4 + j)) = (cS q)[j]?) ∧ q.n ≤ q.c ∧ q.n ≤ 9223372036854775807 ∧ FcS w q.x q.n q.fs := fun i hi => by
      obtain ⟨cs', e1, e2⟩ := hcell i hi
      rw [cellsSb] at e1
      obtain ⟨-, hlen, hc⟩ := World.cells?_some e1
      obtain ⟨q, rfl, hq⟩ := trod_sb hlen e2
      exact ⟨q, fun j hj => by
        have := hc j hj
        rw [Deep.add_add] at this
        exact this, hq⟩
    have : Inhabited Sb := ⟨sbZ⟩
    obtain ⟨Q, hQ⟩ := Deep.choose_lt each
    have hmax : cap ≤ 9223372036854775807 := by unfold maxLen at hm; omega
    by_cases hn0 : len = 0
    · subst hn0
      exact ⟨some a, 0, cap, [], rfl, ⟨rfl, fun i hi => by omega, fun i hi => by omega⟩, by omega, hmax⟩
    · have hsp : a.spot = none := by
        have h0 := (hQ 0 (by omega)).1 0 (by omega)
        have h1 : w.cell? (a.add (0 * 4 + 0)) = some (.int .i64 (Q 0).id) := h0
        have := World.cell?_spot h1
        simpa [Addr.add] using this
      obtain ⟨b, o, sp⟩ := a
      simp only at hsp
      subst hsp
      have hat : ∀ i, i < len → sbAt ((List.range len).map Q) i = Q i := fun i hi => by unfold sbAt; rw [List.getD_eq_getElem?_getD, List.getElem?_map, List.getElem?_range hi]; rfl
      have e : ∀ i, i < len → ∀ j, j < 4 → ∀ u, (cS (Q i))[j]? = some u → w.cell? ⟨b, o + i * 4 + j, none⟩ = some u := fun i hi j hj u hu => by
        have := (hQ i (by omega)).1 j hj
        rw [addr_add, hu, ← Nat.add_assoc] at this
        exact this
      refine ⟨some ⟨b, o, none⟩, len, cap, (List.range len).map Q, rfl, ?_, hl, hmax⟩
      exact ⟨by simp, fun i hi => ⟨b, o, rfl, by rw [hat i hi]; exact ⟨e i hi 0 (by omega) _ rfl, e i hi 1 (by omega) _ rfl, e i hi 2 (by omega) _ rfl, e i hi 3 (by omega) _ rfl⟩⟩, fun i hi => by rw [hat i hi]; exact (hQ i (by omega)).2⟩
set_option maxRecDepth 20000 in
theorem trod_rg {n : Nat} {cs : List Value} {x : DataW H × List MemPlace} (hl : cs.length = 3) (h : DataW.trod enc Tryz.prog w 0 (fun _ => true) true n 48 cs = some x) : ∃ c : Rg, cs = cR c := by
  obtain ⟨xs, k, -, -, -, hxl, hf⟩ := DataW.trod_struct Tryz.underlying48 h
  match cs, hl with
  | [v0, v1, v2], _ =>
    have g0 := hf 0 _ rfl
    have g1 := hf 1 _ rfl
    have y : ∀ i, i < 2 → (xs[i]?).isSome = true := fun i hi => some_at hxl hi
    simp [cells3, cellsP] at g0 g1
    obtain ⟨a2, rfl⟩ := int_of (y 1 (by omega)) g1
    obtain ⟨z4, h4⟩ := Option.isSome_iff_exists.1 (y 0 (by omega))
    rw [h4] at g0
    obtain ⟨us, k4, -, -, -, hul, hu⟩ := DataW.trod_struct Tryz.underlying34 g0
    have p0 := hu 0 _ rfl
    have p1 := hu 1 _ rfl
    simp [cells3] at p0 p1
    obtain ⟨a0, rfl⟩ := int_of (some_at hul (by decide)) p0
    obtain ⟨a1, rfl⟩ := int_of (some_at hul (by decide)) p1
    exact ⟨⟨a0, a1, a2⟩, rfl⟩
set_option maxRecDepth 20000 in
theorem trod_rgs {n : Nat} {v : Value} {y : DataW H × List MemPlace} (h : DataW.trod enc Tryz.prog w 0 (fun _ => true) true n 43 [v] = some y) :
    ∃ (x : Option Addr) (k c : Nat) (es : List Rg), v = .slice x k c ∧ RS w x k es ∧ k ≤ c ∧ c ≤ 9223372036854775807 := by
  rcases Deep.open_slice Tryz.underlying43 h with ⟨h0, -⟩ | ⟨a, len, cap, m, k, D, Pl, h1, -, hl, hm, hmm, hx, hcell⟩
  · simp at h0
    exact ⟨none, 0, 0, [], h0, ⟨rfl, fun i hi => by omega⟩, by omega, by omega⟩
  · simp at h1
    subst h1
    simp at hmm
    have hmm' := hmm.symm
    subst hmm'
    clear hmm
    have each : ∀ i, i < cap → ∃ q : Rg, (∀ j, j < 3 → w.cell? (a.add (i * 3 + j)) = (cR q)[j]?) := fun i hi => by
      obtain ⟨cs', e1, e2⟩ := hcell i hi
      rw [cellsRg] at e1
      obtain ⟨-, hlen, hc⟩ := World.cells?_some e1
      obtain ⟨q, rfl⟩ := trod_rg hlen e2
      exact ⟨q, fun j hj => by
        have := hc j hj
        rw [Deep.add_add] at this
        exact this⟩
    have : Inhabited Rg := ⟨rgZ⟩
    obtain ⟨Q, hQ⟩ := Deep.choose_lt each
    have hmax : cap ≤ 9223372036854775807 := by unfold maxLen at hm; omega
    by_cases hn0 : len = 0
    · subst hn0
      exact ⟨some a, 0, cap, [], rfl, ⟨rfl, fun i hi => by omega⟩, by omega, hmax⟩
    · have hsp : a.spot = none := by
        have h0 := hQ 0 (by omega) 0 (by omega)
        have h1 : w.cell? (a.add (0 * 3 + 0)) = some (.int .i64 (Q 0).a) := h0
        have := World.cell?_spot h1
        simpa [Addr.add] using this
      obtain ⟨b, o, sp⟩ := a
      simp only at hsp
      subst hsp
      have hat : ∀ i, i < len → rgAt ((List.range len).map Q) i = Q i := fun i hi => by unfold rgAt; rw [List.getD_eq_getElem?_getD, List.getElem?_map, List.getElem?_range hi]; rfl
      have e : ∀ i, i < len → ∀ j, j < 3 → ∀ u, (cR (Q i))[j]? = some u → w.cell? ⟨b, o + i * 3 + j, none⟩ = some u := fun i hi j hj u hu => by
        have := hQ i (by omega) j hj
        rw [addr_add, hu, ← Nat.add_assoc] at this
        exact this
      refine ⟨some ⟨b, o, none⟩, len, cap, (List.range len).map Q, rfl, ?_, hl, hmax⟩
      exact ⟨by simp, fun i hi => ⟨b, o, rfl, by rw [hat i hi]; exact ⟨e i hi 0 (by omega) _ rfl, e i hi 1 (by omega) _ rfl, e i hi 2 (by omega) _ rfl⟩⟩⟩
set_option maxRecDepth 20000 in
theorem trod_vn {n : Nat} {cs : List Value} {x : DataW H × List MemPlace} (hl : cs.length = 3) (h : DataW.trod enc Tryz.prog w 0 (fun _ => true) true n 46 cs = some x) : ∃ v : Vn, cs = cV v ∧ v.rn ≤ 9223372036854775807 ∧ v.sn ≤ 9223372036854775807 ∧ v.rc ≤ 9223372036854775807 ∧ Vp w v.rx v.rn v.rc v.rs v.sx v.sn v.sc v.ss := by
  obtain ⟨xs, k, -, -, -, hxl, hf⟩ := DataW.trod_struct Tryz.underlying46 h
  match cs, hl with
  | [v0, v1, v2], _ =>
    have g0 := hf 0 _ rfl
    have g1 := hf 1 _ rfl
    have g2 := hf 2 _ rfl
    have y : ∀ i, i < 3 → (xs[i]?).isSome = true := fun i hi => some_at hxl hi
    simp [cells3, cellsRs, cellsSs] at g0 g1 g2
    obtain ⟨a0, rfl⟩ := int_of (y 0 (by omega)) g0
    obtain ⟨z1, h1⟩ := Option.isSome_iff_exists.1 (y 1 (by omega))
    obtain ⟨z2, h2⟩ := Option.isSome_iff_exists.1 (y 2 (by omega))
    rw [h1] at g1
    rw [h2] at g2
    obtain ⟨rx, rn, rc, rs, rfl, hRS, hrc, hrm⟩ := trod_rgs g1
    obtain ⟨sx, sn, sc, ss, rfl, hSS, hsc, hsm⟩ := trod_sbs g2
    exact ⟨⟨a0, rx, rn, rc, rs, sx, sn, sc, ss⟩, rfl, Nat.le_trans hrc hrm, Nat.le_trans hsc hsm, hrm, ⟨hrc, hsc, hRS, hSS⟩⟩
set_option maxRecDepth 20000 in
theorem trod_vns {n : Nat} {v : Value} {y : DataW H × List MemPlace} (h : DataW.trod enc Tryz.prog w 0 (fun _ => true) true n 22 [v] = some y) :
    ∃ (x : Option Addr) (k c : Nat) (es : List Vn), v = .slice x k c ∧ VS w x k es ∧ k ≤ c ∧ c ≤ 9223372036854775807 := by
  rcases Deep.open_slice Tryz.underlying22 h with ⟨h0, -⟩ | ⟨a, len, cap, m, k, D, Pl, h1, -, hl, hm, hmm, hx, hcell⟩
  · simp at h0
    exact ⟨none, 0, 0, [], h0, ⟨rfl, fun i hi => by omega, fun i hi => by omega⟩, by omega, by omega⟩
  · simp at h1
    subst h1
    simp at hmm
    have hmm' := hmm.symm
    subst hmm'
    clear hmm
    have each : ∀ i, i < cap → ∃ q : Vn, (∀ j, j < 3 → w.cell? (a.add (i * 3 + j)) = (cV q)[j]?) ∧ q.rn ≤ 9223372036854775807 ∧ q.sn ≤ 9223372036854775807 ∧ q.rc ≤ 9223372036854775807 ∧ Vp w q.rx q.rn q.rc q.rs q.sx q.sn q.sc q.ss := fun i hi => by
      obtain ⟨cs', e1, e2⟩ := hcell i hi
      rw [cellsVn] at e1
      obtain ⟨-, hlen, hc⟩ := World.cells?_some e1
      obtain ⟨q, rfl, hq⟩ := trod_vn hlen e2
      exact ⟨q, fun j hj => by
        have := hc j hj
        rw [Deep.add_add] at this
        exact this, hq⟩
    have : Inhabited Vn := ⟨vnZ⟩
    obtain ⟨Q, hQ⟩ := Deep.choose_lt each
    have hmax : cap ≤ 9223372036854775807 := by unfold maxLen at hm; omega
    by_cases hn0 : len = 0
    · subst hn0
      exact ⟨some a, 0, cap, [], rfl, ⟨rfl, fun i hi => by omega, fun i hi => by omega⟩, by omega, hmax⟩
    · have hsp : a.spot = none := by
        have h0 := (hQ 0 (by omega)).1 0 (by omega)
        have h1 : w.cell? (a.add (0 * 3 + 0)) = some (.int .i64 (Q 0).id) := h0
        have := World.cell?_spot h1
        simpa [Addr.add] using this
      obtain ⟨b, o, sp⟩ := a
      simp only at hsp
      subst hsp
      have hat : ∀ i, i < len → vnAt ((List.range len).map Q) i = Q i := fun i hi => by unfold vnAt; rw [List.getD_eq_getElem?_getD, List.getElem?_map, List.getElem?_range hi]; rfl
      have e : ∀ i, i < len → ∀ j, j < 3 → ∀ u, (cV (Q i))[j]? = some u → w.cell? ⟨b, o + i * 3 + j, none⟩ = some u := fun i hi j hj u hu => by
        have := (hQ i (by omega)).1 j hj
        rw [addr_add, hu, ← Nat.add_assoc] at this
        exact this
      refine ⟨some ⟨b, o, none⟩, len, cap, (List.range len).map Q, rfl, ?_, hl, hmax⟩
      exact ⟨by simp, fun i hi => ⟨b, o, rfl, by rw [hat i hi]; exact ⟨e i hi 0 (by omega) _ rfl, e i hi 1 (by omega) _ rfl, e i hi 2 (by omega) _ rfl⟩⟩, fun i hi => by rw [hat i hi]; exact (hQ i (by omega)).2⟩
set_option maxRecDepth 20000 in
theorem trod_lk {n : Nat} {cs : List Value} {x : DataW H × List MemPlace} (hl : cs.length = 2) (h : DataW.trod enc Tryz.prog w 0 (fun _ => true) true n 57 cs = some x) : ∃ l : Int × Int, cs = cK l := by
  obtain ⟨xs, k, -, -, -, hxl, hf⟩ := DataW.trod_struct Tryz.underlying57 h
  match cs, hl with
  | [v0, v1], _ =>
    have g0 := hf 0 _ rfl
    have g1 := hf 1 _ rfl
    have y : ∀ i, i < 2 → (xs[i]?).isSome = true := fun i hi => some_at hxl hi
    simp [cells3] at g0 g1
    obtain ⟨a0, rfl⟩ := int_of (y 0 (by omega)) g0
    obtain ⟨a1, rfl⟩ := int_of (y 1 (by omega)) g1
    exact ⟨(a0, a1), rfl⟩
set_option maxRecDepth 20000 in
theorem trod_lks {n : Nat} {v : Value} {y : DataW H × List MemPlace} (h : DataW.trod enc Tryz.prog w 0 (fun _ => true) true n 23 [v] = some y) :
    ∃ (x : Option Addr) (k c : Nat) (es : List (Int × Int)), v = .slice x k c ∧ PS w x k es ∧ k ≤ c ∧ c ≤ 9223372036854775807 := by
  rcases Deep.open_slice Tryz.underlying23 h with ⟨h0, -⟩ | ⟨a, len, cap, m, k, D, Pl, h1, -, hl, hm, hmm, hx, hcell⟩
  · simp at h0
    exact ⟨none, 0, 0, [], h0, ⟨rfl, fun i hi => by omega⟩, by omega, by omega⟩
  · simp at h1
    subst h1
    simp at hmm
    have hmm' := hmm.symm
    subst hmm'
    clear hmm
    have each : ∀ i, i < cap → ∃ q : (Int × Int), (∀ j, j < 2 → w.cell? (a.add (i * 2 + j)) = (cK q)[j]?) := fun i hi => by
      obtain ⟨cs', e1, e2⟩ := hcell i hi
      rw [cellsLk] at e1
      obtain ⟨-, hlen, hc⟩ := World.cells?_some e1
      obtain ⟨q, rfl⟩ := trod_lk hlen e2
      exact ⟨q, fun j hj => by
        have := hc j hj
        rw [Deep.add_add] at this
        exact this⟩
    have : Inhabited (Int × Int) := ⟨(0, 0)⟩
    obtain ⟨Q, hQ⟩ := Deep.choose_lt each
    have hmax : cap ≤ 9223372036854775807 := by unfold maxLen at hm; omega
    by_cases hn0 : len = 0
    · subst hn0
      exact ⟨some a, 0, cap, [], rfl, ⟨rfl, fun i hi => by omega⟩, by omega, hmax⟩
    · have hsp : a.spot = none := by
        have h0 := hQ 0 (by omega) 0 (by omega)
        have h1 : w.cell? (a.add (0 * 2 + 0)) = some (.int .i64 (Q 0).1) := h0
        have := World.cell?_spot h1
        simpa [Addr.add] using this
      obtain ⟨b, o, sp⟩ := a
      simp only at hsp
      subst hsp
      have hat : ∀ i, i < len → lkAt ((List.range len).map Q) i = Q i := fun i hi => by unfold lkAt; rw [List.getD_eq_getElem?_getD, List.getElem?_map, List.getElem?_range hi]; rfl
      have e : ∀ i, i < len → ∀ j, j < 2 → ∀ u, (cK (Q i))[j]? = some u → w.cell? ⟨b, o + i * 2 + j, none⟩ = some u := fun i hi j hj u hu => by
        have := hQ i (by omega) j hj
        rw [addr_add, hu, ← Nat.add_assoc] at this
        exact this
      refine ⟨some ⟨b, o, none⟩, len, cap, (List.range len).map Q, rfl, ?_, hl, hmax⟩
      exact ⟨by simp, fun i hi => ⟨b, o, rfl, by rw [show at0 ((List.range len).map Q) i = (Q i).1 from congrArg Prod.fst (hat i hi), show at1 ((List.range len).map Q) i = (Q i).2 from congrArg Prod.snd (hat i hi)]; exact ⟨e i hi 0 (by omega) _ rfl, e i hi 1 (by omega) _ rfl⟩⟩⟩
end
set_option maxRecDepth 100000 in
theorem open_net {H : Type} {enc : TypeId × Value → H} {w : World} {r : Reach} {b0 : Nat} {v : Value} {d : DataW H} {p : List MemPlace}
    (hv : Value.okWide Tryz.prog w r b0 25 v) (h : DataW.Trod enc Tryz.prog w 0 (fun _ => true) true 25 v d p) :
    ∃ (x : Option Addr) (n c : Nat) (vs : List Vn) (lx : Option Addr) (ln lc : Nat) (ls : List (Int × Int)), v = .agg #[.slice x n c, .slice lx ln lc] ∧ VS w x n vs ∧ n ≤ c ∧ c ≤ 9223372036854775807 ∧ PS w lx ln ls ∧ ln ≤ lc ∧ lc ≤ 9223372036854775807 := by
  obtain ⟨c0, c1, y0, y1, m0, rfl, hd, -, hy0, hy1⟩ := open_agg2 Tryz.underlying25 (by kernel_rfl) cellsNt hv h
  obtain ⟨x, n, c, vs, rfl, h1, h2, h3⟩ := trod_vns hy0
  obtain ⟨lx, ln, lc, ls, rfl, h4, h5, h6⟩ := trod_lks hy1
  exact ⟨x, n, c, vs, lx, ln, lc, ls, rfl, h1, h2, h3, h4, h5, h6⟩
end Go.Proofs.YtgealgjeboainaaGreat
