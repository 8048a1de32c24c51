/- A part of the proof. -/
import Derived.Test.YtndpilfpejfloaaGreatMC09
set_option maxRecDepth 100000
set_option maxHeartbeats 20000000
namespace Go.Proofs.YtndpilfpejfloaaGreat
variable {w w' W : World} {bm n rn sn i g j base c hx ln base' : Nat} {s : Sb} {e : Ending} {vid a sub y z E b : Int} {rs : List Rg} {ss ts : List Sb} {T : Nat → Bool} {listed : Array Bool} {P : Program} {ops : Array Oper} {Q : Exit → Act → World → Prop} {S C : World → Prop} {oi o : Oper} {v V : Value} {l rest : List Oper} {x : Option Addr} {gs fs : List Fc} {cur cs : Array Value} {ns : List Int} {A : Act} {ls ms es : List (Int × Int)} {vs : List Vn} {r : Rg} {t : TypeId} {fr : Nat × Nat} {ad : Addr}
open Go.RowKit Go.Shelf Go.Maps
theorem qR {D : DataW Unit} (h : w.ownsMap Tryz.prog 3 (plainElem Tryz.prog 3) bm n D) (hb : Below w.heap.size w w') : w'.ownsMap Tryz.prog 3 (plainElem Tryz.prog 3) bm n D := by
 obtain ⟨es, cl, h1, h2⟩ := h
 exact ⟨es, cl, aA hb h1, h2⟩
def LJ (s : Sb) (w : World) (e : Ending) (w' : World) : Prop :=
 Below w.heap.size w w' ∧ ((∃ y, e = .returned (.tuple #[.int .i64 y, .bool true]) ∧ qN s.a s.l y = true ∧ y ∉ aN s.fs ∧ ∀ z, s.a < z → z < y → z ∈ aN s.fs) ∨ (e = .returned (.tuple #[.int .i64 0, .bool false]) ∧ ∀ z, qN s.a s.l z = true → z ∈ aN s.fs))
theorem LK (s : Sb) (w : World) (hrt : rt s.a s.l = true) (hp : tL w s.x s.n s.fs) (hn : s.n ≤ 64) (hm : ∀ i, i < s.n → (fcAt s.fs i).n ≤ 64)
  (hr : ∀ i, i < s.n → ∀ j, j < (fcAt s.fs i).n → 0 ≤ bP (fcAt s.fs i).ns j ∧ bP (fcAt s.fs i).ns j ≤ 1000000) :
  Calls Tryz.prog 192 #[.agg #[.int .i64 s.id, .int .i64 s.a, .int .i64 s.l, .slice s.x s.n s.c]] w (LJ s w) := by
 obtain ⟨h0, h1, h2, h3, h4⟩ := bO hrt
 obtain ⟨s0, s1⟩ := yP h0 h1
 have hus := fun x W => usable_any s.a s.l x W hrt
 go_enter Tryz.func192, Tryz.ntmps192
 go_upto_region 1 with fail
 obtain ⟨w0, hw0⟩ : ∃ w0, w0 = w.alloc (T5 s) := ⟨_, rfl⟩
 rw [← hw0]
 have hB0 : Below w.heap.size w w0 := by rw [hw0]; exact bl1 w _
 have hb0 : w0.heap[w.heap.size]? = some (T5 s) := by rw [hw0]; exact aB _ rfl
 clear hw0
 obtain ⟨c0, c1, c2, c3⟩ := dN hb0 rfl rfl rfl rfl
 go_wp2_with fail
 refine (yR s.id s.a s.l s.x s.n s.c s.fs w0 (hp.later hB0) hn hm hr).mono ?_
 rintro e w1 ⟨bm, D, rfl, hbm, hO, hC, hb1⟩
 have hb1x := aA hb1 hb0
 have hB1 : Below w.heap.size w w1 := hB0.trans (hb1.mono hB0.size)
 clear c0 c1 c2 c3
 have c1 := aX hb1x 1 rfl
 have hwr : IntKind.i64.wrap (s.a + 1) = s.a + 1 := by rw [IntKind.wrap_i64]; omega
 go_wp2
 clear c1 hwr
 go_loopw [5] (fun i wr => ∃ y : Int, i = .int .i64 y ∧ s.a < y ∧ y ≤ s.a + sp s.l + 1 ∧ (∀ z, s.a < z → z < y → z ∈ aN s.fs) ∧ wr.ownsMap Tryz.prog 3 (plainElem Tryz.prog 3) bm (aN s.fs).length D ∧ wr.heap[w.heap.size]? = some (T5 s) ∧ Below w.heap.size w wr) (fun i _ => (s.a + sp s.l + 1 - intOf i).toNat)
 case atStart => exact ⟨s.a + 1, rfl, by omega, by omega, fun z h5 h6 => by omega, hO, hb1x, hB1⟩
 case round =>
  obtain ⟨y, rfl, hy1, hy2, hall, hOr, hbr, hBr⟩ := hrel
  have d1 := aX hbr 1 rfl
  have d2 := aX hbr 2 rfl
  have hcall := hus y wr
  cases hu : qN s.a s.l y with
  | false =>
   rw [hu] at hcall
   have hHy : Hid (∀ z, qN s.a s.l z = true → z ∈ aN s.fs) := fun z hz => by
    simp only [qN, Bool.and_eq_false_iff, decide_eq_false_iff_not, zH, decide_eq_true_eq] at hu hz
    exact hall z hz.1 (by omega)
   clear hall hu
   go_wp2_with fail
   refine hcall.mono ?_
   rintro e w2 ⟨rfl, hb2⟩
   have hB2 := hBr.trans (hb2.mono hBr.size)
   go_wp2
   refine bodyPost_ret (v := .tuple #[.int .i64 0, .bool false]) (by simp [results, Tryz.results192, go_sem]) rfl ?_
   exact ⟨hB2, .inr ⟨rfl, hHy.out⟩⟩
  | true =>
   rw [hu] at hcall
   have hu' : Hid (qN s.a s.l y = true) := hu
   have hyl : Hid (y < s.a + sp s.l - 1) := by
    simp only [qN, zH, decide_eq_true_eq] at hu
    exact hu.2
   clear hu
   have hkey : keyOf Tryz.prog 3 (.int .i64 y) = some (.int .i64 y) := keyOf_int_mk under_int (gI (by omega) (by omega))
   have hat := hC.at_ y
   have hall' : Hid (∀ z, s.a < z → z < y → z ∈ aN s.fs) := hall
   clear hall
   by_cases hmem : y ∈ aN s.fs
   ·have hcn : Hid (((aN s.fs).count y : Int) ≠ 0) := by
     have := List.count_pos_iff.2 hmem
     unfold Hid
     omega
    have hmem' : Hid (y ∈ aN s.fs) := hmem
    clear hmem
    go_wp2_with fail
    refine hcall.mono ?_
    rintro e w2 ⟨rfl, hb2⟩
    have hB2 := hBr.trans (hb2.mono hBr.size)
    have hO2 := qR hOr hb2
    have hbx2 := aA hb2 hbr
    have hwr : IntKind.i64.wrap (y + 1) = y + 1 := by rw [IntKind.wrap_i64]; omega
    clear d1 d2 hcall
    go_wp2_with (first | (at_lookup; refine wpList_lookup_own_int _ rfl _ _ 254 rfl 3 3 .i64 key_law under_uses under_int (zero_int _) bm _ _ rfl hO2 _ _ rfl hkey ?_; intro cc hat2 hwc; have hcc : ¬ cc = 0 := (by rw [hat] at hat2; cases hat2; exact hcn.out)) | go_in)
    go_roundw
    case rel => exact ⟨y + 1, by go_num, by omega, by have := hyl.out; omega, fun z h5 h6 => by
     by_cases e : z = y
     ·rw [e]; exact hmem'.out
     ·exact hall'.out z h5 (by omega), hO2, hbx2, hB2⟩
    case measure => simp [intOf]; have := hyl.out; omega
   ·have hcn : Hid ((aN s.fs).count y = 0) := List.count_eq_zero.2 hmem
    have hmem' : Hid (y ∉ aN s.fs) := hmem
    clear hmem
    go_wp2_with fail
    refine hcall.mono ?_
    rintro e w2 ⟨rfl, hb2⟩
    have hB2 := hBr.trans (hb2.mono hBr.size)
    have hO2 := qR hOr hb2
    clear d1 d2 hcall
    go_wp2_with (first | (at_lookup; refine wpList_lookup_own_int _ rfl _ _ 254 rfl 3 3 .i64 key_law under_uses under_int (zero_int _) bm _ _ rfl hO2 _ _ rfl hkey ?_; intro cc hat2 hwc; obtain rfl : cc = 0 := (by rw [hat, hcn.out] at hat2; cases hat2; rfl)) | go_in)
    refine bodyPost_ret (v := .tuple #[.int .i64 y, .bool true]) (by simp [results, Tryz.results192, go_sem]) rfl ?_
    exact ⟨hB2, .inl ⟨y, rfl, hu'.out, hmem'.out, hall'.out⟩⟩
structure nF (s : Sb) (y : Int) : Prop where
 use : qN s.a s.l y = true
 free : y ∉ aN s.fs
 first : ∀ z, s.a < z → z < y → z ∈ aN s.fs
def LL (s : Sb) (w : World) (e : Ending) (w' : World) : Prop :=
 Below w.heap.size w w' ∧ ((∃ y, e = .returned (.tuple #[.int .i64 y, .int .i64 0]) ∧ nF s y) ∨ (e = .returned (.tuple #[.int .i64 0, .int .i64 8]) ∧ ∀ z, qN s.a s.l z = true → z ∈ aN s.fs))
theorem B0 (s : Sb) (w : World) (hrt : rt s.a s.l = true) (hp : tL w s.x s.n s.fs) (hn : s.n ≤ 64) (hm : ∀ i, i < s.n → (fcAt s.fs i).n ≤ 64)
  (hr : ∀ i, i < s.n → ∀ j, j < (fcAt s.fs i).n → 0 ≤ bP (fcAt s.fs i).ns j ∧ bP (fcAt s.fs i).ns j ≤ 1000000) :
  Calls Tryz.prog 153 #[.agg #[.int .i64 s.id, .int .i64 s.a, .int .i64 s.l, .slice s.x s.n s.c]] w (LL s w) := by
 go_enter Tryz.func153, Tryz.ntmps153
 go_upto_region 1 with fail
 obtain ⟨w0, hw0⟩ : ∃ w0, w0 = w.alloc (T5 s) := ⟨_, rfl⟩
 rw [← hw0]
 have hB0 : Below w.heap.size w w0 := by rw [hw0]; exact bl1 w _
 have hb0 : w0.heap[w.heap.size]? = some (T5 s) := by rw [hw0]; exact aB _ rfl
 clear hw0
 obtain ⟨c0, c1, c2, c3⟩ := dN hb0 rfl rfl rfl rfl
 have hl := LK s w0 hrt (hp.later hB0) hn hm hr
 clear hm hr
 go_wp2_with fail
 refine hl.mono ?_
 rintro e w1 ⟨hb1, h⟩
 have hB1 := hB0.trans (hb1.mono hB0.size)
 clear c0 c1 c2 c3 hl
 rcases h with ⟨y, rfl, h1, h2, h3⟩ | ⟨rfl, h1⟩
 ·have hL : nF s y := ⟨h1, h2, h3⟩
  clear h1 h2 h3
  go_wp2
  refine bodyPost_ret (v := .tuple #[.int .i64 y, .int .i64 0]) (by simp [results, Tryz.results153, go_sem]) rfl ?_
  exact ⟨hB1, .inl ⟨y, rfl, hL⟩⟩
 ·have hH : Hid (∀ z, qN s.a s.l z = true → z ∈ aN s.fs) := h1
  clear h1
  go_wp2
  refine bodyPost_ret (v := .tuple #[.int .i64 0, .int .i64 8]) (by simp [results, Tryz.results153, go_sem]) rfl ?_
  exact ⟨hB1, .inr ⟨rfl, hH.out⟩⟩
def eY (s : Sb) (id : Int) (w : World) (e : Ending) (w' : World) : Prop :=
 Below w.heap.size w w' ∧ if dE id 1 65536 = false then e = .returned (.tuple #[.int .i64 0, .int .i64 3]) else if 0 ≤ fstAt s.n (fun i => (fcAt s.fs i).id == id) then e = .returned (.tuple #[.int .i64 0, .int .i64 6]) else if s.n = 8 then e = .returned (.tuple #[.int .i64 0, .int .i64 2]) else
  (∃ y, e = .returned (.tuple #[.int .i64 y, .int .i64 0]) ∧ nF s y) ∨ (e = .returned (.tuple #[.int .i64 0, .int .i64 8]) ∧ ∀ z, qN s.a s.l z = true → z ∈ aN s.fs)
theorem eY.c3 {id : Int} (h : dE id 1 65536 = false) (hb : Below w.heap.size w w') : eY s id w (.returned (.tuple #[.int .i64 0, .int .i64 3])) w' := ⟨hb, by rw [if_pos h]⟩
theorem eY.c6 {id : Int} (h : dE id 1 65536 = true) (h2 : 0 ≤ fstAt s.n (fun i => (fcAt s.fs i).id == id)) (hb : Below w.heap.size w w') : eY s id w (.returned (.tuple #[.int .i64 0, .int .i64 6])) w' := ⟨hb, by rw [if_neg (by simp [h]), if_pos h2]⟩
theorem eY.c2 {id : Int} (h : dE id 1 65536 = true) (h2 : ¬ 0 ≤ fstAt s.n (fun i => (fcAt s.fs i).id == id)) (h3 : s.n = 8) (hb : Below w.heap.size w w') : eY s id w (.returned (.tuple #[.int .i64 0, .int .i64 2])) w' := ⟨hb, by rw [if_neg (by simp [h]), if_neg h2, if_pos h3]⟩
theorem eY.c0 {id : Int} (h : dE id 1 65536 = true) (h2 : ¬ 0 ≤ fstAt s.n (fun i => (fcAt s.fs i).id == id)) (h3 : ¬ s.n = 8) (hb : Below w.heap.size w w') (hh : (∃ y, e = .returned (.tuple #[.int .i64 y, .int .i64 0]) ∧ nF s y) ∨ (e = .returned (.tuple #[.int .i64 0, .int .i64 8]) ∧ ∀ z, qN s.a s.l z = true → z ∈ aN s.fs)) : eY s id w e w' := ⟨hb, by rw [if_neg (by simp [h]), if_neg h2, if_neg h3]; exact hh⟩
theorem DL (s : Sb) (id : Int) (w : World) (hrt : rt s.a s.l = true) (hp : tL w s.x s.n s.fs) (hn : s.n ≤ 64) (hm : ∀ i, i < s.n → (fcAt s.fs i).n ≤ 64)
  (hr : ∀ i, i < s.n → ∀ j, j < (fcAt s.fs i).n → 0 ≤ bP (fcAt s.fs i).ns j ∧ bP (fcAt s.fs i).ns j ≤ 1000000) :
  Calls Tryz.prog 149 #[.agg #[.int .i64 s.id, .int .i64 s.a, .int .i64 s.l, .slice s.x s.n s.c], .int .i64 id] w (eY s id w) := by
 have hgv := fun W h => B0 s W hrt h hn hm hr
 clear hm hr
 go_enter Tryz.func149, Tryz.ntmps149
 go_upto_region 1 with fail
 obtain ⟨w0, hw0⟩ : ∃ w0, w0 = w.alloc (T5 s) := ⟨_, rfl⟩
 rw [← hw0]
 have hB0 : Below w.heap.size w w0 := by rw [hw0]; exact bl1 w _
 have hb0 : w0.heap[w.heap.size]? = some (T5 s) := by rw [hw0]; exact aB _ rfl
 clear hw0
 obtain ⟨c0, c1, c2, c3⟩ := dN hb0 rfl rfl rfl rfl
 cases hid : dE id 1 65536 with
 | false =>
  have hid' : Hid (dE id 1 65536 = false) := hid
  go_wp2_with fail
  refine (isId_is id false hid _).mono ?_
  rintro e w1 ⟨rfl, rfl⟩
  clear hid
  go_wp2
  refine bodyPost_ret (v := .tuple #[.int .i64 0, .int .i64 3]) (by simp [results, Tryz.results149, go_sem]) rfl ?_
  exact eY.c3 hid'.out hB0
 | true =>
  have hid' : Hid (dE id 1 65536 = true) := hid
  go_wp2_with fail
  refine (isId_is id true hid _).mono ?_
  rintro e w1 ⟨rfl, rfl⟩
  clear hid
  have hfp := qQ s id w1 (hp.later hB0) (by omega)
  generalize hfe : fstAt s.n (fun i => (fcAt s.fs i).id == id) = fp at hfp
  have hfe' : Hid (fstAt s.n (fun i => (fcAt s.fs i).id == id) = fp) := hfe
  clear hfe
  by_cases hge : 0 ≤ fp
  ·go_wp2_with fail
   refine hfp.mono ?_
   rintro e w2 ⟨rfl, hb2⟩
   have hB2 := hB0.trans (hb2.mono hB0.size)
   go_wp2
   refine bodyPost_ret (v := .tuple #[.int .i64 0, .int .i64 6]) (by simp [results, Tryz.results149, go_sem]) rfl ?_
   exact eY.c6 hid'.out (by rw [hfe'.out]; exact hge) hB2
  ·go_wp2_with fail
   refine hfp.mono ?_
   rintro e w2 ⟨rfl, hb2⟩
   have hB2 := hB0.trans (hb2.mono hB0.size)
   have hbx := aA hb2 hb0
   clear c0 c1 c2 c3
   obtain ⟨c0, c1, c2, c3⟩ := dN hbx rfl rfl rfl rfl
   by_cases h8 : s.n = 8
   ·go_wp2
    refine bodyPost_ret (v := .tuple #[.int .i64 0, .int .i64 2]) (by simp [results, Tryz.results149, go_sem]) rfl ?_
    exact eY.c2 hid'.out (by rw [hfe'.out]; omega) h8 hB2
   ·have hl := hgv w2 (hp.later hB2)
    clear hgv
    go_wp2_with fail
    refine hl.mono ?_
    rintro e w3 ⟨hb3, h⟩
    have hB3 := hB2.trans (hb3.mono hB2.size)
    clear c0 c1 c2 c3 hl
    rcases h with ⟨y, rfl, hL⟩ | ⟨rfl, h1⟩
    ·go_wp2
     refine bodyPost_ret (v := .tuple #[.int .i64 y, .int .i64 0]) (by simp [results, Tryz.results149, go_sem]) rfl ?_
     exact eY.c0 hid'.out (by rw [hfe'.out]; omega) h8 hB3 (.inl ⟨y, rfl, hL⟩)
    ·have hH : Hid (∀ z, qN s.a s.l z = true → z ∈ aN s.fs) := h1
     clear h1
     go_wp2
     refine bodyPost_ret (v := .tuple #[.int .i64 0, .int .i64 8]) (by simp [results, Tryz.results149, go_sem]) rfl ?_
     exact eY.c0 hid'.out (by rw [hfe'.out]; omega) h8 hB3 (.inr ⟨rfl, hH.out⟩)
open Go.RowKit Go.Shelf
theorem kJ (h : aZ vid rn rs sn ss = 0) : dE vid 1 65536 = true ∧ nO rn rs = true ∧ mQ rn rs sn ss = true := by
 unfold aZ at h
 split at h
 ·omega
 ·split at h
  ·rename_i hw
   simp only [zH] at hw
   exact ⟨hw.1.1, hw.1.2, hw.2⟩
  ·omega
theorem tB (h : aZ vid rn rs sn ss = 0) : ∀ i, i < sn → rt (sbAt ss i).a (sbAt ss i).l = true ∧
  ∀ k, k < (sbAt ss i).n → ∀ j, j < (fcAt (sbAt ss i).fs k).n → 0 ≤ bP (fcAt (sbAt ss i).fs k).ns j ∧ bP (fcAt (sbAt ss i).fs k).ns j ≤ 1000000 := fun i hi => by
 obtain ⟨-, -, hs⟩ := kJ h
 unfold mQ at hs
 rw [zH, List.all_eq_true] at hs
 have h1 := hs.1 i (by simpa using hi)
 unfold lW at h1
 simp only [zH] at h1
 have hrt := OO h1.1.1
 refine ⟨hrt, fun k hk j hj => ?_⟩
 have hf := h1.2
 unfold eE at hf
 simp only [zH, List.all_eq_true] at hf
 have h2 := hf.1.1 k (by simpa using hk)
 unfold eU at h2
 simp only [zH] at h2
 exact FN hrt (SP h2.2 j hj)
end Go.Proofs.YtndpilfpejfloaaGreat
namespace Go.Proofs.YtndpilfpejfloaaGreat.Z
variable {w w' W : World} {bm n rn sn i g j base c hx ln base' : Nat} {s : Sb} {e : Ending} {vid a sub y z E b : Int} {rs : List Rg} {ss ts : List Sb} {T : Nat → Bool} {listed : Array Bool} {P : Program} {ops : Array Oper} {Q : Exit → Act → World → Prop} {S C : World → Prop} {oi o : Oper} {v V : Value} {l rest : List Oper} {x : Option Addr} {gs fs : List Fc} {cur cs : Array Value} {ns : List Int} {A : Act} {ls ms es : List (Int × Int)} {vs : List Vn} {r : Rg} {t : TypeId} {fr : Nat × Nat} {ad : Addr}
open Go.RowKit
def IC (T : Nat → Bool) (listed : Array Bool) : Prop := ∀ j, listed.getD j false = true → T j = true
theorem IC.back (h : IC T (listed.setIfInBounds i true)) : IC T listed := fun j hj => h j (getD_set_true hj)
theorem IC.at (h : IC T (listed.setIfInBounds i true)) (hi : listed.getD i true = false) : T i = true := by
 refine h i ?_
 have hl : i < listed.size := by
  by_cases e : i < listed.size
  ·exact e
  ·rw [Array.getD_eq_getD_getElem?, Array.getElem?_eq_none (by omega)] at hi
   cases hi
 rw [Array.getD_eq_getD_getElem?, Array.getElem?_setIfInBounds_self_of_lt hl]
 rfl
theorem IC.set (h : IC T listed) (hi : T i = true) : IC T (listed.setIfInBounds i true) := fun j hj => by
 by_cases e : i = j
 ·subst e; exact hi
 ·rw [getD_set_ne false e] at hj
  exact h j hj
def qH (P : Program) (ops : Array Oper) (Q : Exit → Act → World → Prop) (S : World → Prop) (T : Nat → Bool) : Nat → Array Bool → Act → World → Prop
 | 0, listed, a, w => Region.ready .any ops listed = [] ∧ Q .normal a w
 | f + 1, listed, a, w => (Region.ready .any ops listed = [] → Q .normal a w) ∧ ∀ i ∈ Region.ready .any ops listed, wpOp P ops Q i (fun a' w' => (IC T (listed.setIfInBounds i true) → S w') ∧ qH P ops Q S T f (listed.setIfInBounds i true) a' w') a w
theorem pF : ∀ (f : Nat) (listed : Array Bool) (a : Act) (w : World), qH P ops Q S T f listed a w → wpAny P .any ops Q f listed a w
 | 0, _, _, _, h => h
 | f + 1, _, _, _, h => ⟨h.1, fun i hi => wpOp_mono (fun a' w' h' => pF f _ a' w' h'.2) (h.2 i hi)⟩
theorem tT (hi : ops[i]? = some oi) (hsel : ∀ (j : Nat) (o : Oper) cs b, ops[j]? = some o → o.op ≠ .select cs b)
  (hQ : ∀ d v c a w, Q (.panic c) (Act.put a d v) w → Q (.panic c) a w) (hTi : T i = true) (hC : (∀ w, C w) ∨ ((∀ w, S w → C w) ∧ ∀ j, T j = false → j < ops.size → mG ops ops.size j i = true)) :
  ∀ (f : Nat) (listed : Array Bool) (a : Act) (w : World), nX ops listed → (IC T listed ∨ ∀ w, C w) →
   (∀ j oj, ops[j]? = some oj → j ≠ i → listed.getD j true = false → (∀ e ∈ oj.after, Region.binds .any e = true → e.on ≠ i) → oi.apart ops oj = true) →
   i ∈ Region.ready .any ops listed → YieldsIf P ops C oi v a → (IC T listed → S w) →
   qH P ops Q S T f (listed.setIfInBounds i true) (a.put oi.dst v) w → qH P ops Q S T (f + 1) listed a w := by
 intro f
 have hCw : ∀ (listed : Array Bool) (w : World), (IC T listed ∨ ∀ w, C w) → (IC T listed → S w) → C w := fun listed w ho hS => by
  rcases ho with ho | ho
  ·rcases hC with hC | hC
   ·exact hC w
   ·exact hC.1 w (hS ho)
  ·exact ho w
 induction f with
 | zero =>
  intro listed a w _ ho _ hr hy hS H
  refine ⟨fun h => (by rw [h] at hr; cases hr), fun j hj => ?_⟩
  by_cases hji : j = i
  ·subst hji; exact hy.wpOp hi (hCw listed w ho hS) ⟨fun h => hS h.back, H⟩
  ·have := ready_mono hj hji
   rw [H.1] at this
   cases this
 | succ f ih =>
  intro listed a w hsh ho hfree hr hy hS H
  refine ⟨fun h => (by rw [h] at hr; cases hr), fun j hj => ?_⟩
  by_cases hji : j = i
  ·subst hji; exact hy.wpOp hi (hCw listed w ho hS) ⟨fun h => hS h.back, H⟩
  ·have h1 := H.2 j (ready_mono hj hji)
   obtain ⟨hjun, oj, hoj, hall⟩ := mem_ready.1 hj
   have h0 := (mem_ready.1 hr).1
   have hnot : ∀ e ∈ oj.after, Region.binds .any e = true → e.on ≠ i := fun e he hb heq => by
    have h1 := hall e he hb
    rw [heq, getD_both h0] at h1
    cases h1
   have ho' : IC T (listed.setIfInBounds j true) ∨ ∀ w, C w := by
    rcases hC with hC | hC
    ·exact .inr hC
    ·rcases ho with ho | ho
     ·cases hT : T j with
      | true => exact .inl (ho.set hT)
      | false =>
       have h2 := nY hsh ops.size j i (hC.2 j hT (zG hoj)) (fun ok hok e he hb => by
        have : ok = oj := Option.some.inj (hok.symm.trans hoj)
        subst this
        exact hall e he hb)
       rw [getD_both h0] at h2
       cases h2
     ·exact .inr ho
   have h2 := wpOp_putIf hoj (hfree j oj hoj hji hjun hnot) (fun cs b => hsel i oi cs b hi) (fun cs b => hsel j oj cs b hoj) (fun c a w => hQ _ _ c a w) hy h1
   have hfree' : ∀ k ok, ops[k]? = some ok → k ≠ i → (listed.setIfInBounds j true).getD k true = false →
     (∀ e ∈ ok.after, Region.binds .any e = true → e.on ≠ i) → oi.apart ops ok = true := fun k ok hk hki hun hno => by
    refine hfree k ok hk hki ?_ hno
    by_cases hjk : j = k
    ·subst hjk; exact hjun
    ·rw [getD_set_ne true hjk] at hun; exact hun
   refine wpOp_mono (fun a' w' h3 => ⟨fun h => ?_, ih (listed.setIfInBounds j true) a' w' (hsh.set hj) ho' hfree' (ready_mono hr (Ne.symm hji)) h3.1 (fun h => ?_) ?_⟩) h2
   ·exact h3.2.1 (by rw [Array.setIfInBounds_comm _ _ (Ne.symm hji)]; exact h.set hTi)
   ·exact h3.2.1 (by rw [Array.setIfInBounds_comm _ _ (Ne.symm hji)]; exact h.set hTi)
   ·rw [Array.setIfInBounds_comm _ _ hji]
    exact h3.2.2
theorem wX (hsel : Region.noSelect l.toArray = true)
  (hQ : ∀ d v c a w, Q (.panic c) (Act.put a d v) w → Q (.panic c) a w) (D : Array Bool) (hS : S w) :
  ∀ (hs : List Nat) (listed : Array Bool) (a : Act), (∀ i ∈ hs, i < l.length ∧ NJ (l.getD i pG) = true ∧ T i = true ∧ ((∀ w, C w) ∨ ((∀ w, S w → C w) ∧ ∀ j, T j = false → j < l.toArray.size → mG l.toArray l.toArray.size j i = true))) → nX l.toArray listed → (IC T listed ∨ ∀ w, C w) → wF l.toArray hs listed = true → qZ hs listed = D →
   wpQuiet P l.toArray C (fun a' => qH P l.toArray Q S T g D a' w) (hs.map fun i => l.getD i pG) a → qH P l.toArray Q S T (hs.length + g) listed a w
 | [], listed, a, _, hsh, _, _, hd, h => by
  rw [List.length_nil, Nat.zero_add]
  subst hd
  exact h
 | i :: is, listed, a, hh, hsh, ho, hB, hd, h => by
  obtain ⟨hil, hpl, hTi, hwt⟩ := hh i (by simp)
  have h0 := lP hil
  simp only [wF, zH] at hB
  have hr : i ∈ Region.ready .any l.toArray listed := by simpa using hB.1.1
  have hq : qOp P l.toArray C i (wpQuiet P l.toArray C (fun a' => qH P l.toArray Q S T g D a' w) (is.map fun i => l.getD i pG)) a := by unfold qOp; simp only [h0]; exact h
  obtain ⟨v, hy, hKK⟩ := yieldsIn_of_qOp h0 hq
  rw [List.length_cons, show is.length + 1 + g = (is.length + g) + 1 by omega]
  refine tT h0 (Region.noSelect_spec hsel) hQ hTi hwt (is.length + g) listed a w hsh ho (Region.free_spec h0 hB.1.2) hr (qY hpl hy) (fun _ => hS) ?_
  exact wX hsel hQ D hS is _ _ (fun k hk => hh k (by simp [hk])) (hsh.set hr) (ho.imp (fun g => g.set hTi) id) hB.2 hd hKK
structure Wx : Type where
 val : World
@[simp] theorem Wx.all_const (p : Prop) : (Wx → p) ↔ p := ⟨fun h => h ⟨default⟩, fun h _ => h⟩
theorem Wx.any (w : World) : ∃ u : Wx, w = u.val := ⟨⟨w⟩, rfl⟩
theorem gB {Q Q' : Act → Prop} (h : ∀ a, Q a → Q' a) : ∀ (l : List Oper) (a : Act), wpQuiet P ops C Q l a → wpQuiet P ops C Q' l a
 | [], a, g => h a g
 | o :: l, a, g => by
  unfold wpQuiet at g ⊢
  split
  ·rename_i hw
   rw [if_pos hw] at g
   exact Oper.quiet_mono (gB h l) g
  ·rename_i hw
   rw [if_neg hw] at g
   exact gB h l _ g
theorem aU : ∀ (ts : List Nat) (listed : Array Bool) (a : Act) (w : World), (∀ i ∈ ts, i < l.length ∧ T i = false) →
  AQ l.toArray ts listed = true → wpList P l.toArray Q (ts.map fun i => l.getD i pG) a w → qH P l.toArray Q S T ts.length listed a w
 | [], _, _, _, _, hB, h => ⟨by simpa [AQ] using hB, h⟩
 | i :: ts, listed, a, w, hh, hB, h => by
  obtain ⟨hil, hT⟩ := hh i (by simp)
  have h0 := lP hil
  simp only [AQ, zH, decide_eq_true_eq] at hB
  refine ⟨fun h1 => (by rw [hB.1] at h1; cases h1), fun k hk => ?_⟩
  have hun := (mem_ready.1 hk).1
  rw [hB.1] at hk
  have hik : k = i := by simpa using hk
  subst hik
  have hw : wpOp P l.toArray Q k (wpList P l.toArray Q (ts.map fun i => l.getD i pG)) a w := by unfold wpOp; simp only [h0]; exact h
  exact wpOp_mono (fun a' w' h' => ⟨fun h => absurd (h.at hun) (by rw [hT]; decide), aU ts _ a' w' (fun i hi => hh i (by simp [hi])) hB.2 h'⟩) hw
def CP (ts : List Nat) (j : Nat) : Bool := !(ts.contains j)
def WI (l : List Oper) (hs : List Nat) (c : Nat) (ps ts : List Nat) : Bool :=
 Region.noSelect l.toArray && BH l.toArray (Array.replicate l.toArray.size false) && wF l.toArray hs (Array.replicate l.toArray.size false) && (hs.all fun i => decide (i < l.length) && NJ (l.getD i pG) && CP ts i && (List.range l.toArray.size).all fun j => CP ts j || mG l.toArray l.toArray.size j i) &&
 decide (Region.ready .any l.toArray (qZ hs (Array.replicate l.toArray.size false)) = [c]) && decide (c < l.length) && CP ts c &&
 (ps.all fun i => decide (i < l.length) && NJ (l.getD i pG) && CP ts i) && BH l.toArray ((qZ hs (Array.replicate l.toArray.size false)).setIfInBounds c true) && wF l.toArray ps ((qZ hs (Array.replicate l.toArray.size false)).setIfInBounds c true) &&
 AQ l.toArray ts (qZ ps ((qZ hs (Array.replicate l.toArray.size false)).setIfInBounds c true)) && (ts.all fun i => decide (i < l.length) && !(CP ts i)) && decide (hs.length + (ps.length + ts.length + 1) = l.toArray.size)
structure S8 (P : Program) (l : List Oper) (Q : Exit → Act → World → Prop) (w : World) (ps ts : List Oper) (K : Act → World → Prop) : Prop where
 out : ∀ a' w', Below w.heap.size w w' → wpQuiet P l.toArray (fun w' => ∃ u : Wx, w' = u.val) (fun a'' => wpList P l.toArray Q ts a'' w') ps a' → K a' w'
end Go.Proofs.YtndpilfpejfloaaGreat.Z
namespace Go.Proofs.YtndpilfpejfloaaGreat
variable {w w' W : World} {bm n rn sn i g j base c hx ln base' : Nat} {s : Sb} {e : Ending} {vid a sub y z E b : Int} {rs : List Rg} {ss ts : List Sb} {T : Nat → Bool} {listed : Array Bool} {P : Program} {ops : Array Oper} {Q : Exit → Act → World → Prop} {S C : World → Prop} {oi o : Oper} {v V : Value} {l rest : List Oper} {x : Option Addr} {gs fs : List Fc} {cur cs : Array Value} {ns : List Int} {A : Act} {ls ms es : List (Int × Int)} {vs : List Vn} {r : Rg} {t : TypeId} {fr : Nat × Nat} {ad : Addr}
open Go.RowKit
theorem aW {id : Nat} {a : Act} (hs : List Nat) (c : Nat) (ps ts : List Nat) (hm : P.follows .mixedOrders = true) (hB : Z.WI l hs c ps ts = true) (hQ : ∀ d v c a w, Q (.panic c) (Act.put a d v) w → Q (.panic c) a w)
  (h : wpQuiet P l.toArray (fun w' => ∃ u : Ws w.heap.size w, w' = u.val) (fun a' => ∀ K, Z.S8 P l Q w (ps.map fun i => l.getD i pG) (ts.map fun i => l.getD i pG) K → wpList P l.toArray (qI K Q) [l.getD c pG] a' w.drew) (hs.map fun i => l.getD i pG) a) : (Code.region id l.toArray true).wp P Q a w := by
 simp only [Z.WI, zH, decide_eq_true_eq, List.all_eq_true, Bool.not_eq_true'] at hB
 obtain ⟨⟨⟨⟨⟨⟨⟨⟨⟨⟨⟨⟨h1, h2⟩, h3⟩, h4⟩, h5⟩, h6⟩, h7⟩, h8⟩, h9⟩, h10⟩, h11⟩, h12⟩, h13⟩ := hB
 refine wp_region_any hm (Z.pF (S := fun w' => ∃ u : Ws w.heap.size w, w' = u.val) (T := Z.CP ts) _ _ _ _ ?_)
 have hok : Z.IC (Z.CP ts) (Array.replicate l.toArray.size false) := fun j hj => by
  rw [Array.getD_eq_getD_getElem?, Array.getElem?_replicate] at hj
  split at hj <;> cases hj
 have key : ∀ f, f = hs.length + (ps.length + ts.length + 1) → Z.qH P l.toArray Q (fun w' => ∃ u : Ws w.heap.size w, w' = u.val) (Z.CP ts) f (Array.replicate l.toArray.size false) a w.drew := ?_
 ·exact key _ h13.symm
 intro f hf
 subst hf
 refine Z.wX (C := fun w' => ∃ u : Ws w.heap.size w, w' = u.val) h1 hQ _ ⟨⟨_, (zD).drew⟩, rfl⟩ hs _ _ (fun i hi => ?_) (mF h2) (.inl hok) h3 rfl ?_
 ·obtain ⟨⟨⟨g1, g2⟩, g3⟩, g4⟩ := h4 i hi
  refine ⟨g1, g2, g3, .inr ⟨fun _ g => g, fun j hj hjs => ?_⟩⟩
  have := g4 j (List.mem_range.2 hjs)
  rw [hj, Bool.false_or] at this
  exact this
 refine Z.gB (fun a' g => ?_) _ _ h
 refine ⟨fun e => (by rw [h5] at e; cases e), fun j hj => ?_⟩
 rw [h5] at hj
 obtain rfl : j = c := by simpa using hj
 refine fM h6 (g _ ⟨fun a2 w2 hb2 g2 => ⟨fun _ => ⟨⟨w2, hb2⟩, rfl⟩, ?_⟩⟩)
 refine Z.wX (C := fun w' => ∃ u : Z.Wx, w' = u.val) h1 hQ _ ⟨⟨w2, hb2⟩, rfl⟩ ps _ _ (fun i hi => ?_) (mF h9) (.inr Z.Wx.any) h10 rfl ?_
 ·obtain ⟨⟨g1, g2⟩, g3⟩ := h8 i hi
  exact ⟨g1, g2, g3, .inl Z.Wx.any⟩
 exact Z.gB (fun a3 g3 => Z.aU ts _ _ _ h12 h11 g3) _ _ g2
open Go.RowKit Go.Shelf
structure qS (sn : Nat) (ss : List Sb) (sub : Int) (i : Nat) : Prop where
 isn : i < sn
 sid : (sbAt ss i).id = sub
 sno : ∀ k, k < i → (sbAt ss k).id ≠ sub
theorem qS.one (h : qS sn ss sub i) (g : qS sn ss sub j) : i = j := by
 rcases Nat.lt_trichotomy i j with hij | hij | hij
 ·exact absurd h.sid (g.sno i hij)
 ·exact hij
 ·exact absurd g.sid (h.sno j hij)
def uT (s : Sb) (E y : Int) : Prop := (E = 0 ∧ nF s y) ∨ (E = 8 ∧ y = 0 ∧ ∀ z, qN s.a s.l z = true → z ∈ aN s.fs)
theorem nF.one (h : nF s y) (g : nF s z) : y = z := by
 rcases Int.lt_trichotomy y z with hyz | hyz | hyz
 ·have hu := h.use
  unfold qN at hu
  simp only [zH, decide_eq_true_eq] at hu
  exact absurd (g.first y hu.1 hyz) h.free
 ·exact hyz
 ·have hu := g.use
  unfold qN at hu
  simp only [zH, decide_eq_true_eq] at hu
  exact absurd (h.first z hu.1 hyz) g.free
theorem uT.one {E' y' : Int} (h : uT s E y) (g : uT s E' y') : E = E' ∧ y = y' := by
 rcases h with ⟨rfl, h⟩ | ⟨rfl, rfl, h⟩
 ·rcases g with ⟨rfl, g⟩ | ⟨rfl, rfl, g⟩
  ·exact ⟨rfl, h.one g⟩
  ·exact absurd (g y h.use) h.free
 ·rcases g with ⟨rfl, g⟩ | ⟨rfl, rfl, g⟩
  ·exact absurd (h y' g.use) g.free
  ·exact ⟨rfl, rfl⟩
def lH (s : Sb) (id : Int) : Int := if dE id 1 65536 = false then 3 else if 0 ≤ fstAt s.n (fun i => (fcAt s.fs i).id == id) then 6 else if s.n = 8 then 2 else 0
def nG (s : Sb) (id E y : Int) : Prop := (lH s id ≠ 0 → E = lH s id ∧ y = 0) ∧ (lH s id = 0 → uT s E y)
theorem eY.rel {id : Int} (h : eY s id w e w') : Below w.heap.size w w' ∧ ∃ y E, e = .returned (.tuple #[.int .i64 y, .int .i64 E]) ∧ nG s id E y := by
 refine ⟨h.1, ?_⟩
 have h2 := h.2
 unfold nG lH
 by_cases c1 : dE id 1 65536 = false
 ·rw [if_pos c1] at h2 ⊢
  exact ⟨0, 3, h2, fun _ => ⟨rfl, rfl⟩, fun h => absurd h (by decide)⟩
 ·rw [if_neg c1] at h2 ⊢
  by_cases c2 : 0 ≤ fstAt s.n (fun i => (fcAt s.fs i).id == id)
  ·rw [if_pos c2] at h2 ⊢
   exact ⟨0, 6, h2, fun _ => ⟨rfl, rfl⟩, fun h => absurd h (by decide)⟩
  ·rw [if_neg c2] at h2 ⊢
   by_cases c3 : s.n = 8
   ·rw [if_pos c3] at h2 ⊢
    exact ⟨0, 2, h2, fun _ => ⟨rfl, rfl⟩, fun h => absurd h (by decide)⟩
   ·rw [if_neg c3] at h2 ⊢
    rcases h2 with ⟨y, h2, h3⟩ | ⟨h2, h3⟩
    ·exact ⟨y, 0, h2, fun h => absurd rfl h, fun _ => .inl ⟨rfl, h3⟩⟩
    ·exact ⟨0, 8, h2, fun h => absurd rfl h, fun _ => .inr ⟨rfl, rfl, h3⟩⟩
theorem nG.zero {id : Int} (h : nG s id E y) (hE : E ≠ 0) : y = 0 := by
 by_cases c : lH s id = 0
 ·rcases h.2 c with ⟨h1, -⟩ | ⟨-, h1, -⟩
  ·exact absurd h1 hE
  ·exact h1
 ·exact (h.1 c).2
theorem nG.ok {id : Int} (h : nG s id 0 y) : lH s id = 0 ∧ nF s y := by
 by_cases c : lH s id = 0
 ·rcases h.2 c with ⟨-, h1⟩ | ⟨h1, -⟩
  ·exact ⟨c, h1⟩
  ·exact absurd h1 (by decide)
 ·exact absurd (h.1 c).1.symm c
def fS (A : Int → Int → Prop) (R : World → Value → Int → Prop) (w : World) (e : Ending) (w' : World) : Prop :=
 ∃ V y E, e = .returned (.tuple #[V, .int .i64 y, .int .i64 E]) ∧ Below w.heap.size w w' ∧ A E y ∧ (E ≠ 0 → V = .agg #[.int .i64 0, .slice none 0 0, .slice none 0 0] ∧ y = 0) ∧ (E = 0 → R w' V y)
theorem fS.err {A : Int → Int → Prop} {R : World → Value → Int → Prop} (hA : A E 0) (hE : E ≠ 0) (hb : Below w.heap.size w w') : fS A R w (.returned (.tuple #[.agg #[.int .i64 0, .slice none 0 0, .slice none 0 0], .int .i64 0, .int .i64 E])) w' :=
 ⟨_, 0, E, rfl, hb, hA, fun _ => ⟨rfl, rfl⟩, fun h => absurd h hE⟩
theorem fS.ok {A : Int → Int → Prop} {R : World → Value → Int → Prop} (hA : A 0 y) (hb : Below w.heap.size w w') (h : R w' V y) : fS A R w (.returned (.tuple #[V, .int .i64 y, .int .i64 0])) w' :=
 ⟨_, y, 0, rfl, hb, hA, fun h => absurd rfl h, fun _ => h⟩
def nH (vid : Int) (rn : Nat) (rs : List Rg) (sn : Nat) (ss : List Sb) (sub id E y : Int) : Prop :=
 if aZ vid rn rs sn ss ≠ 0 then E = aZ vid rn rs sn ss ∧ y = 0 else ((∀ i, i < sn → (sbAt ss i).id ≠ sub) ∧ E = 5 ∧ y = 0) ∨ ∃ i, qS sn ss sub i ∧ nG (sbAt ss i) id E y
def B1 (e : Fc) (qs rs : List Fc) : Prop := ∃ i, i ≤ qs.length ∧ (∀ j, j < i → ¬ e.id < (fcAt qs j).id) ∧ (i < qs.length → e.id < (fcAt qs i).id) ∧ rs = qs.take i ++ [e] ++ qs.drop i
def VQ (vid : Int) (rn : Nat) (rs : List Rg) (sn : Nat) (ss : List Sb) (sub id : Int) (base : Nat) (w : World) (V : Value) (y : Int) : Prop :=
 aZ vid rn rs sn ss = 0 ∧ ∃ ts i x n c fx gs, qS sn ss sub i ∧ nG (sbAt ss i) id 0 y ∧ bN ss ts ∧ B1 ⟨id, fx, 1, 1, [y]⟩ (sbAt ts i).fs gs ∧ n = gs.length ∧ FU w base vid V rs (ts.set i (bQ (sbAt ts i) x n c gs))
theorem jC.give (h : jC w base v ts ts.length) (hO : mT w base (.slice x n c) gs gs.length) : wS w base (ts.set i (bQ (sbAt ts i) x n c gs)) := fun s hs => by
 obtain ⟨k, hk, rfl⟩ := List.getElem_of_mem hs
 have hk' : k < ts.length := by simpa using hk
 rw [List.getElem_set]
 by_cases e : i = k
 ·rw [if_pos e]; exact hO
 ·rw [if_neg e]
  have e2 : sbAt ts k = ts[k] := by unfold sbAt; rw [zF, List.getElem?_eq_getElem hk']; rfl
  rw [← e2]
  exact h.own k hk'
theorem FW (h : W.heap[hx]? = some (.cells #[.int .i64 y] 3)) (hb : base ≤ hx) : gL W base (.slice (some ⟨hx, 0, none⟩) 1 1) [y] :=
 ⟨rfl, .inr ⟨hx, 1, #[.int .i64 y], rfl, hb, h, by simp, by unfold maxLen; omega, by simp, rfl⟩⟩
theorem VR (h : eB w base (.slice x n c) fs) : (x = none ∧ c = 0) ∨ ∃ b o, x = some ⟨b, o, none⟩ := by
 rcases h.2 with ⟨h, -⟩ | ⟨g, cap, cur, h, -⟩
 ·simp only [Value.slice.injEq] at h
  exact .inl ⟨h.1, h.2.2⟩
 ·simp only [Value.slice.injEq] at h
  exact .inr ⟨g, 0, h.1⟩
theorem LM (vid : Int) (rx : Option Addr) (rn rc : Nat) (rs : List Rg) (sx : Option Addr) (sn sc : Nat) (ss : List Sb) (sub id : Int) (w : World) (hv : Vp w rx rn rc rs sx sn sc ss) (hrn : rn ≤ 9223372036854775807) (hsn : sn ≤ 9223372036854775807) (hrc : rc ≤ 9223372036854775807) :
  Calls Tryz.prog 102 #[.agg #[.int .i64 vid, .slice rx rn rc, .slice sx sn sc], .int .i64 sub, .int .i64 id] w (fS (nH vid rn rs sn ss sub id) (VQ vid rn rs sn ss sub id w.heap.size) w) := by
 have hsl : Hid (ss.length = sn) := hv.subs.len
 go_enter Tryz.func102, Tryz.ntmps102
 go_upto_region 1 with fail
 obtain ⟨w0, hw0⟩ : ∃ w0, w0 = (w.alloc (dH vid (.slice rx rn rc) (.slice sx sn sc))).alloc (dH 0 (.slice none 0 0) (.slice none 0 0)) := ⟨_, rfl⟩
 rw [← hw0]
 have hT0 : TN w w0 vid rx rn rc sx sn sc := by
  rw [hw0]
  exact ⟨aF _ (aB _ rfl), aB _ (by simp), cC w _ _⟩
 clear hw0
 obtain ⟨b0, b1, b2⟩ := bL hT0.hb rfl rfl rfl
 obtain ⟨s0, s1, s2⟩ := bL hT0.hs rfl rfl rfl
 obtain ⟨zs0, zs1, zs2⟩ := dS hT0.hs
 have hck := checkV_any vid rx rn rc rs sx sn sc ss w0 (hv.later hT0.below) hrn hsn hrc
 by_cases hc0 : aZ vid rn rs sn ss = 0
 ·rw [hc0] at hck
  obtain ⟨f1, f2, f3, f4⟩ := cN hc0
  have hcs := tB hc0
  have hA0 : Hid (∀ i y, qS sn ss sub i → ∀ {E}, nG (sbAt ss i) id E y → nH vid rn rs sn ss sub id E y) := fun i y h1 E h2 => by
   unfold nH
   rw [if_neg (by simp [hc0])]
   exact .inr ⟨i, h1, h2⟩
  have hA5 : Hid ((∀ i, i < sn → (sbAt ss i).id ≠ sub) → nH vid rn rs sn ss sub id 5 0) := fun h => by
   unfold nH
   rw [if_neg (by simp [hc0])]
   exact .inl ⟨h, rfl, rfl⟩
  have hcz : Hid (aZ vid rn rs sn ss = 0) := hc0
  clear hc0
  go_wp2_with fail
  refine (hck).mono ?_
  rintro e w1 ⟨rfl, hbw1⟩
  have hT1 := hT0.later hbw1
  clear b0 b1 b2 s0 zs0 s1 zs1 s2 zs2
  obtain ⟨b0, b1, b2⟩ := bL hT1.hb rfl rfl rfl
  obtain ⟨s0, s1, s2⟩ := bL hT1.hs rfl rfl rfl
  obtain ⟨zs0, zs1, zs2⟩ := dS hT1.hs
  have hsp := fun t h => vU vid sub rx rn rc sx sn sc ss t h w1 (hv.later hT1.below).subs (by omega)
  rcases fstAt_cases sn (fun i => (sbAt ss i).id == sub) with ⟨i, hi, hf, hno, hfp⟩ | ⟨hno, hfp⟩
  ·have hsp' := hsp _ hfp
   clear hsp hfp
   have hSA : Hid (qS sn ss sub i) := ⟨hi, by simpa using hf, fun j hj => by simpa using hno j hj⟩
   clear hf hno
   have hn8 := f3 i hi
   obtain ⟨b, o, rfl, c0, c1, c2, c3⟩ := hv.subs.cells i hi
   go_wp2_with fail
   refine (hsp').mono ?_
   rintro e w2 ⟨rfl, hbw2⟩
   have hT2 := hT1.later hbw2
   clear b0 b1 b2 s0 zs0 s1 zs1 s2 zs2
   obtain ⟨b0, b1, b2⟩ := bL hT2.hb rfl rfl rfl
   obtain ⟨s0, s1, s2⟩ := bL hT2.hs rfl rfl rfl
   obtain ⟨zs0, zs1, zs2⟩ := dS hT2.hs
   have d0 := cell_later hT2.below c0
   have d1 := cell_later hT2.below c1
   have d2 := cell_later hT2.below c2
   have d3 := cell_later hT2.below c3
   clear c0 c1 c2 c3
   have i0 : (0 : Int) ≤ i := by omega
   have i1 : (i : Int) < sn := by omega
   have hfl := DL (sbAt ss i) id w2 (hcs i hi).1 ((hv.later hT2.below).subs.faces i hi).2.2 (by omega) (fun j hj => by have := f4 i hi j hj; omega) (hcs i hi).2
   go_wp2_with fail
   refine hfl.mono ?_
   rintro e w3 hfa
   obtain ⟨hbw3, y, E, rfl, hrel'⟩ := hfa.rel
   have hrel : Hid (nG (sbAt ss i) id E y) := hrel'
   clear hrel' hfa hfl
   have hT3 := hT2.later hbw3
   clear b0 b1 b2 s0 zs0 s1 zs1 s2 zs2
   obtain ⟨b0, b1, b2⟩ := bL hT3.hb rfl rfl rfl
   obtain ⟨s0, s1, s2⟩ := bL hT3.hs rfl rfl rfl
   obtain ⟨zs0, zs1, zs2⟩ := dS hT3.hs
   clear d0 d1 d2 d3
   by_cases hE : E = 0
   ·subst hE
    have hv3 := fun W (hW : Below w.heap.size w W) => dI vid rx rn rc rs (some ⟨b, o, none⟩) sn sc ss W (hv.later hW) (by omega) (by omega) (fun i hi => by have := f3 i hi; omega) (fun i hi j hj => by have := f4 i hi j hj; omega)
    go_wp2_with fail
    refine (hv3 _ hT3.below).mono ?_
    rintro e w5 ⟨vR, vS, ts, rfl, hOR, hss, hOS, hb5⟩
    clear hv3
    have hT5 := hT3.later hb5
    have htl : Hid (ts.length = sn) := by unfold Hid; rw [← hss.1]; exact hsl.out
    have hit : i < ts.length := by rw [htl.out]; exact hi
    have hsi := hss.2 i (by rw [hss.1]; exact hit)
    obtain ⟨xr, cr, rfl, -⟩ := hOR.rs
    obtain ⟨g, cap, hg5, cur, hgh, hvS⟩ : ∃ g cap, w3.heap.size ≤ g ∧ ∃ cur, w5.heap[g]? = some (.cells cur 78) ∧ vS = .slice (some ⟨g, 0, none⟩) ts.length cap := by
     obtain ⟨x2, c2, hv2, -⟩ := hOS.row.mem
     rcases hOS.row.2 with ⟨hv', -⟩ | ⟨g, cap, cur, hv', hg1, hg2, -⟩
     ·rw [hv'] at hv2; simp only [Value.slice.injEq] at hv2; omega
     ·exact ⟨g, cap, hg1, cur, hg2, hv'⟩
    subst hvS
    have hgl : g < w5.heap.size := (zG hgh)
    clear b0 b1 b2 s0 zs0 s1 zs1 s2 zs2
    go_upto_region 11 with fail
    obtain ⟨w6, hw6⟩ : ∃ w6, w6 = w5.alloc (dH vid (.slice xr rs.length cr) (.slice (some ⟨g, 0, none⟩) ts.length cap)) := ⟨_, rfl⟩
    rw [← hw6]
    have hb56 : Below w5.heap.size w5 w6 := by rw [hw6]; exact bl1 _ _
    have hn6 : w6.heap[w5.heap.size]? = some (dH vid (.slice xr rs.length cr) (.slice (some ⟨g, 0, none⟩) ts.length cap)) := by rw [hw6]; exact aB _ rfl
    have hs6 : w6.heap.size = w5.heap.size + 1 := by rw [hw6]; simp
    clear hw6
    have h13 : w1.heap.size ≤ w3.heap.size := Nat.le_trans hbw2.size hbw3.size
    have hT6 := hT5.later hb56
    have hg6 := aA hb56 hgh
    have hOR6 := bR.later (hOR.low (base' := w1.heap.size) h13) hb56
    have hOS6 := jC.later (hOS.low (base' := w1.heap.size) h13) hb56
    obtain ⟨hfS, hfl, hfc, hfm⟩ := (hOS6.own i hit).fcs
    have hfx := VR (hOS6.own i hit).row
    have hn8' : (sbAt ts i).n ≤ 8 := by rw [← hsi.2.2.2.1]; exact hn8
    have hfl' : Hid ((sbAt ts i).fs.length = (sbAt ts i).n) := hfl
    have n2 := aX hn6 2 rfl
    have d3 : w6.cell? ⟨g, i * 4 + 3, none⟩ = some (.slice (sbAt ts i).x (sbAt ts i).n (sbAt ts i).c) := by
     obtain ⟨x2, c2, he2, -, -, -, hm'⟩ := hOS6.row.mem
     simp only [Value.slice.injEq] at he2
     obtain ⟨b2, o2, he3, -, -, -, c8⟩ := hm' i hit
     rw [← he2.1] at he3
     simp only [Option.some.injEq, Addr.mk.injEq] at he3
     obtain ⟨rfl, rfl, -⟩ := he3
     simpa using c8
    have i1' : (i : Int) < ts.length := by omega
    have hput := fun W (hW : Below w6.heap.size w6 W) hx bf hby => OM ⟨id, some ⟨hx, 0, none⟩, 1, 1, [y]⟩ (sbAt ts i).x (sbAt ts i).n (sbAt ts i).c (sbAt ts i).fs bf 1 W (hfS.later hW) (by omega) hfc hfm hfx hby
    have hb16 : w1.heap.size ≤ w6.heap.size := by have := hb5.size; omega
    have hsz1 : w.heap.size + 1 < w1.heap.size := (zG hT1.hs)
    have hq1 : w5.heap.size ≠ g := by omega
    have hq2 : w.heap.size + 1 ≠ g := by omega
    have hq4 : w.heap.size ≤ g := by omega
    have e2 : ∀ u : Ws w6.heap.size w6, u.val.cell? ⟨w5.heap.size, 2, none⟩ = some (.slice (some ⟨g, 0, none⟩) ts.length cap) := Ws.cell (by omega) n2
    have e3 : ∀ u : Ws w6.heap.size w6, u.val.cell? ⟨g, i * 4 + 3, none⟩ = some (.slice (sbAt ts i).x (sbAt ts i).n (sbAt ts i).c) := Ws.cell (by omega) d3
    have hbd : Below w6.heap.size w6 w6.drew := (zD).drew
    clear hfl hfc hfm hsi hcs f1 f2 f3 f4 hn8 hn8' hfx hfS hs6
    refine bG (fun w' => ∃ u : Ws w6.heap.size w6, w' = u.val) (fun j => decide (j < 15)) 18 _ (by kernel_rfl) rfl rfl ?_
    refine aY 7 [0, 1, 2, 3, 4, 5, 6, 7, 8, 9, 10] rfl _ rfl (by kernel_rfl) (fun d _ _ _ _ h => by cases d <;> exact h) ⟨⟨_, hbd⟩, rfl⟩ ?_
    simp only [zK, zM, zI, zJ]
    repeat (go_big_quiet_step (fail))
    refine wpQuiet_nil ?_
    refine dU 11 13 _ _ _ _ (by kernel_rfl) (by kernel_rfl) rfl rfl rfl rfl ?_ ?_
    ·intro K hK
     simp only [zI, zJ]
     go_wp2_with fail
     have hba : Below w6.heap.size w6 (w6.alloc (.cells #[.int .i64 y] 3)).drew := (bl1 w6 _).drew
     refine aD (hK.out _ _ ⟨⟨_, hba⟩, rfl⟩ ?_)
     clear hK K
     refine aY 5 [12] rfl _ rfl (by kernel_rfl) (fun d _ _ _ _ h => by cases d <;> exact h) ⟨⟨_, hba⟩, rfl⟩ ?_
     simp only [zK, zM, zI, zJ]
     repeat (go_big_quiet_step (fail))
     refine wpQuiet_nil ?_
     refine aS 13 _ _ (by kernel_rfl) (by kernel_rfl) rfl rfl ?_
     intro K hK
     simp only [zI, zJ]
     go_wp2_with fail
     have hbb : Below w6.heap.size w6 (((w6.alloc (.cells #[.int .i64 y] 3)).alloc (.cells #[.func (.func 151) #[] #[]] 208)).drew) := (cC w6 _ _).drew
     refine aD (hK.out _ _ ⟨⟨_, hbb⟩, rfl⟩ ?_)
     clear hK K
     refine aS 14 _ _ (by kernel_rfl) (by kernel_rfl) rfl rfl ?_
     intro K hK
     simp only [zI, zJ]
     go_wp2_with fail
     refine (hput (((w6.alloc (.cells #[.int .i64 y] 3)).alloc (.cells #[.func (.func 151) #[] #[]] 208)).drew) hbb w6.heap.size (w6.heap.size + 1) (by simp)).mono ?_
     rintro e w7 ⟨v7, rfl, hb7, p, hp, hlow, hup, hO7⟩
     have hb67 : Below w6.heap.size w6 w7 := (hbb).trans (hb7.mono (hbb).size)
     have hgx7 := aA hb7 (aF _ (aB _ rfl))
     obtain ⟨gs, hgs⟩ : ∃ gs, Hid (gs = (sbAt ts i).fs.take p ++ [(⟨id, some ⟨w6.heap.size, 0, none⟩, 1, 1, [y]⟩ : Fc)] ++ (sbAt ts i).fs.drop p) := ⟨_, rfl⟩
     rw [← hgs.out] at hO7
     obtain ⟨x7, c7, rfl, -⟩ := hO7.mem
     have hT7 := hT6.later hb67
     have hn7 := aA hb67 hn6
     have hg7 := aA hb67 hg6
     have hOS7 := jC.later hOS6 hb67
     have hOR7 := bR.later hOR6 hb67
     have hbs : w1.heap.size ≤ ((((w6.alloc (.cells #[.int .i64 y] 3)).alloc (.cells #[.func (.func 151) #[] #[]] 208)).drew)).heap.size := Nat.le_trans hb16 (hbb).size
     have hIx := FW (base := w1.heap.size) hgx7 (Nat.le_trans hb16 (by simp))
     have hOF7 : mT w7 w1.heap.size (.slice x7 gs.length c7) gs gs.length := mT.mk' (hO7.low hbs) (fun f hf => by
      rw [hgs.out] at hf
      simp only [List.mem_append, List.mem_singleton] at hf
      rcases hf with (hf | rfl) | hf
      ·exact (hOS7.own i hit).each f (List.mem_of_mem_take hf)
      ·exact hIx
      ·exact (hOS7.own i hit).each f (List.mem_of_mem_drop hf))
     have hfa7 := jC.give (i := i) hOS7 hOF7
     have hput7 : B1 ⟨id, some ⟨w6.heap.size, 0, none⟩, 1, 1, [y]⟩ (sbAt ts i).fs gs := ⟨p, by rw [hfl'.out]; exact hp, hlow, by rw [hfl'.out]; exact hup, hgs.out⟩
     have df : w7.frozen? ⟨g, i * 4 + 3, none⟩ = false := hOS7.row.frozen _
     have d3' := cell_later hb67 d3
     clear hput e2 e3 n2 d3 hgs hlow hup hp
     go_wp2_with fail
     refine aD (hK.out _ _ ⟨⟨_, hb67⟩, rfl⟩ ?_)
     clear hK K
     refine aU [15, 16, 17] rfl (by kernel_rfl) ?_
     simp only [zK, zM, zI, zJ]
     go_upto_region 12 with fail
     obtain ⟨w8, hw8⟩ : ∃ w8, w8 = w7.setCell ⟨g, i * 4 + 3, none⟩ (.slice x7 gs.length c7) := ⟨_, rfl⟩
     rw [← hw8]
     have hn8 : w8.heap[w5.heap.size]? = some (dH vid (.slice xr rs.length cr) (.slice (some ⟨g, 0, none⟩) ts.length cap)) := by rw [hw8]; exact (zB hq1).trans hn7
     have hs8 : w8.heap[w.heap.size + 1]? = some (dH 0 (.slice none 0 0) (.slice none 0 0)) := by rw [hw8]; exact (zB hq2).trans hT7.hs
     have hB8 : Below w.heap.size w w8 := by rw [hw8]; exact hT7.below.setCell (p := ⟨g, i * 4 + 3, none⟩) hq4 _
     have hOR8 : bR w8 w1.heap.size (.slice xr rs.length cr) rs := by rw [hw8]; exact hOR7.putBox hg7 (by decide)
     have hrow8 : cE w8 w1.heap.size (.slice (some ⟨g, 0, none⟩) ts.length cap) (ts.set i (bQ (sbAt ts i) x7 gs.length c7 gs)) := by rw [hw8]; exact hOS7.row.set i hit _ _ _ _
     have hfa8 : wS w8 w1.heap.size (ts.set i (bQ (sbAt ts i) x7 gs.length c7 gs)) := by rw [hw8]; exact hfa7.keptOf (aH _ _ _ _) hg7 (by decide) (by decide)
     clear hw8 df d3'
     obtain ⟨m0, m1, m2⟩ := bL hn8 rfl rfl rfl
     obtain ⟨s0, s1, s2⟩ := bL hs8 rfl rfl rfl
     obtain ⟨zs0, zs1, zs2⟩ := dS hs8
     go_wp2
     refine bodyPost_ret (v := .tuple #[.agg #[.int .i64 vid, .slice xr rs.length cr, .slice (some ⟨g, 0, none⟩) ts.length cap], .int .i64 y, .int .i64 0]) (by simp [results, Tryz.results102, go_sem, s0, s1, s2]) rfl ?_
     exact fS.ok (hA0.out _ _ hSA.out hrel.out) (((hB8.setCell (p := ⟨w.heap.size + 1, 0, none⟩) (zA) _).setCell (p := ⟨w.heap.size + 1, 1, none⟩) (zA) _).setCell (p := ⟨w.heap.size + 1, 2, none⟩) (zA) _) ⟨hcz.out, ts, i, x7, gs.length, c7, _, gs, hSA.out, hrel.out, hss, hput7, rfl, FU.mk (((hOR8.put hsz1).put hsz1).put hsz1) (by omega) (((hrow8.put hsz1).put hsz1).put hsz1) (by omega) (((hfa8.put hsz1).put hsz1).put hsz1) (by omega)⟩
    ·intro K hK
     simp only [zI, zJ]
     go_wp2_with fail
     have hba : Below w6.heap.size w6 (w6.alloc (.cells #[.func (.func 151) #[] #[]] 208)).drew := (bl1 w6 _).drew
     refine aD (hK.out _ _ ⟨⟨_, hba⟩, rfl⟩ ?_)
     clear hK K
     refine aS 11 _ _ (by kernel_rfl) (by kernel_rfl) rfl rfl ?_
     intro K hK
     simp only [zI, zJ]
     go_wp2_with fail
     have hbb : Below w6.heap.size w6 (((w6.alloc (.cells #[.func (.func 151) #[] #[]] 208)).alloc (.cells #[.int .i64 y] 3)).drew) := (cC w6 _ _).drew
     refine aD (hK.out _ _ ⟨⟨_, hbb⟩, rfl⟩ ?_)
     clear hK K
     refine aS 12 _ _ (by kernel_rfl) (by kernel_rfl) rfl rfl ?_
     intro K hK
     simp only [zI, zJ]
     go_wp2_with fail
     refine aD (hK.out _ _ ⟨⟨_, hbb⟩, rfl⟩ ?_)
     clear hK K
     refine aS 14 _ _ (by kernel_rfl) (by kernel_rfl) rfl rfl ?_
     intro K hK
     simp only [zI, zJ]
     go_wp2_with fail
     refine (hput (((w6.alloc (.cells #[.func (.func 151) #[] #[]] 208)).alloc (.cells #[.int .i64 y] 3)).drew) hbb (w6.heap.size + 1) w6.heap.size (by simp)).mono ?_
     rintro e w7 ⟨v7, rfl, hb7, p, hp, hlow, hup, hO7⟩
     have hb67 : Below w6.heap.size w6 w7 := (hbb).trans (hb7.mono (hbb).size)
     have hgx7 := aA hb7 (aB (W := w6.alloc (.cells #[.func (.func 151) #[] #[]] 208)) (k := w6.heap.size + 1) _ (by simp))
     obtain ⟨gs, hgs⟩ : ∃ gs, Hid (gs = (sbAt ts i).fs.take p ++ [(⟨id, some ⟨(w6.heap.size + 1), 0, none⟩, 1, 1, [y]⟩ : Fc)] ++ (sbAt ts i).fs.drop p) := ⟨_, rfl⟩
     rw [← hgs.out] at hO7
     obtain ⟨x7, c7, rfl, -⟩ := hO7.mem
     have hT7 := hT6.later hb67
     have hn7 := aA hb67 hn6
     have hg7 := aA hb67 hg6
     have hOS7 := jC.later hOS6 hb67
     have hOR7 := bR.later hOR6 hb67
     have hbs : w1.heap.size ≤ ((((w6.alloc (.cells #[.func (.func 151) #[] #[]] 208)).alloc (.cells #[.int .i64 y] 3)).drew)).heap.size := Nat.le_trans hb16 (hbb).size
     have hIx := FW (base := w1.heap.size) hgx7 (Nat.le_trans hb16 (by simp))
     have hOF7 : mT w7 w1.heap.size (.slice x7 gs.length c7) gs gs.length := mT.mk' (hO7.low hbs) (fun f hf => by
      rw [hgs.out] at hf
      simp only [List.mem_append, List.mem_singleton] at hf
      rcases hf with (hf | rfl) | hf
      ·exact (hOS7.own i hit).each f (List.mem_of_mem_take hf)
      ·exact hIx
      ·exact (hOS7.own i hit).each f (List.mem_of_mem_drop hf))
     have hfa7 := jC.give (i := i) hOS7 hOF7
     have hput7 : B1 ⟨id, some ⟨(w6.heap.size + 1), 0, none⟩, 1, 1, [y]⟩ (sbAt ts i).fs gs := ⟨p, by rw [hfl'.out]; exact hp, hlow, by rw [hfl'.out]; exact hup, hgs.out⟩
     have df : w7.frozen? ⟨g, i * 4 + 3, none⟩ = false := hOS7.row.frozen _
     have d3' := cell_later hb67 d3
     clear hput e2 e3 n2 d3 hgs hlow hup hp
     go_wp2_with fail
     refine aD (hK.out _ _ ⟨⟨_, hb67⟩, rfl⟩ ?_)
     clear hK K
     refine aU [15, 16, 17] rfl (by kernel_rfl) ?_
     simp only [zK, zM, zI, zJ]
     go_upto_region 12 with fail
     obtain ⟨w8, hw8⟩ : ∃ w8, w8 = w7.setCell ⟨g, i * 4 + 3, none⟩ (.slice x7 gs.length c7) := ⟨_, rfl⟩
     rw [← hw8]
     have hn8 : w8.heap[w5.heap.size]? = some (dH vid (.slice xr rs.length cr) (.slice (some ⟨g, 0, none⟩) ts.length cap)) := by rw [hw8]; exact (zB hq1).trans hn7
     have hs8 : w8.heap[w.heap.size + 1]? = some (dH 0 (.slice none 0 0) (.slice none 0 0)) := by rw [hw8]; exact (zB hq2).trans hT7.hs
     have hB8 : Below w.heap.size w w8 := by rw [hw8]; exact hT7.below.setCell (p := ⟨g, i * 4 + 3, none⟩) hq4 _
     have hOR8 : bR w8 w1.heap.size (.slice xr rs.length cr) rs := by rw [hw8]; exact hOR7.putBox hg7 (by decide)
     have hrow8 : cE w8 w1.heap.size (.slice (some ⟨g, 0, none⟩) ts.length cap) (ts.set i (bQ (sbAt ts i) x7 gs.length c7 gs)) := by rw [hw8]; exact hOS7.row.set i hit _ _ _ _
     have hfa8 : wS w8 w1.heap.size (ts.set i (bQ (sbAt ts i) x7 gs.length c7 gs)) := by rw [hw8]; exact hfa7.keptOf (aH _ _ _ _) hg7 (by decide) (by decide)
     clear hw8 df d3'
     obtain ⟨m0, m1, m2⟩ := bL hn8 rfl rfl rfl
     obtain ⟨s0, s1, s2⟩ := bL hs8 rfl rfl rfl
     obtain ⟨zs0, zs1, zs2⟩ := dS hs8
     go_wp2
     refine bodyPost_ret (v := .tuple #[.agg #[.int .i64 vid, .slice xr rs.length cr, .slice (some ⟨g, 0, none⟩) ts.length cap], .int .i64 y, .int .i64 0]) (by simp [results, Tryz.results102, go_sem, s0, s1, s2]) rfl ?_
     exact fS.ok (hA0.out _ _ hSA.out hrel.out) (((hB8.setCell (p := ⟨w.heap.size + 1, 0, none⟩) (zA) _).setCell (p := ⟨w.heap.size + 1, 1, none⟩) (zA) _).setCell (p := ⟨w.heap.size + 1, 2, none⟩) (zA) _) ⟨hcz.out, ts, i, x7, gs.length, c7, _, gs, hSA.out, hrel.out, hss, hput7, rfl, FU.mk (((hOR8.put hsz1).put hsz1).put hsz1) (by omega) (((hrow8.put hsz1).put hsz1).put hsz1) (by omega) (((hfa8.put hsz1).put hsz1).put hsz1) (by omega)⟩
   ·have hy : Hid (y = 0) := hrel.out.zero hE
    go_wp2
    refine bodyPost_ret (v := .tuple #[.agg #[.int .i64 0, .slice none 0 0, .slice none 0 0], .int .i64 0, .int .i64 E]) (by simp [results, Tryz.results102, go_sem, s0, s1, s2]) rfl ?_
    exact fS.err (hA0.out i 0 hSA.out (hy.out ▸ hrel.out)) hE (((hT3.below.setCell (p := ⟨w.heap.size + 1, 0, none⟩) (zA) _).setCell (p := ⟨w.heap.size + 1, 1, none⟩) (zA) _).setCell (p := ⟨w.heap.size + 1, 2, none⟩) (zA) _)
  ·have hsp' := hsp _ hfp
   have hno' : Hid (∀ i, i < sn → (sbAt ss i).id ≠ sub) := fun i hi => by simpa using hno i hi
   clear hfp hsp hno
   go_wp2_with fail
   refine (hsp').mono ?_
   rintro e w2 ⟨rfl, hbw2⟩
   have hT2 := hT1.later hbw2
   clear b0 b1 b2 s0 zs0 s1 zs1 s2 zs2
   obtain ⟨b0, b1, b2⟩ := bL hT2.hb rfl rfl rfl
   obtain ⟨s0, s1, s2⟩ := bL hT2.hs rfl rfl rfl
   obtain ⟨zs0, zs1, zs2⟩ := dS hT2.hs
   go_wp2
   refine bodyPost_ret (v := .tuple #[.agg #[.int .i64 0, .slice none 0 0, .slice none 0 0], .int .i64 0, .int .i64 5]) (by simp [results, Tryz.results102, go_sem, s0, s1, s2]) rfl ?_
   exact fS.err (hA5.out hno'.out) (by decide) (((hT2.below.setCell (p := ⟨w.heap.size + 1, 0, none⟩) (zA) _).setCell (p := ⟨w.heap.size + 1, 1, none⟩) (zA) _).setCell (p := ⟨w.heap.size + 1, 2, none⟩) (zA) _)
 ·have hA1 : Hid (nH vid rn rs sn ss sub id (aZ vid rn rs sn ss) 0) := by
   unfold Hid nH
   rw [if_pos hc0]
   exact ⟨rfl, rfl⟩
  go_wp2_with fail
  refine (hck).mono ?_
  rintro e w1 ⟨rfl, hbw1⟩
  have hT1 := hT0.later hbw1
  clear b0 b1 b2 s0 zs0 s1 zs1 s2 zs2
  obtain ⟨b0, b1, b2⟩ := bL hT1.hb rfl rfl rfl
  obtain ⟨s0, s1, s2⟩ := bL hT1.hs rfl rfl rfl
  obtain ⟨zs0, zs1, zs2⟩ := dS hT1.hs
  go_wp2
  refine bodyPost_ret (v := .tuple #[.agg #[.int .i64 0, .slice none 0 0, .slice none 0 0], .int .i64 0, .int .i64 (aZ vid rn rs sn ss)]) (by simp [results, Tryz.results102, go_sem, s0, s1, s2]) rfl ?_
  exact fS.err hA1.out hc0 (((hT1.below.setCell (p := ⟨w.heap.size + 1, 0, none⟩) (zA) _).setCell (p := ⟨w.heap.size + 1, 1, none⟩) (zA) _).setCell (p := ⟨w.heap.size + 1, 2, none⟩) (zA) _)
theorem iE.one {id : Int} {i' j' : Nat} (h : iE sn ss sub id i j) (g : iE sn ss sub id i' j') : i = i' ∧ j = j' := by
 have hi : i = i' := qS.one ⟨h.isn, h.sid, h.sno⟩ ⟨g.isn, g.sid, g.sno⟩
 subst hi
 refine ⟨rfl, ?_⟩
 rcases Nat.lt_trichotomy j j' with hij | hij | hij
 ·exact absurd h.fid (g.fno j hij)
 ·exact hij
 ·exact absurd g.fid (h.fno j' hij)
def qT (s : Sb) (f : Fc) (E y : Int) : Prop := if f.n = 4 then E = 2 ∧ y = 0 else uT s E y
def vX (vid : Int) (rn : Nat) (rs : List Rg) (sn : Nat) (ss : List Sb) (sub id E y : Int) : Prop :=
 (wT vid rn rs sn ss sub id ≠ 0 → E = wT vid rn rs sn ss sub id ∧ y = 0) ∧ (wT vid rn rs sn ss sub id = 0 → ∃ i j, iE sn ss sub id i j ∧ qT (sbAt ss i) (fcAt (sbAt ss i).fs j) E y)
def B2 (e : Int) (qs rs : List Int) : Prop := ∃ i, i ≤ qs.length ∧ (∀ j, j < i → ¬ e < bP qs j) ∧ (i < qs.length → e < bP qs i) ∧ rs = qs.take i ++ [e] ++ qs.drop i
def VT (vid : Int) (rn : Nat) (rs : List Rg) (sn : Nat) (ss : List Sb) (sub id : Int) (w0 w : World) (V : Value) (y : Int) : Prop :=
 aZ vid rn rs sn ss = 0 ∧ ∃ ts i j x c ns, iE sn ss sub id i j ∧ qT (sbAt ss i) (fcAt (sbAt ss i).fs j) 0 y ∧ bN ss ts ∧ B2 y (fcAt (sbAt ts i).fs j).ns ns ∧
  FU w w0.heap.size vid V rs (ts.set i (bQ (sbAt ts i) (sbAt ts i).x (sbAt ts i).n (sbAt ts i).c ((sbAt ts i).fs.set j (withA (fcAt (sbAt ts i).fs j) x ns.length c ns))))
theorem jC.turn {gf kf cf : Nat} (h : jC w base v ts ts.length) (hi : i < ts.length) (hg : w.grownBy w' (some gf)) (hb : w.heap[gf]? = some (.cells cur 80))
  (hx : (Value.slice (sbAt ts i).x (sbAt ts i).n (sbAt ts i).c).ownBlock = some gf) (hO : eB w' base (.slice (some ⟨gf, 0, none⟩) kf cf) gs) (hsub : ∀ f ∈ gs, f ∈ (sbAt ts i).fs ∨ gL w' base (.slice f.x f.n f.c) f.ns) :
  wS w' base (ts.set i (bQ (sbAt ts i) (some ⟨gf, 0, none⟩) kf cf gs)) := fun s hs => by
 have hI : ∀ k, k < ts.length → ∀ f ∈ (sbAt ts k).fs, gL w' base (.slice f.x f.n f.c) f.ns := fun k hk f hf => by
  have h1 := (h.own k hk).each f hf
  exact h1.kept hg (fun q hq e => by subst e; exact h1.ne hb (by decide) hq)
 obtain ⟨k, hk, rfl⟩ := List.getElem_of_mem hs
 have hk' : k < ts.length := by simpa using hk
 rw [List.getElem_set]
 by_cases e : i = k
 ·rw [if_pos e]
  exact mT.mk' hO (fun f hf => (hsub f hf).elim (fun h => hI i hi f h) (fun h => h))
 ·rw [if_neg e]
  have e2 : sbAt ts k = ts[k] := by unfold sbAt; rw [zF, List.getElem?_eq_getElem hk']; rfl
  rw [← e2]
  exact mT.mk' ((h.own k hk').row.kept hg (fun q hq e3 => by subst e3; exact h.apart i k hi hk' e _ hx hq)) (hI k hk')
theorem cE.faces (h : cE w base v ss) (i : Nat) (hi : i < ss.length) (gs : List Fc) : cE w base v (ss.set i (bQ (sbAt ss i) (sbAt ss i).x (sbAt ss i).n (sbAt ss i).c gs)) := by
 have e : flatS (ss.set i (bQ (sbAt ss i) (sbAt ss i).x (sbAt ss i).n (sbAt ss i).c gs)) = flatS ss := by
  rw [← BY ss i _ _ _ gs hi]
  apply List.ext_getElem?
  intro k
  rw [List.getElem?_set]
  by_cases hk : i * 4 + 3 = k
  ·subst hk
   have h1 := oM ss i 3 hi (by omega)
   rw [if_pos rfl, h1]
   have : i * 4 + 3 < (flatS ss).length := by rw [fW]; omega
   rw [if_pos this]
   rfl
  ·rw [if_neg hk]
 unfold cE
 rw [e, List.length_set]
 exact h
theorem more_after {m : Nat} : ∀ f ∈ fs.set j (withA (fcAt fs j) x m c ns), f ∈ fs ∨ (f.x = x ∧ f.n = m ∧ f.c = c ∧ f.ns = ns) := fun f hf => by
 obtain ⟨k, hk, rfl⟩ := List.getElem_of_mem hf
 rw [List.getElem_set]
 by_cases e : j = k
 ·rw [if_pos e]; exact .inr ⟨rfl, rfl, rfl, rfl⟩
 ·rw [if_neg e]; exact .inl (List.getElem_mem _)
theorem LN (vid : Int) (rx : Option Addr) (rn rc : Nat) (rs : List Rg) (sx : Option Addr) (sn sc : Nat) (ss : List Sb) (sub id : Int) (w : World) (hv : Vp w rx rn rc rs sx sn sc ss) (hrn : rn ≤ 9223372036854775807) (hsn : sn ≤ 9223372036854775807) (hrc : rc ≤ 9223372036854775807) :
  Calls Tryz.prog 103 #[.agg #[.int .i64 vid, .slice rx rn rc, .slice sx sn sc], .int .i64 sub, .int .i64 id] w (fS (vX vid rn rs sn ss sub id) (VT vid rn rs sn ss sub id w) w) := by
 have hsl : Hid (ss.length = sn) := hv.subs.len
 have hpl0 := fun W h => vW vid rx rn rc rs sx sn sc ss sub id W h hrn hsn hrc
 unfold oR at hpl0
 have hAe : Hid (wT vid rn rs sn ss sub id ≠ 0 → vX vid rn rs sn ss sub id (wT vid rn rs sn ss sub id) 0) := fun h => ⟨fun _ => ⟨rfl, rfl⟩, fun h' => absurd h' h⟩
 have hA0 : Hid (∀ i j E y, wT vid rn rs sn ss sub id = 0 → iE sn ss sub id i j → qT (sbAt ss i) (fcAt (sbAt ss i).fs j) E y → vX vid rn rs sn ss sub id E y) := fun i j E y h h1 h2 => ⟨fun h' => absurd h h', fun _ => ⟨i, j, h1, h2⟩⟩
 have hcz0 : Hid (wT vid rn rs sn ss sub id = wT vid rn rs sn ss sub id) := rfl
 generalize wT vid rn rs sn ss sub id = E at hpl0 hAe hA0 hcz0
 go_enter Tryz.func103, Tryz.ntmps103
 go_upto_region 1 with fail
 obtain ⟨w0, hw0⟩ : ∃ w0, w0 = (w.alloc (dH vid (.slice rx rn rc) (.slice sx sn sc))).alloc (dH 0 (.slice none 0 0) (.slice none 0 0)) := ⟨_, rfl⟩
 rw [← hw0]
 have hT0 : TN w w0 vid rx rn rc sx sn sc := by
  rw [hw0]
  exact ⟨aF _ (aB _ rfl), aB _ (by simp), cC w _ _⟩
 clear hw0
 obtain ⟨b0, b1, b2⟩ := bL hT0.hb rfl rfl rfl
 obtain ⟨s0, s1, s2⟩ := bL hT0.hs rfl rfl rfl
 obtain ⟨zs0, zs1, zs2⟩ := dS hT0.hs
 have hpl := hpl0 w0 (hv.later hT0.below)
 clear hpl0
 by_cases hE : E = 0
 ·subst hE
  go_wp2_with fail
  refine hpl.mono ?_
  rintro e w1 ⟨i, j, rfl, hb1, -, hok⟩
  obtain ⟨hcz', hFA⟩ := hok (by trivial)
  have hcz : Hid (aZ vid rn rs sn ss = 0) := hcz'
  obtain ⟨f1, f2, f3, f4⟩ := cN hcz'
  have hcs := tB hcz'
  clear hcz' hok hpl
  have hT1 := hT0.later hb1
  have hi := hFA.isn
  have hj := hFA.jn
  obtain ⟨b, o, rfl, c0, c1, c2, c3⟩ := hv.subs.cells i hi
  have hF := (hv.subs.faces i hi).2.2
  obtain ⟨bf, of, hbf, q0, q1⟩ := hF.cells j hj
  obtain ⟨fn, hfn⟩ : ∃ fn, Hid ((fcAt (sbAt ss i).fs j).n = fn) := ⟨_, rfl⟩
  have d0 := cell_later hT1.below c0
  have d1 := cell_later hT1.below c1
  have d2 := cell_later hT1.below c2
  have d3 := cell_later hT1.below c3
  have d3x : w1.cell? ⟨b, o + i * 4 + 3, none⟩ = some (.slice (some ⟨bf, of, none⟩) (sbAt ss i).n (sbAt ss i).c) := by rw [← hbf]; exact d3
  have p1 : w1.cell? ⟨bf, of + j * 2 + 1, none⟩ = some (.slice (fcAt (sbAt ss i).fs j).x fn (fcAt (sbAt ss i).fs j).c) := by rw [← hfn.out]; exact cell_later hT1.below q1
  have d3h : Hid (w1.cell? ⟨b, o + i * 4 + 3, none⟩ = some (.slice (sbAt ss i).x (sbAt ss i).n (sbAt ss i).c)) := d3
  clear hbf q0 q1 c0 c1 c2 c3 d3
  have i0 : (0 : Int) ≤ i := by omega
  have i1 : (i : Int) < sn := by omega
  have j0 : (0 : Int) ≤ j := by omega
  have j1 : (j : Int) < (sbAt ss i).n := by omega
  clear b0 b1 b2 s0 zs0 s1 zs1 s2 zs2
  obtain ⟨b0, b1, b2⟩ := bL hT1.hb rfl rfl rfl
  obtain ⟨s0, s1, s2⟩ := bL hT1.hs rfl rfl rfl
  obtain ⟨zs0, zs1, zs2⟩ := dS hT1.hs
  by_cases h4 : fn = 4
  ·subst h4
   have hMA : Hid (vX vid rn rs sn ss sub id 2 0) := hA0.out i j 2 0 (by trivial) hFA (by unfold qT; rw [if_pos hfn.out]; exact ⟨rfl, rfl⟩)
   go_wp2
   refine bodyPost_ret (v := .tuple #[.agg #[.int .i64 0, .slice none 0 0, .slice none 0 0], .int .i64 0, .int .i64 2]) (by simp [results, Tryz.results103, go_sem, s0, s1, s2]) rfl ?_
   exact fS.err hMA.out (by decide) (((hT1.below.setCell (p := ⟨w.heap.size + 1, 0, none⟩) (zA) _).setCell (p := ⟨w.heap.size + 1, 1, none⟩) (zA) _).setCell (p := ⟨w.heap.size + 1, 2, none⟩) (zA) _)
  ·have h4' : ¬ (fn : Int) = 4 := by omega
   have hMR : Hid (∀ E y, uT (sbAt ss i) E y → qT (sbAt ss i) (fcAt (sbAt ss i).fs j) E y) := fun E y h => by unfold qT; rw [if_neg (by rw [hfn.out]; exact h4)]; exact h
   go_upto_region 4 with fail
   have d3 := d3h.out
   clear d3x
   have hgv := B0 (sbAt ss i) w1 (hcs i hi).1 ((hv.later hT1.below).subs.faces i hi).2.2 (by have := f3 i hi; omega) (fun j hj => by have := f4 i hi j hj; omega) (hcs i hi).2
   go_wp2_with fail
   refine hgv.mono ?_
   rintro e w3 ⟨hb3, hgg⟩
   have hT3 := hT1.later hb3
   clear hgv d0 d1 d2 d3 p1
   clear b0 b1 b2 s0 zs0 s1 zs1 s2 zs2
   obtain ⟨b0, b1, b2⟩ := bL hT3.hb rfl rfl rfl
   obtain ⟨s0, s1, s2⟩ := bL hT3.hs rfl rfl rfl
   obtain ⟨zs0, zs1, zs2⟩ := dS hT3.hs
   rcases hgg with ⟨y, rfl, hL⟩ | ⟨rfl, hfull⟩
   ·have hMR0 : Hid (qT (sbAt ss i) (fcAt (sbAt ss i).fs j) 0 y) := hMR.out 0 y (.inl ⟨rfl, hL⟩)
    have hMA : Hid (vX vid rn rs sn ss sub id 0 y) := hA0.out i j 0 y (by trivial) hFA hMR0.out
    clear hA0 hL hMR hAe
    have hv3 := fun W (hW : Below w.heap.size w W) => dI vid rx rn rc rs (some ⟨b, o, none⟩) sn sc ss W (hv.later hW) (by omega) (by omega) (fun i hi => by have := f3 i hi; omega) (fun i hi j hj => by have := f4 i hi j hj; omega)
    go_wp2_with fail
    refine (hv3 _ hT3.below).mono ?_
    rintro e w5 ⟨vR, vS, ts, rfl, hOR, hss, hOS, hb5⟩
    clear hv3
    have hT5 := hT3.later hb5
    have htl : Hid (ts.length = sn) := by unfold Hid; rw [← hss.1]; exact hsl.out
    have hit : i < ts.length := by rw [htl.out]; exact hi
    have hsi := hss.2 i (by rw [hss.1]; exact hit)
    obtain ⟨hfS, hfl, hfc, hfm⟩ := (hOS.own i hit).fcs
    have hjn : j < (sbAt ts i).n := by rw [← hsi.2.2.2.1]; exact hj
    have hjf : j < (sbAt ts i).fs.length := by rw [hfl]; exact hjn
    have hsf := hsi.2.2.2.2.2 j (by rw [hsi.2.2.2.2.1]; exact hjf)
    obtain ⟨xr, cr, rfl, -⟩ := hOR.rs
    obtain ⟨g, cap, hg5, cur, hgh, hvS⟩ : ∃ g cap, w3.heap.size ≤ g ∧ ∃ cur, w5.heap[g]? = some (.cells cur 78) ∧ vS = .slice (some ⟨g, 0, none⟩) ts.length cap := by
     obtain ⟨x2, c2, hv2, -⟩ := hOS.row.mem
     rcases hOS.row.2 with ⟨hv', -⟩ | ⟨g, cap, cur, hv', hg1, hg2, -⟩
     ·rw [hv'] at hv2; simp only [Value.slice.injEq] at hv2; omega
     ·exact ⟨g, cap, hg1, cur, hg2, hv'⟩
    subst hvS
    obtain ⟨gf, cf, hgf5, curf, hgfh, hvF⟩ : ∃ gf cf, w3.heap.size ≤ gf ∧ ∃ curf, w5.heap[gf]? = some (.cells curf 80) ∧ Hid (Value.slice (sbAt ts i).x (sbAt ts i).n (sbAt ts i).c = .slice (some ⟨gf, 0, none⟩) (sbAt ts i).n cf) := by
     rcases (hOS.own i hit).row.2 with ⟨hv', -⟩ | ⟨gf, cf, curf, hv', hg1, hg2, -⟩
     ·simp only [Value.slice.injEq] at hv'; omega
     ·exact ⟨gf, cf, hg1, curf, hg2, by unfold Hid; rw [hv', hfl]⟩
    have hgl : g < w5.heap.size := (zG hgh)
    have hgfl : gf < w5.heap.size := (zG hgfh)
    clear b0 b1 b2 s0 zs0 s1 zs1 s2 zs2
    go_upto_region 10 with fail
    obtain ⟨w6, hw6⟩ : ∃ w6, w6 = w5.alloc (dH vid (.slice xr rs.length cr) (.slice (some ⟨g, 0, none⟩) ts.length cap)) := ⟨_, rfl⟩
    rw [← hw6]
    have hb56 : Below w5.heap.size w5 w6 := by rw [hw6]; exact bl1 _ _
    have hn6 : w6.heap[w5.heap.size]? = some (dH vid (.slice xr rs.length cr) (.slice (some ⟨g, 0, none⟩) ts.length cap)) := by rw [hw6]; exact aB _ rfl
    have hs6 : w6.heap.size = w5.heap.size + 1 := by rw [hw6]; simp
    clear hw6
    have h13 : w1.heap.size ≤ w3.heap.size := hb3.size
    have hT6 := hT5.later hb56
    have hg6 := aA hb56 hgh
    have hgf6 := aA hb56 hgfh
    have hOR6 := bR.later (hOR.low (base' := w1.heap.size) h13) hb56
    have hOS6 := jC.later (hOS.low (base' := w1.heap.size) h13) hb56
    have hOF6 := (hOS6.own i hit).row
    rw [hvF.out] at hOF6
    have hx6 : Hid ((Value.slice (sbAt ts i).x (sbAt ts i).n (sbAt ts i).c).ownBlock = some gf) := by unfold Hid; rw [hvF.out]; rfl
    have n2 := aX hn6 2 rfl
    have d3 : w6.cell? ⟨g, i * 4 + 3, none⟩ = some (.slice (some ⟨gf, 0, none⟩) (sbAt ts i).n cf) := by
     obtain ⟨x2, c2, he2, -, -, -, hm'⟩ := hOS6.row.mem
     simp only [Value.slice.injEq] at he2
     obtain ⟨b2, o2, he3, -, -, -, c8⟩ := hm' i hit
     rw [← he2.1] at he3
     simp only [Option.some.injEq, Addr.mk.injEq] at he3
     obtain ⟨rfl, rfl, -⟩ := he3
     rw [hvF.out] at c8
     simpa using c8
    have i1' : (i : Int) < ts.length := by omega
    have j1' : (j : Int) < (sbAt ts i).n := by omega
    have hIj := (hOS6.own i hit).each _ (zP hjf)
    obtain ⟨hIS, hIl, hIc, hIm⟩ := hIj.is
    have hIx : ((fcAt (sbAt ts i).fs j).x = none ∧ (fcAt (sbAt ts i).fs j).c = 0) ∨ ∃ b o, (fcAt (sbAt ts i).fs j).x = some ⟨b, o, none⟩ := by
     rcases hIj.2 with ⟨h, -⟩ | ⟨g, cap, cur, h, -⟩
     ·simp only [Value.slice.injEq] at h
      exact .inl ⟨h.1, h.2.2⟩
     ·simp only [Value.slice.injEq] at h
      exact .inr ⟨g, 0, h.1⟩
    have hfn4 : (fcAt (sbAt ts i).fs j).n ≤ 4 := by rw [← hsf.2.1]; exact f4 i hi j hj
    have p1 : w6.cell? ⟨gf, j * 2 + 1, none⟩ = some (.slice (fcAt (sbAt ts i).fs j).x (fcAt (sbAt ts i).fs j).n (fcAt (sbAt ts i).fs j).c) := by
     obtain ⟨x2, c2, he2, -, -, -, hm'⟩ := hOF6.mem
     simp only [Value.slice.injEq] at he2
     obtain ⟨b2, o2, he3, -, c8⟩ := hm' j hjf
     rw [← he2.1] at he3
     simp only [Option.some.injEq, Addr.mk.injEq] at he3
     obtain ⟨rfl, rfl, -⟩ := he3
     simpa using c8
    have hput := fun W (hW : Below w6.heap.size w6 W) bf hby => O1 y (fcAt (sbAt ts i).fs j).x (fcAt (sbAt ts i).fs j).n (fcAt (sbAt ts i).fs j).c (fcAt (sbAt ts i).fs j).ns bf 1 W (hIS.later hW) (by omega) hIc hIm hIx hby
    have hb16 : w1.heap.size ≤ w6.heap.size := by have := hb5.size; omega
    have hsz1 : w.heap.size + 1 < w1.heap.size := (zG hT1.hs)
    have hw1 : w.heap.size ≤ w1.heap.size := by omega
    have hq1 : w5.heap.size ≠ gf := by omega
    have hq2 : w.heap.size + 1 ≠ gf := by omega
    have hq4 : w.heap.size ≤ gf := by omega
    have hgg : g ≠ gf := fun e => by rw [e] at hg6; rw [hg6] at hgf6; simp at hgf6
    have hIl' : Hid ((fcAt (sbAt ts i).fs j).ns.length = (fcAt (sbAt ts i).fs j).n) := hIl
    have hjf' : Hid (j < (sbAt ts i).fs.length) := hjf
    clear hfl hfc hfm hsi hsf hcs f1 f2 f3 f4 hIl hIc hIm hIx hIj hfS hjf hs6
    go_wp2_with fail
    refine (hput _ (bl1 w6 _) w6.heap.size (by simp)).mono ?_
    rintro e w7 ⟨v7, rfl, hb7, p, hp, hlow, hup, hO7⟩
    obtain ⟨ns, hns⟩ : ∃ ns, Hid (ns = (fcAt (sbAt ts i).fs j).ns.take p ++ [y] ++ (fcAt (sbAt ts i).fs j).ns.drop p) := ⟨_, rfl⟩
    rw [← hns.out] at hO7
    obtain ⟨x7, c7, rfl, -⟩ := hO7.mem
    have hb67 : Below w6.heap.size w6 w7 := (bl1 w6 _).trans (hb7.mono (by simp))
    have hT7 := hT6.later hb67
    have hn7 := aA hb67 hn6
    have hgf7 := aA hb67 hgf6
    have hOS7 := jC.later hOS6 hb67
    have hOR7 := bR.later hOR6 hb67
    have hOF7 := hOF6.later hb67
    have hO7' := hO7.low (base' := w1.heap.size) (by simp; omega)
    have hput7 : B2 y (fcAt (sbAt ts i).fs j).ns ns := ⟨p, by rw [hIl'.out]; exact hp, hlow, by rw [hIl'.out]; exact hup, hns.out⟩
    have p17 : w7.cell? ⟨gf, j * 2 + 1, none⟩ = some (.slice (fcAt (sbAt ts i).fs j).x (fcAt (sbAt ts i).fs j).n (fcAt (sbAt ts i).fs j).c) := cell_later hb67 p1
    have df : w7.frozen? ⟨gf, j * 2 + 1, none⟩ = false := hOF7.frozen _
    clear hput p1 n2 d3 hns hlow hup hp
    go_upto_region 12 with fail
    obtain ⟨w8, hw8⟩ : ∃ w8, w8 = w7.setCell ⟨gf, j * 2 + 1, none⟩ (.slice x7 ns.length c7) := ⟨_, rfl⟩
    rw [← hw8]
    have hn8 : w8.heap[w5.heap.size]? = some (dH vid (.slice xr rs.length cr) (.slice (some ⟨g, 0, none⟩) ts.length cap)) := by rw [hw8]; exact (zB hq1).trans hn7
    have hs8 : w8.heap[w.heap.size + 1]? = some (dH 0 (.slice none 0 0) (.slice none 0 0)) := by rw [hw8]; exact (zB hq2).trans hT7.hs
    have hB8 : Below w.heap.size w w8 := by rw [hw8]; exact hT7.below.setCell (p := ⟨gf, j * 2 + 1, none⟩) hq4 _
    have hOR8 : bR w8 w1.heap.size (.slice xr rs.length cr) rs := by rw [hw8]; exact hOR7.putBox hgf7 (by decide)
    have hgw : w7.grownBy w8 (some gf) := by rw [hw8]; exact aH _ _ _ _
    have hrow8 : cE w8 w1.heap.size (.slice (some ⟨g, 0, none⟩) ts.length cap) (ts.set i (bQ (sbAt ts i) (sbAt ts i).x (sbAt ts i).n (sbAt ts i).c ((sbAt ts i).fs.set j (withA (fcAt (sbAt ts i).fs j) x7 ns.length c7 ns)))) := (hOS7.row.kept hgw (fun q hq e => by subst e; exact hOS7.row.ne hgf7 (by decide) hq)).faces i hit _
    have hO8 : gL w8 w1.heap.size (.slice x7 ns.length c7) ns := hO7'.kept hgw (fun q hq e => by subst e; exact hO7'.ne hgf7 (by decide) hq)
    have hOF8 : eB w8 w1.heap.size (.slice (some ⟨gf, 0, none⟩) (sbAt ts i).n cf) ((sbAt ts i).fs.set j (withA (fcAt (sbAt ts i).fs j) x7 ns.length c7 ns)) := by rw [hw8]; exact hOF7.set j hjf'.out _ _ _ _
    have hfa8 : wS w8 w1.heap.size (ts.set i (bQ (sbAt ts i) (sbAt ts i).x (sbAt ts i).n (sbAt ts i).c ((sbAt ts i).fs.set j (withA (fcAt (sbAt ts i).fs j) x7 ns.length c7 ns)))) := by
     have h := hOS7.turn hit hgw hgf7 hx6.out hOF8 (fun f hf => by
      rcases more_after f hf with h | ⟨h1, h2, h3, h4⟩
      ·exact .inl h
      ·rw [h1, h2, h3, h4]; exact .inr hO8)
     have hv := hvF.out
     simp only [Value.slice.injEq] at hv
     rw [hv.1, hv.2.2]
     exact h
    clear hw8 p17 df
    obtain ⟨m0, m1, m2⟩ := bL hn8 rfl rfl rfl
    obtain ⟨s0, s1, s2⟩ := bL hs8 rfl rfl rfl
    obtain ⟨zs0, zs1, zs2⟩ := dS hs8
    go_wp2
    refine bodyPost_ret (v := .tuple #[.agg #[.int .i64 vid, .slice xr rs.length cr, .slice (some ⟨g, 0, none⟩) ts.length cap], .int .i64 y, .int .i64 0]) (by simp [results, Tryz.results103, go_sem, s0, s1, s2]) rfl ?_
    exact fS.ok hMA.out (((hB8.setCell (p := ⟨w.heap.size + 1, 0, none⟩) (zA) _).setCell (p := ⟨w.heap.size + 1, 1, none⟩) (zA) _).setCell (p := ⟨w.heap.size + 1, 2, none⟩) (zA) _) ⟨hcz.out, ts, i, j, x7, c7, ns, hFA, hMR0.out, hss, hput7, ⟨_, _, rfl, (((hOR8.put hsz1).put hsz1).put hsz1).low hw1, (((hrow8.put hsz1).put hsz1).put hsz1).low hw1, (((hfa8.put hsz1).put hsz1).put hsz1).low hw1⟩⟩
   ·have hMA : Hid (vX vid rn rs sn ss sub id 8 0) := hA0.out i j 8 0 (by trivial) hFA (hMR.out 8 0 (.inr ⟨rfl, rfl, hfull⟩))
    clear hfull hMR hA0 hAe
    go_wp2
    refine bodyPost_ret (v := .tuple #[.agg #[.int .i64 0, .slice none 0 0, .slice none 0 0], .int .i64 0, .int .i64 8]) (by simp [results, Tryz.results103, go_sem, s0, s1, s2]) rfl ?_
    exact fS.err hMA.out (by decide) (((hT3.below.setCell (p := ⟨w.heap.size + 1, 0, none⟩) (zA) _).setCell (p := ⟨w.heap.size + 1, 1, none⟩) (zA) _).setCell (p := ⟨w.heap.size + 1, 2, none⟩) (zA) _)
 ·go_wp2_with fail
  refine hpl.mono ?_
  rintro e w1 ⟨i, j, rfl, hb1, hzz, -⟩
  obtain ⟨rfl, rfl⟩ := hzz hE
  have hT1 := hT0.later hb1
  clear b0 b1 b2 s0 zs0 s1 zs1 s2 zs2
  obtain ⟨b0, b1, b2⟩ := bL hT1.hb rfl rfl rfl
  obtain ⟨s0, s1, s2⟩ := bL hT1.hs rfl rfl rfl
  obtain ⟨zs0, zs1, zs2⟩ := dS hT1.hs
  go_wp2
  refine bodyPost_ret (v := .tuple #[.agg #[.int .i64 0, .slice none 0 0, .slice none 0 0], .int .i64 0, .int .i64 E]) (by simp [results, Tryz.results103, go_sem, s0, s1, s2]) rfl ?_
  exact fS.err (hAe.out hE) hE (((hT1.below.setCell (p := ⟨w.heap.size + 1, 0, none⟩) (zA) _).setCell (p := ⟨w.heap.size + 1, 1, none⟩) (zA) _).setCell (p := ⟨w.heap.size + 1, 2, none⟩) (zA) _)
theorem jC.nil (w : World) (base : Nat) : jC w base (.slice none 0 0) [] 0 :=
 ⟨⟨rfl, .inl ⟨rfl, rfl⟩⟩, fun _ hi => absurd hi (Nat.not_lt_zero _), fun _ _ hi => absurd hi (Nat.not_lt_zero _)⟩
open Go.ChangeShapes Go.WideShapes Go.ChangeAt Go.RowKit Go.Joins
section
variable {H : Type} {enc : TypeId × Value → H} {w : World} {base : Nat} {spare : Nat → Bool} {held : Bool}
end
theorem oS (h : i < rs.length) : aJ rs i = rs[i] := by simp [aJ, List.getD_eq_getElem?_getD, h]
theorem FX : Tryz.prog.underlying 93 = some (.struct (Tryz.prog.fieldsOf 93)) := by kernel_rfl
theorem LO : Tryz.prog.stoodInHeld 93 = false := by kernel_rfl
theorem RH (a l c m : Int) (w : World) : (binOp .eql 93 (.agg #[.int .i64 a, .int .i64 l]) (.agg #[.int .i64 c, .int .i64 m])).run Tryz.prog w = .ok (.bool (decide (a = c) && decide (l = m))) w := by
 rw [run_eql_struct, show (10000 : Nat) = 9999 + 1 from rfl, run_equalIn_agg w 9999 _ _ _ FX LO]
 simp only [Program.fieldsOf, Tryz.underlying93]
 go_simp
 by_cases h1 : a = c <;> by_cases h2 : l = m <;> simp [h1, h2]
theorem ID : Tryz.prog.eqGuardType Tryz.prog.depth 93 = false := by kernel_rfl
theorem IE (op : BinOp) (x y : Operand) (p q : Array Value) (w : World) : (eqGuard op 93 x y (.agg p) (.agg q)).run Tryz.prog w = .ok () w := by
 have h := ID
 unfold eqGuard
 cases op <;> simp [go_sem, h]
theorem IF {Q : Act → Prop} (x y : Operand) (t : TypeId) (a l c m : Int) (hop : o.op = .binOp .eql 93 x y t) (hg : o.guard = none)
  (hx : A.eval x = .agg #[.int .i64 a, .int .i64 l]) (hy : A.eval y = .agg #[.int .i64 c, .int .i64 m]) (h : wpQuiet Tryz.prog ops C Q rest (A.put o.dst (.bool (decide (a = c) && decide (l = m))))) : wpQuiet Tryz.prog ops C Q (o :: rest) A := by
 unfold wpQuiet
 rw [if_pos (by simp [Region.wanted, hg])]
 refine ⟨_, fun w _ => ?_, h⟩
 unfold Oper.quietAt execOp
 rw [hop]
 simp only [hx, hy, Sem.run_bind, IE, RH, Result.andThen_ok, Sem.run_pure]
 exact ⟨rfl, rfl⟩
def eqLk (ps : List (Int × Int)) (a l : Int) (i : Nat) : Bool := decide (a = dB ps i) && decide (l = eA ps i)
theorem vY (a l : Int) (x : Option Addr) (n c : Nat) (ps : List (Int × Int)) (w : World) (hp : PS w x n ps) (hn : n ≤ 64) :
  Calls Tryz.prog 108 #[.slice x n c, .agg #[.int .i64 a, .int .i64 l]] w fun e w' => (∃ r : Int, e = .returned (.int .i64 r) ∧ ((∃ i : Nat, i < n ∧ eqLk ps a l i = true ∧ (∀ j, j < i → eqLk ps a l j = false) ∧ r = i) ∨ ((∀ j, j < n → eqLk ps a l j = false) ∧ r = -1))) ∧ Below w.heap.size w w' := by
 go_enter Tryz.func108, Tryz.ntmps108
 go_wp2
 go_loopw [8] (fun i wr => ∃ k : Nat, k ≤ n ∧ i = .int .i64 k ∧ Below (w.heap.size + 1) (w.alloc (.cells #[.int .i64 a, .int .i64 l] 93)) wr ∧ (∀ j, j < k → eqLk ps a l j = false)) (fun i _ => n - (intOf i).toNat)
 case atStart => exact ⟨0, by omega, rfl, zD, fun j hj => by omega⟩
 case round =>
  obtain ⟨k, hk, rfl, hB, hno⟩ := hrel
  have hz := hB.size
  simp only [World.size_alloc] at hz
  by_cases hlt : k < n
  ·have hp2 := (hp.later (bl1 w (.cells #[.int .i64 a, .int .i64 l] 93)))
   obtain ⟨b, o, rfl, c0, c1⟩ := hp2.cells k hlt
   have hbl := block_lt_of_cell c0
   simp only [World.size_alloc] at hbl
   have d0 : wr.cell? ⟨b, o + k * 2, none⟩ = some (.int .i64 (dB ps k)) := (hB.cell (p := ⟨b, o + k * 2, none⟩) hbl).trans c0
   have d1 : wr.cell? ⟨b, o + k * 2 + 1, none⟩ = some (.int .i64 (eA ps k)) := (hB.cell (p := ⟨b, o + k * 2 + 1, none⟩) hbl).trans c1
   have e0 : wr.cell? ⟨w.heap.size, 0, none⟩ = some (.int .i64 a) := (hB.cell (p := ⟨w.heap.size, 0, none⟩) (by show w.heap.size < _; omega)).trans (by simp)
   have e1 : wr.cell? ⟨w.heap.size, 1, none⟩ = some (.int .i64 l) := (hB.cell (p := ⟨w.heap.size, 1, none⟩) (by show w.heap.size < _; omega)).trans (by simp)
   have g0 := Ws.here e0
   have g1 := Ws.here e1
   have g2 := Ws.here d0
   have g3 := Ws.here d1
   have hlt' := hlt
   go_upto_region 4 with fail
   clear e0 e1 d0 d1 c0 c1
   refine aK wr.heap.size (by kernel_rfl) (by kernel_rfl) ?_
   repeat (go_big_quiet_step (fail))
   refine IF _ _ _ a l (dB ps k) (eA ps k) rfl rfl rfl rfl ?_
   refine wpQuiet_nil ?_
   rintro _ ⟨u, rfl⟩
   have hu := hB.trans (u.property.mono hz)
   generalize u.val = wu at hu ⊢
   clear u g0 g1 g2 g3
   cases he : eqLk ps a l k
   all_goals have he' := he
   all_goals unfold eqLk at he'
   all_goals rw [he']
   ·go_wp2
    go_roundw
    case rel => exact ⟨k + 1, hlt', by go_num, hu, fun j hj => by
     by_cases hj2 : j < k
     ·exact hno j hj2
     ·obtain rfl : j = k := by omega
      exact he⟩
    case measure => simp [intOf]; omega
   ·go_wp2
    go_ret
    exact ⟨⟨_, rfl, .inl ⟨k, hlt', he, hno, rfl⟩⟩, (bl1 w _).trans (hu.mono (by omega))⟩
  ·go_wp2
   go_ret
   exact ⟨⟨_, rfl, .inr ⟨fun j hj => hno j (by omega), rfl⟩⟩, (bl1 w _).trans (hB.mono (by omega))⟩
theorem zQ : aL n (eqLk ls a b) = true ↔ ∃ i, i < n ∧ dB ls i = a ∧ eA ls i = b := by
 constructor
 ·intro h
  obtain ⟨i, hi, hf⟩ := kD h
  unfold eqLk at hf
  simp only [zH, decide_eq_true_eq] at hf
  exact ⟨i, hi, hf.1.symm, hf.2.symm⟩
 ·rintro ⟨i, hi, h1, h2⟩
  exact bD hi (by unfold eqLk; simp [h1, h2])
theorem zR (a l : Int) (x : Option Addr) (n c : Nat) (ps : List (Int × Int)) (w : World) (hp : PS w x n ps) (hn : n ≤ 64) :
  Calls Tryz.prog 105 #[.slice x n c, .agg #[.int .i64 a, .int .i64 l]] w fun e w' => e = .returned (.bool (aL n (eqLk ps a l))) ∧ Below w.heap.size w w' := by
 have H := vY a l x n c ps (w.alloc (.cells #[.int .i64 a, .int .i64 l] 93)) (hp.later (bl1 w _)) hn
 have H' : Hid (Calls Tryz.prog 108 #[.slice x n c, .agg #[.int .i64 a, .int .i64 l]] (w.alloc (.cells #[.int .i64 a, .int .i64 l] 93)) fun e w' => (∃ r : Int, e = .returned (.int .i64 r) ∧ decide (r ≥ 0) = aL n (eqLk ps a l)) ∧ Below (w.alloc (.cells #[.int .i64 a, .int .i64 l] 93)).heap.size (w.alloc (.cells #[.int .i64 a, .int .i64 l] 93)) w') := (H.mono fun e w' h => by
  obtain ⟨⟨r, rfl, hr⟩, hb⟩ := h
  refine ⟨⟨r, rfl, ?_⟩, hb⟩
  rcases hr with ⟨i, hi, hfi, _, rfl⟩ | ⟨hno, rfl⟩
  ·rw [bD hi hfi]; simp
  ·rw [fL hno]; rfl)
 clear H
 go_enter Tryz.func105, Tryz.ntmps105
 go_wp2_with fail
 refine H'.out.mono ?_
 rintro e w1 ⟨⟨r, rfl, hr⟩, hb1⟩
 go_wp2
 go_ret
 exact ⟨rfl, (bl1 w _).trans (hb1.mono (by simp))⟩
def MU (ln : Nat) (ls : List (Int × Int)) (a b : Int) : Bool := aL ln (eqLk ls (min a b) (max a b))
def SR (ln : Nat) (ls : List (Int × Int)) (id : Int) (v : Vn) : Bool := (v.id == id) || MU ln ls v.id id
theorem eR (h : bU n vs ln ls = 0) : n ≤ 6 ∧ ln ≤ 12 ∧ eL n vs = true ∧ dC n vs ln ls = true ∧ sX ls n vs = true := by
 unfold bU at h
 split at h
 ·omega
 ·rename_i hm
  simp only [Bool.or_eq_true, decide_eq_true_eq] at hm
  split at h
  ·rename_i hw
   simp only [zH] at hw
   exact ⟨by omega, by omega, hw.1.1, hw.1.2, hw.2⟩
  ·omega
theorem DM (ms : List (Int × Int)) : ∀ (hd : Int → Int) (x y : Int), hd x = hd y → (ms.foldl (fun hd l x => if hd x = hd l.1 then hd l.2 else hd x) hd) x = (ms.foldl (fun hd l x => if hd x = hd l.1 then hd l.2 else hd x) hd) y := by
 induction ms with
 | nil => intro hd x y h; exact h
 | cons m ms ih =>
  intro hd x y h
  rw [List.foldl_cons]
  refine ih _ x y ?_
  simp only [h]
theorem LP (h : (a, b) ∈ ls) : cU ls a = cU ls b := by
 obtain ⟨p, q, rfl⟩ := List.append_of_mem h
 unfold cU
 rw [List.foldl_append, List.foldl_cons]
 refine DM q _ a b ?_
 simp only [if_true]
 split <;> rfl
theorem VU (hl : ls.length = ln) (h : MU ln ls a b = true) : cU ls a = cU ls b := by
 obtain ⟨i, hi, h0, h1⟩ := zQ.1 h
 have hm : (min a b, max a b) ∈ ls := by
  rw [← h0, ← h1, yW (by omega)]
  exact List.getElem_mem _
 have := LP hm
 by_cases e : a ≤ b
 ·rw [show min a b = a by omega, show max a b = b by omega] at this
  exact this
 ·rw [show min a b = b by omega, show max a b = a by omega] at this
  exact this.symm
theorem lY (h : eL n vs = true) : ∀ i, i < n → aZ (aC vs i).id (aC vs i).rn (aC vs i).rs (aC vs i).sn (aC vs i).ss = 0 := fun i hi => by
 unfold eL at h
 rw [zH] at h
 have hb : kE (aC vs i) = false := by
  cases e : kE (aC vs i)
  ·rfl
  ·rw [bD (f := fun i => kE (aC vs i)) hi e] at h
   exact absurd h.2 (by simp)
 unfold kE at hb
 simpa using hb
theorem IG {id : Int} (h : aZ id rn rs sn ss = 0) : cT rn sn ss = false ∧ dE id 1 65536 = true ∧ nO rn rs = true ∧ mQ rn rs sn ss = true := by
 unfold aZ at h
 split at h
 ·omega
 ·rename_i hm
  split at h
  ·rename_i hw
   simp only [zH] at hw
   exact ⟨by simpa using hm, hw.1.1, hw.1.2, hw.2⟩
  ·omega
theorem UB (h : nO rn rs = true) {i : Nat} (hi : i < rn) : BV (aJ rs i) = true ∧ ∀ j, j < i → fK (aJ rs j).a (aJ rs j).l (aJ rs i).a (aJ rs i).l = false := by
 unfold nO at h
 rw [zH, List.all_eq_true] at h
 have h1 := h.1 i (by simpa using hi)
 unfold sT at h1
 rw [zH] at h1
 refine ⟨h1.1, fun j hj => ?_⟩
 cases e : fK (aJ rs j).a (aJ rs j).l (aJ rs i).a (aJ rs i).l
 ·rfl
 ·rw [bD (f := DD rs (aJ rs i).a (aJ rs i).l) hj e] at h1
  exact absurd h1.2 (by simp)
theorem ST (h : BV r = true) : rt r.a r.l = true := by
 unfold BV at h
 rw [zH] at h
 exact h.1
theorem FY (h : sX ls n vs = true) {i j : Nat} (hi : i < n) (hj : j < i) : A6 (cU ls) vs i j = false := by
 unfold sX at h
 rw [List.all_eq_true] at h
 have h1 := h i (by simpa using hi)
 unfold DG at h1
 rw [List.all_eq_true] at h1
 have h2 := h1 j (by simpa using hj)
 simpa using h2
structure VV (n : Nat) (vs : List Vn) (ln : Nat) (ls : List (Int × Int)) : Prop where
 vl : vs.length = n
 ll : ls.length = ln
 rl : ∀ i, i < n → (aC vs i).rs.length = (aC vs i).rn
 chk : bU n vs ln ls = 0
theorem VV.near_hd (h : VV n vs ln ls) {id : Int} {v : Vn} (hv : SR ln ls id v = true) : cU ls v.id = cU ls id := by
 unfold SR at hv
 simp only [Bool.or_eq_true, beq_iff_eq] at hv
 rcases hv with hv | hv
 ·rw [hv]
 ·exact VU h.ll hv
theorem DN (h : dQ vs = true) : ∀ (i j : Nat), i < j → j < vs.length → (aC vs i).id < (aC vs j).id
 | i, 0, hij, _ => by omega
 | i, j + 1, hij, hj => by
  have h1 : jL vs (j + 1) = true := by
   unfold dQ at h
   rw [List.all_eq_true] at h
   exact h (j + 1) (by simpa using hj)
  unfold jL at h1
  simp only [Nat.add_sub_cancel, Bool.or_eq_true, decide_eq_true_eq, beq_iff_eq] at h1
  have h2 : (aC vs j).id < (aC vs (j + 1)).id := by
   rcases h1 with h1 | h1
   ·omega
   ·exact h1
  by_cases e : i < j
  ·have := DN h i j e (by omega)
   omega
  ·obtain rfl : i = j := by omega
   exact h2
theorem uU (hl : vs.length = n) (h : dQ vs = true) {i : Nat} (hi : i < n) : aI n vs (aC vs i).id = i :=
 rM hi (by simp) (fun j hj => by
  have := DN h j i hj (by omega)
  simp
  omega)
open Go.RowKit Go.Shelf Go.Maps
def zS (ls : List (Int × Int)) (a y : Int) : Prop := ∀ P : Int → Prop, P a → (∀ b c, P b → (b, c) ∈ ls → P c) → (∀ b c, P b → (c, b) ∈ ls → P c) → P y
theorem zS.here : zS ls a a := fun _ p _ _ => p
theorem zS.out {c : Int} (h : zS ls a b) (m : (b, c) ∈ ls) : zS ls a c := fun P p o k => o _ _ (h P p o k) m
theorem zS.back {c : Int} (h : zS ls a b) (m : (c, b) ∈ ls) : zS ls a c := fun P p o k => k _ _ (h P p o k) m
theorem zS.trans {c : Int} (h : zS ls a b) (k : zS ls b c) : zS ls a c :=
 k (fun y => zS ls a y) h (fun _ _ ih m => ih.out m) (fun _ _ ih m => ih.back m)
theorem zS.more (h : zS ls a b) (hs : ∀ p ∈ ls, p ∈ ms) : zS ms a b :=
 h (fun y => zS ms a y) zS.here (fun _ _ ih m => ih.out (hs _ m)) (fun _ _ ih m => ih.back (hs _ m))
theorem JH (ls : List (Int × Int)) : ∀ p ∈ ls, cU ls p.1 = cU ls p.2 := by
 suffices h : ∀ n, ∀ ls : List (Int × Int), ls.length = n → ∀ p ∈ ls, cU ls p.1 = cU ls p.2 from h _ ls rfl
 intro n
 induction n with
 | zero =>
  intro ls hl p hp
  rw [List.length_eq_zero_iff.1 hl] at hp
  cases hp
 | succ n ih =>
  intro ls hl p hp
  have hne : ls ≠ [] := by intro e; rw [e] at hl; cases hl
  rw [← List.dropLast_concat_getLast hne] at hp ⊢
  rw [lX, lX]
  rcases List.mem_append.1 hp with hp | hp
  ·rw [ih _ (by rw [List.length_dropLast, hl]; rfl) p hp]
  ·rw [List.mem_singleton.1 hp, if_pos rfl]
   split <;> rfl
theorem UC (ls : List (Int × Int)) : ∀ a b, cU ls a = cU ls b → zS ls a b := by
 suffices h : ∀ n, ∀ ls : List (Int × Int), ls.length = n → ∀ a b, cU ls a = cU ls b → zS ls a b from h _ ls rfl
 intro n
 induction n with
 | zero =>
  intro ls hl a b h
  rw [List.length_eq_zero_iff.1 hl] at h ⊢
  have e : a = b := h
  rw [e]
  exact .here
 | succ n ih =>
  intro ls hl a b h
  have hne : ls ≠ [] := by intro e; rw [e] at hl; cases hl
  rw [← List.dropLast_concat_getLast hne] at h ⊢
  rw [lX, lX] at h
  have ih' := ih ls.dropLast (by rw [List.length_dropLast, hl]; rfl)
  generalize ls.dropLast = ms at *
  generalize ls.getLast hne = l at *
  have up : ∀ {x y}, zS ms x y → zS (ms ++ [l]) x y := fun c => c.more fun p hp => List.mem_append.2 (.inl hp)
  have hl : (l.1, l.2) ∈ ms ++ [l] := by simp
  split at h
  ·rename_i ha
   split at h
   ·rename_i hb
    exact up (ih' a b (ha.trans hb.symm))
   ·exact ((up (ih' a l.1 ha)).out hl).trans (up (ih' l.2 b h))
  ·split at h
   ·rename_i hb
    exact ((up (ih' a l.2 h)).back hl).trans (up (ih' l.1 b hb.symm))
   ·exact up (ih' a b h)
theorem UD (h : zS ls a b) : cU ls a = cU ls b :=
 h (fun y => cU ls a = cU ls y) rfl (fun b c ih m => ih.trans (JH ls (b, c) m)) (fun b c ih m => ih.trans (JH ls (c, b) m).symm)
def WT (ls : List (Int × Int)) (a b : Int) : Bool := decide ((min a b, max a b) ∈ ls)
theorem VW (hl : ls.length = ln) (a b : Int) : MU ln ls a b = WT ls a b := by
 unfold WT
 by_cases h : (min a b, max a b) ∈ ls
 ·rw [decide_eq_true h]
  obtain ⟨i, hi, e⟩ := List.getElem_of_mem h
  have e2 := yW hi
  rw [e] at e2
  exact zQ.2 ⟨i, by omega, congrArg Prod.fst e2, congrArg Prod.snd e2⟩
 ·rw [decide_eq_false h]
  cases hj : MU ln ls a b
  ·rfl
  ·exfalso
   obtain ⟨i, hi, h0, h1⟩ := zQ.1 hj
   apply h
   have e2 := yW (ls := ls) (k := i) (by omega)
   rw [h0, h1] at e2
   rw [e2]
   exact List.getElem_mem _
theorem tC (hl : vs.length = n) (hll : ls.length = ln) (h : dC n vs ln ls = true) : ∀ q ∈ ls, q.1 < q.2 ∧ (∃ k, k < n ∧ (aC vs k).id = q.1) ∧ ∃ k, k < n ∧ (aC vs k).id = q.2 := by
 intro q hq
 obtain ⟨i, hi, e⟩ := List.getElem_of_mem hq
 have e2 := yW hi
 rw [e] at e2
 have e3 : dB ls i = q.1 := congrArg Prod.fst e2
 have e4 : eA ls i = q.2 := congrArg Prod.snd e2
 obtain ⟨m0, m1⟩ := uS hl h i (by omega)
 rw [e3] at m0
 rw [e4] at m1
 obtain ⟨k0, hk0, h0⟩ := xE m0
 obtain ⟨k1, hk1, h1⟩ := xE m1
 refine ⟨?_, ⟨k0, by omega, h0⟩, ⟨k1, by omega, h1⟩⟩
 unfold dC at h
 rw [zH, Bool.not_eq_true'] at h
 have h2 := cG.1 h.2 i (by omega)
 unfold mR at h2
 simp only [Bool.or_eq_false_iff, decide_eq_false_iff_not] at h2
 rw [e3, e4] at h2
 omega
theorem rO (rn : Nat) (rs : List Rg) (qn : Nat) (qs : List Rg) : iS rn rs qn qs = iS qn qs rn rs := by
 have h : ∀ (rn : Nat) (rs : List Rg) (qn : Nat) (qs : List Rg), iS rn rs qn qs = true → iS qn qs rn rs = true := by
  intro rn rs qn qs h
  obtain ⟨i, hi, h1⟩ := kD h
  obtain ⟨j, hj, h2⟩ := kD h1
  refine bD (k := j) hj (bD (k := i) hi ?_)
  rw [gA]
  exact h2
 cases h1 : iS rn rs qn qs
 ·cases h2 : iS qn qs rn rs
  ·rfl
  ·rw [h _ _ _ _ h2] at h1
   cases h1
 ·rw [h _ _ _ _ h1]
theorem xF (h : (decide (6 < n) || decide (12 < ln)) = false) (h1 : eL n vs = true) (h2 : dC n vs ln ls = true) (h3 : sX ls n vs = true) : bU n vs ln ls = 0 := by
 unfold bU
 rw [if_neg (by rw [h]; simp), h1, h2, h3]
 rfl
def lkAt (ls : List (Int × Int)) (i : Nat) : Int × Int := ls.getD i (0, 0)
def cV (e : Vn) : List Value := [.int .i64 e.id, .slice e.rx e.rn e.rc, .slice e.sx e.sn e.sc]
def flatV (es : List Vn) : List Value := es.flatMap cV
theorem IH (e : Vn) : (cV e).length = 3 := rfl
theorem jQ : ∀ es : List Vn, (flatV es).length = es.length * 3 := mH IH
theorem LQ (es fs : List Vn) : flatV (es ++ fs) = flatV es ++ flatV fs := by simp [flatV]
theorem zT : ∀ (es : List Vn) (i j : Nat), i < es.length → j < 3 → (flatV es)[i * 3 + j]? = (cV (aC es i))[j]? := rZ IH VK
theorem uW (es : List Vn) : ∀ u ∈ flatV es, u.oneCell' = true := fun u hu => by
 obtain ⟨e, -, hu⟩ := List.mem_flatMap.1 hu
 simp only [cV, List.mem_cons, List.not_mem_nil, or_false] at hu
 rcases hu with rfl | rfl | rfl <;> rfl
def cB (w : World) (base : Nat) (v : Value) (es : List Vn) : Prop := w.ownsRow base 41 3 v es.length (flatV es)
theorem cB.later {es : List Vn} (h : cB w base v es) (hb : Below w.heap.size w w') : cB w' base v es := jF h hb
theorem cB.kept {es : List Vn} (h : cB w base v es) (hg : w.grownBy w' (some g)) (hne : ∀ k, v.ownBlock = some k → k ≠ g) : cB w' base v es := iL h hg hne
theorem cB.low {es : List Vn} (h : cB w base v es) (hb : base' ≤ base) : cB w base' v es := jG h hb
theorem cB.lt {es : List Vn} (h : cB w base v es) : ∀ k, v.ownBlock = some k → base ≤ k ∧ k < w.heap.size := World.ownsRow.lt h
theorem cB.ne {b : Nat} {es : List Vn} (h : cB w base v es) (hb : w.heap[b]? = some (.cells cs t fr)) (ht : t ≠ 41) : v.ownBlock ≠ some b := nZ h hb ht
theorem VX : Ty 41 26 3 (.agg #[.int .i64 0, .slice none 0 0, .slice none 0 0]) 56 := vG (by kernel_rfl) (by kernel_rfl) rfl (uW [VK]) (by decide) (by decide)
theorem VS.flatV_cells {es : List Vn} (h : VS w (some ad) n es) : ∀ j u, (flatV es)[j]? = some u → w.cell? (ad.add j) = some u :=
 jV (by decide) IH VK h.len fun i hi => by
  obtain ⟨b, o, hx, d0, d1, d2⟩ := h.cells i hi
  exact ⟨b, o, hx, by rintro (_ | _ | _ | q) u hu <;> first | (cases hu; assumption) | simp [cV] at hu⟩
theorem VS.rw {es : List Vn} (h : VS w x n es) : Rw w x n 3 (flatV es) :=
 ⟨by rw [jQ, h.len], fun h0 e => (by obtain ⟨b, o, hx, -⟩ := h.cells 0 h0; rw [e] at hx; cases hx), uW es, fun ad hx => by subst hx; exact h.flatV_cells⟩
theorem cB.mem {es : List Vn} (h : cB w base v es) : ∃ x c, v = .slice x es.length c ∧ es.length ≤ c ∧ c ≤ 9223372036854775807 ∧ (x = none → es.length = 0 ∧ c = 0) ∧ ∀ i, i < es.length → ∃ b o, x = some ⟨b, o, none⟩ ∧ w.cell? ⟨b, o + i * 3, none⟩ = some (.int .i64 (aC es i).id) ∧ w.cell? ⟨b, o + i * 3 + 1, none⟩ = some (.slice (aC es i).rx (aC es i).rn (aC es i).rc) ∧ w.cell? ⟨b, o + i * 3 + 2, none⟩ = some (.slice (aC es i).sx (aC es i).sn (aC es i).sc) := by
 obtain ⟨x, c, hv, h1, h2, h3, h4⟩ := mI h
 refine ⟨x, c, hv, h1, h2, h3, fun i hi => ?_⟩
 obtain ⟨b, o, hx, e⟩ := h4 i hi
 have e := fun j u hj hu => e j u hj ((zT es i j hi hj).trans hu)
 exact ⟨b, o, hx, e 0 _ (by decide) rfl, e 1 _ (by decide) rfl, e 2 _ (by decide) rfl⟩
def cK (e : (Int × Int)) : List Value := [.int .i64 e.1, .int .i64 e.2]
def flatK (es : List (Int × Int)) : List Value := es.flatMap cK
theorem II (e : (Int × Int)) : (cK e).length = 2 := rfl
theorem uX : ∀ es : List (Int × Int), (flatK es).length = es.length * 2 := mH II
theorem B3 (es fs : List (Int × Int)) : flatK (es ++ fs) = flatK es ++ flatK fs := by simp [flatK]
theorem O2 : ∀ (es : List (Int × Int)) (i j : Nat), i < es.length → j < 2 → (flatK es)[i * 2 + j]? = (cK (lkAt es i))[j]? := rZ II ((0 : Int), (0 : Int))
theorem pZ (es : List (Int × Int)) : ∀ u ∈ flatK es, u.oneCell' = true := fun u hu => by
 obtain ⟨e, -, hu⟩ := List.mem_flatMap.1 hu
 simp only [cK, List.mem_cons, List.not_mem_nil, or_false] at hu
 rcases hu with rfl | rfl <;> rfl
def bZ (w : World) (base : Nat) (v : Value) (es : List (Int × Int)) : Prop := w.ownsRow base 93 2 v es.length (flatK es)
theorem bZ.later (h : bZ w base v es) (hb : Below w.heap.size w w') : bZ w' base v es := jF h hb
theorem bZ.kept (h : bZ w base v es) (hg : w.grownBy w' (some g)) (hne : ∀ k, v.ownBlock = some k → k ≠ g) : bZ w' base v es := iL h hg hne
theorem bZ.low (h : bZ w base v es) (hb : base' ≤ base) : bZ w base' v es := jG h hb
theorem bZ.lt (h : bZ w base v es) : ∀ k, v.ownBlock = some k → base ≤ k ∧ k < w.heap.size := World.ownsRow.lt h
theorem bZ.ne {b : Nat} (h : bZ w base v es) (hb : w.heap[b]? = some (.cells cs t fr)) (ht : t ≠ 93) : v.ownBlock ≠ some b := nZ h hb ht
theorem UE : Ty 93 27 2 (.agg #[.int .i64 0, .int .i64 0]) 16 := vG (by kernel_rfl) (by kernel_rfl) rfl (pZ [((0 : Int), (0 : Int))]) (by decide) (by decide)
theorem PS.flatK_cells (h : PS w (some ad) n es) : ∀ j u, (flatK es)[j]? = some u → w.cell? (ad.add j) = some u :=
 jV (by decide) II ((0 : Int), (0 : Int)) h.len fun i hi => by
  obtain ⟨b, o, hx, d0, d1⟩ := h.cells i hi
  exact ⟨b, o, hx, by rintro (_ | _ | q) u hu <;> first | (cases hu; assumption) | simp [cK] at hu⟩
theorem PS.rwK (h : PS w x n es) : Rw w x n 2 (flatK es) :=
 ⟨by rw [uX, h.len], fun h0 e => (by obtain ⟨b, o, hx, -⟩ := h.cells 0 h0; rw [e] at hx; cases hx), pZ es, fun ad hx => by subst hx; exact h.flatK_cells⟩
theorem bZ.mem (h : bZ w base v es) : ∃ x c, v = .slice x es.length c ∧ es.length ≤ c ∧ c ≤ 9223372036854775807 ∧ (x = none → es.length = 0 ∧ c = 0) ∧ ∀ i, i < es.length → ∃ b o, x = some ⟨b, o, none⟩ ∧ w.cell? ⟨b, o + i * 2, none⟩ = some (.int .i64 (lkAt es i).1) ∧ w.cell? ⟨b, o + i * 2 + 1, none⟩ = some (.int .i64 (lkAt es i).2) := by
 obtain ⟨x, c, hv, h1, h2, h3, h4⟩ := mI h
 refine ⟨x, c, hv, h1, h2, h3, fun i hi => ?_⟩
 obtain ⟨b, o, hx, e⟩ := h4 i hi
 have e := fun j u hj hu => e j u hj ((O2 es i j hi hj).trans hu)
 exact ⟨b, o, hx, e 0 _ (by decide) rfl, e 1 _ (by decide) rfl⟩
theorem zU (x : Option Addr) (n c : Nat) (es : List Vn) (w : World) (hl : VS w x n es) (hn : n ≤ 1048576) :
  Calls Tryz.prog 79 #[.slice x n c] w fun e w' => ∃ v, e = .returned v ∧ cB w' w.heap.size v es ∧ Below w.heap.size w w' := by
 obtain rfl := hl.len
 exact oB.2.2.2.2.2.2.1 _ _ VX x _ c _ w hl.rw hn
theorem rP (x : Option Addr) (n c : Nat) (es : List (Int × Int)) (w : World) (hl : PS w x n es) (hn : n ≤ 1048576) :
  Calls Tryz.prog 80 #[.slice x n c] w fun e w' => ∃ v, e = .returned v ∧ bZ w' w.heap.size v es ∧ Below w.heap.size w w' := by
 obtain rfl := hl.len
 exact oB.2.2.2.2.2.2.2 _ _ UE x _ c _ w hl.rwK hn
def O3 (e : Vn) (n : Nat) (ps : List Vn) (w : World) (r : Ending) (w' : World) : Prop :=
 ∃ v, r = .returned v ∧ Below w.heap.size w w' ∧ ∃ i, i ≤ n ∧ (∀ j, j < i → ¬ e.id < (aC ps j).id) ∧ (i < n → e.id < (aC ps i).id) ∧ cB w' w.heap.size v (ps.take i ++ [e] ++ ps.drop i)
theorem O4 (e : Vn) (x : Option Addr) (n c : Nat) (ps : List Vn) (bf k : Nat) (w : World) (hp : VS w x n ps) (hn : n ≤ 32) (hnc : n ≤ c) (hc63 : c ≤ 9223372036854775807) (hx : (x = none ∧ c = 0) ∨ ∃ b o, x = some ⟨b, o, none⟩)
  (hby : w.cell? ⟨bf, 0, none⟩ = some (.func (.func 56) #[] #[])) :
  Calls Tryz.prog 136 #[.slice x n c, .agg #[.int .i64 e.id, .slice e.rx e.rn e.rc, .slice e.sx e.sn e.sc], .slice (some ⟨bf, 0, none⟩) 1 k] w (O3 e n ps w) := by
 have hB2 := cC w (.cells #[.int .i64 e.id, .slice e.rx e.rn e.rc, .slice e.sx e.sn e.sc] 41) (.cells #[.slice (some ⟨bf, 0, none⟩) 1 k] 174)
 refine (EM.2.2.2.2.2.2.1 _ _ VX e x n c bf 1 k (flatV ps) (fun i => decide (e.id < (aC ps i).id)) w hp.rw (uW [e]) hn hnc hc63 hx (iY _ _ x n c ps _ _ (hp.later hB2) (by omega) (fun i hi W hW => ?_) jB.2.2.2.2.2.2.1.2)).mono ?_
 ·obtain ⟨v, hv, hd⟩ := rA e.id (aC ps i).id
  exact (jB.2.2.2.2.2.2.1.1 e (aC ps i) v w.heap.size (w.heap.size + 1) bf 1 k W (fun i => (hW.cell (p := ⟨w.heap.size, i, none⟩) (by show w.heap.size < _; simp; omega)).trans (by simp)) (cell_later hW (by simp)) fun W9 h9 => vQ e _ v hv bf k W9 (cell_later h9 (cell_later hW (cell_later hB2 hby)))).mono fun _ _ h => ⟨h.1.trans (congrArg (fun t => Ending.returned (.bool t)) hd.symm), h.2⟩
 ·rintro r w1 ⟨v, rfl, hb, i, hi, hlow, hup, ho⟩
  exact ⟨v, rfl, hb, i, hi, fun j hj => of_decide_eq_false (hlow j hj), fun h => of_decide_eq_true (hup h), kW flatV jQ LQ hp.len hi ho⟩
end Go.Proofs.YtndpilfpejfloaaGreat
