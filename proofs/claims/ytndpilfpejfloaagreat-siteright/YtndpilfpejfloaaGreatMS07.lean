/- A part of the proof. -/
import Derived.Test.YtndpilfpejfloaaGreatMS06
set_option maxRecDepth 100000
set_option maxHeartbeats 3200000
namespace Go.Proofs.YtndpilfpejfloaaGreat
variable {n i k b base g base' o rn sn ln j cap c c' : Nat} {vs : List Vn} {ps ls : List (Int × Int)} {h0 h1 t' vid r : Int} {ids es ns : List Int} {x x' : Option Addr} {w w' W W1 V w0 w1 w2 : World} {P : Program} {v u vR vS : Value} {cs cur : Array Value} {t : TypeId} {fr : Nat × Nat} {ops : Array Oper} {rest : List Oper} {a : Act} {Q : Exit → Act → World → Prop} {ss ts : List Sb} {f : Nat → Bool} {ad : Addr} {fs gs : List Fc}
open Go.RowKit Go.Shelf
def aG (n : Nat) (vs : List Vn) (id : Int) : Int := match (List.range n).find? (fun i => (vnAt vs i).id == id) with | some i => i | none => -1
theorem mO {id : Int} (hi : i < n) (h : ((vnAt vs i).id == id) = true) (hno : ∀ j, j < i → ((vnAt vs j).id == id) = false) : aG n vs id = i := by
 unfold aG
 have : (List.range n).find? (fun i => (vnAt vs i).id == id) = some i := by
  rw [List.find?_range_eq_some]
  exact ⟨h, by simpa using hi, fun j hj => by simp [hno j hj]⟩
 rw [this]
theorem uG {id : Int} (hno : ∀ j, j < n → ((vnAt vs j).id == id) = false) : aG n vs id = -1 := by
 unfold aG
 have : (List.range n).find? (fun i => (vnAt vs i).id == id) = none := by
  rw [List.find?_eq_none]
  intro j hj
  simp [hno j (by simpa using hj)]
 rw [this]
theorem G9 (id : Int) (p : Vn) (b : Nat) (w : World) (h0 : w.cell? ⟨b, 0, none⟩ = some (.int .i64 id)) :
  Calls Tryz.prog 34 #[.agg #[.int .i64 p.id, .slice p.rx p.rn p.rc, .slice p.sx p.sn p.sc], .pointer (some ⟨b, 0, none⟩)] w fun e w' => e = .returned (.bool (p.id == id)) ∧ Below w.heap.size w w' := by
 have k0 : ∀ q, (w.alloc q).cell? ⟨b, 0, none⟩ = some (.int .i64 id) := fun q => cell_later (bl1 w q) h0
 go_enter Tryz.func34, Tryz.ntmps34
 go_wp2
 go_ret
 exact ⟨rfl, bl1 w _⟩
theorem EY (args : Array Value) (W : World) : (callFunc 34 args).run Tryz.prog W = .ok (.enter 34 args) W := by simp [go_sem]
theorem place_any (id : Int) (x : Option Addr) (n c : Nat) (vs : List Vn) (lx : Option Addr) (ln lc : Nat) (w : World) (hp : VS w x n vs) (hn : n ≤ 1048576) :
  Calls Tryz.prog 19 #[.agg #[.slice x n c, .slice lx ln lc], .int .i64 id] w fun e w' => e = .returned (.int .i64 (aG n vs id)) ∧ Below w.heap.size w w' := by
 go_enter Tryz.func19, Tryz.ntmps19
 go_wp2_with fail
 refine (fA 34 #[.pointer (some ⟨w.heap.size + 1, 0, none⟩)] x n c vs (fun i => (vnAt vs i).id == id) _ (hp.later (cB w _ _)) hn (fun i _ W hW => G9 id (vnAt vs i) (w.heap.size + 1) W (cell_later hW (by simp))) EY).mono ?_
 rintro e w1 ⟨⟨r, rfl, hr⟩, hb1⟩
 have hrv : r = aG n vs id := by
  rcases hr with ⟨i, hi, hf, hno, rfl⟩ | ⟨hno, rfl⟩
  ·exact (mO hi hf hno).symm
  ·exact (uG hno).symm
 subst hrv
 go_wp2
 go_ret
 exact ⟨rfl, (cB w _ _).trans (hb1.mono (by simp; omega))⟩
theorem sP (id : Int) (x : Option Addr) (n c : Nat) (vs : List Vn) (lx : Option Addr) (ln lc : Nat) (t : Int) (h : aG n vs id = t) (w : World) (hp : VS w x n vs) (hn : n ≤ 1048576) :
  Calls Tryz.prog 19 #[.agg #[.slice x n c, .slice lx ln lc], .int .i64 id] w fun e w' => e = .returned (.int .i64 t) ∧ Below w.heap.size w w' := by
 subst h
 exact place_any id x n c vs lx ln lc w hp hn
def kD (v : Vn) : Bool := !(aV v.id v.rn v.rs v.sn v.ss == 0)
theorem yG (p : Vn) (w : World) (hr : p.rn ≤ 9223372036854775807) (hs : p.sn ≤ 9223372036854775807) (hrc : p.rc ≤ 9223372036854775807) (hv : Vp w p.rx p.rn p.rc p.rs p.sx p.sn p.sc p.ss) :
  Calls Tryz.prog 58 #[.agg #[.int .i64 p.id, .slice p.rx p.rn p.rc, .slice p.sx p.sn p.sc]] w fun e w' => e = .returned (.bool (kD p)) ∧ Below w.heap.size w w' := by
 go_enter Tryz.func58, Tryz.ntmps58
 go_wp2_with (go_at_call 59; refine (checkV_any _ _ _ _ _ _ _ _ _ _ (hv.later (bl1 w _)) hr hs hrc).mono ?_; rintro e w1 ⟨rfl, hb1⟩)
 go_ret
 exact ⟨aH (by unfold kD; simp [bne]), (bl1 w _).trans (hb1.mono (by simp))⟩
theorem wD (args : Array Value) (W : World) : (callFunc 58 args).run Tryz.prog W = .ok (.enter 58 args) W := by simp [go_sem]
def eC (n : Nat) (vs : List Vn) : Bool := cQ vs && !aK n fun i => kD (vnAt vs i)
theorem AE (x : Option Addr) (n c : Nat) (vs : List Vn) (w : World) (hp : VS w x n vs) (hn : n ≤ 64) :
  Calls Tryz.prog 30 #[.slice x n c] w fun e w' => e = .returned (.bool (eC n vs)) ∧ Below w.heap.size w w' := by
 have hbd : Hid (eC n vs = (cQ vs && !aK n fun i => kD (vnAt vs i))) := rfl
 go_enter Tryz.func30, Tryz.ntmps30
 go_wp2_with fail
 refine (KD x n c vs w.heap.size 1 _ (hp.later (bl1 w _)) hn (by simp)).mono ?_
 rintro e w1 ⟨rfl, hb1⟩
 have hB := (bl1 w _).trans (hb1.mono (by simp))
 clear hb1
 cases hr : cQ vs
 ·go_wp2
  go_ret
  exact ⟨aH (by rw [hbd.out, hr]; rfl), hB⟩
 ·have hp1 := hp.later hB
  go_wp2_with fail
  refine (rH 58 #[] x n c vs _ _ hp1 (by omega) (fun i hi W hW => yG (vnAt vs i) W (hp1.vps i hi).1 (hp1.vps i hi).2.1 (hp1.vps i hi).2.2.1 ((hp1.vps i hi).2.2.2.later hW)) wD).mono ?_
  rintro e w2 ⟨rfl, hb2⟩
  go_wp2
  go_ret
  exact ⟨aH (by rw [hbd.out, hr]; simp), hB.trans (hb2.mono hB.size)⟩
theorem vpcsRight_is (x : Option Addr) (n c : Nat) (vs : List Vn) (t : Bool) (h : eC n vs = t) (w : World) (hp : VS w x n vs) (hn : n ≤ 64) :
  Calls Tryz.prog 30 #[.slice x n c] w fun e w' => e = .returned (.bool t) ∧ Below w.heap.size w w' := by
 subst h
 exact AE x n c vs w hp hn
def gI (rn : Nat) (rs : List Rg) (qn : Nat) (qs : List Rg) : Bool := aK rn fun i => aK qn fun j => gF (aL rs i).a (aL rs i).l (aL qs j).a (aL qs j).l
theorem HA (c m : Int) (p : Rg) (b : Nat) (w : World) (h0 : w.cell? ⟨b, 0, none⟩ = some (.int .i64 c)) (h1 : w.cell? ⟨b, 1, none⟩ = some (.int .i64 m)) :
  Calls Tryz.prog 118 #[.agg #[.int .i64 p.a, .int .i64 p.l, .int .i64 p.p], .pointer (some ⟨b, 0, none⟩)] w fun e w' => e = .returned (.bool (gF c m p.a p.l)) ∧ Below w.heap.size w w' := by
 have k0 : ∀ q, (w.alloc q).cell? ⟨b, 0, none⟩ = some (.int .i64 c) := fun q => cell_later (bl1 w q) h0
 have k1 : ∀ q, (w.alloc q).cell? ⟨b, 1, none⟩ = some (.int .i64 m) := fun q => cell_later (bl1 w q) h1
 go_enter Tryz.func118, Tryz.ntmps118
 go_wp2_with (go_at_call 15; refine (meets_any _ _ _ _ _).mono ?_; rintro e w1 ⟨rfl, hb1⟩)
 go_ret
 exact ⟨rfl, (bl1 w _).trans (hb1.mono (by simp))⟩
theorem EZ (args : Array Value) (W : World) : (callFunc 118 args).run Tryz.prog W = .ok (.enter 118 args) W := by simp [go_sem]
theorem KE (p : Rg) (qx : Option Addr) (qn qc : Nat) (qs : List Rg) (b : Nat) (w : World) (hq : RS w qx qn qs) (hqn : qn ≤ 64) (h1 : w.cell? ⟨b, 1, none⟩ = some (.slice qx qn qc)) :
  Calls Tryz.prog 117 #[.agg #[.int .i64 p.a, .int .i64 p.l, .int .i64 p.p], .pointer (some ⟨b, 0, none⟩)] w fun e w' => e = .returned (.bool (aK qn fun j => gF p.a p.l (aL qs j).a (aL qs j).l)) ∧ Below w.heap.size w w' := by
 have k1 : ∀ q, (w.alloc q).cell? ⟨b, 1, none⟩ = some (.slice qx qn qc) := fun q => cell_later (bl1 w q) h1
 go_enter Tryz.func117, Tryz.ntmps117
 go_wp2_with fail
 refine (dR 118 #[.pointer (some ⟨w.heap.size, 0, none⟩)] qx qn qc qs (fun j => gF p.a p.l (aL qs j).a (aL qs j).l) _ (hq.later (bl1 w _)) (by omega) (fun i _ W hW => HA p.a p.l (aL qs i) w.heap.size W (cell_later hW (by simp)) (cell_later hW (by simp))) EZ).mono ?_
 rintro e w1 ⟨rfl, hb1⟩
 go_wp2
 go_ret
 exact ⟨rfl, (bl1 w _).trans (hb1.mono (by simp))⟩
theorem HB (args : Array Value) (W : World) : (callFunc 117 args).run Tryz.prog W = .ok (.enter 117 args) W := by simp [go_sem]
theorem KF (p q : Vn) (w : World) (hp : RS w p.rx p.rn p.rs) (hq : RS w q.rx q.rn q.rs) (hpn : p.rn ≤ 64) (hqn : q.rn ≤ 64) :
  Calls Tryz.prog 65 #[.agg #[.int .i64 p.id, .slice p.rx p.rn p.rc, .slice p.sx p.sn p.sc], .agg #[.int .i64 q.id, .slice q.rx q.rn q.rc, .slice q.sx q.sn q.sc]] w fun e w' => e = .returned (.bool (gI p.rn p.rs q.rn q.rs)) ∧ Below w.heap.size w w' := by
 go_enter Tryz.func65, Tryz.ntmps65
 go_wp2_with fail
 refine (dR 117 #[.pointer (some ⟨w.heap.size + 1, 0, none⟩)] p.rx p.rn p.rc p.rs (fun i => aK q.rn fun j => gF (aL p.rs i).a (aL p.rs i).l (aL q.rs j).a (aL q.rs j).l) _ (hp.later (cB w _ _)) (by omega) (fun i _ W hW => KE (aL p.rs i) q.rx q.rn q.rc q.rs (w.heap.size + 1) W ((hq.later (cB w _ _)).later hW) hqn (cell_later hW (by simp))) HB).mono ?_
 rintro e w1 ⟨rfl, hb1⟩
 go_wp2
 go_ret
 exact ⟨rfl, (cB w _ _).trans (hb1.mono (by simp; omega))⟩
theorem N3 (p q : Vn) (t : Bool) (h : gI p.rn p.rs q.rn q.rs = t) (w : World) (hp : RS w p.rx p.rn p.rs) (hq : RS w q.rx q.rn q.rs) (hpn : p.rn ≤ 64) (hqn : q.rn ≤ 64) :
  Calls Tryz.prog 65 #[.agg #[.int .i64 p.id, .slice p.rx p.rn p.rc, .slice p.sx p.sn p.sc], .agg #[.int .i64 q.id, .slice q.rx q.rn q.rc, .slice q.sx q.sn q.sc]] w fun e w' => e = .returned (.bool t) ∧ Below w.heap.size w w' := by
 subst h
 exact KF p q w hp hq hpn hqn
theorem KG (a b : Int) (w : World) :
  Calls Tryz.prog 61 #[.agg #[.int .i64 a, .int .i64 b]] w fun e w' => e = .returned (.int .i64 a) ∧ Below w.heap.size w w' := by
 go_enter Tryz.func61, Tryz.ntmps61
 go_wp2
 go_ret
 exact ⟨rfl, bl1 _ _⟩
theorem KH (a b : Int) (w : World) :
  Calls Tryz.prog 62 #[.agg #[.int .i64 a, .int .i64 b]] w fun e w' => e = .returned (.int .i64 b) ∧ Below w.heap.size w w' := by
 go_enter Tryz.func62, Tryz.ntmps62
 go_wp2
 go_ret
 exact ⟨rfl, bl1 _ _⟩
theorem HC (args : Array Value) (W : World) : (callFunc 61 args).run Tryz.prog W = .ok (.enter 61 args) W := by simp [go_sem]
theorem HD (args : Array Value) (W : World) : (callFunc 62 args).run Tryz.prog W = .ok (.enter 62 args) W := by simp [go_sem]
def QV (a l c m v : Int) : Prop := (a < c ∧ v = -1) ∨ (a = c ∧ zM l m v) ∨ (c < a ∧ v = 1)
theorem vJ (a l c m v : Int) (hv : QV a l c m v) (bb k : Nat) (w : World) (hby : w.cell? ⟨bb, 0, none⟩ = some (.func (.func 61) #[] #[])) (hby2 : w.cell? ⟨bb, 1, none⟩ = some (.func (.func 62) #[] #[])) :
  Calls Tryz.prog 114 #[.agg #[.int .i64 a, .int .i64 l], .agg #[.int .i64 c, .int .i64 m], .slice (some ⟨bb, 0, none⟩) 2 k] w fun e w' => e = .returned (.int .i64 v) ∧ Below w.heap.size w w' := by
 have hcall := HC
 have hcall2 := HD
 go_enter Tryz.func114, Tryz.ntmps114
 go_wp2
 go_loopw [12] (fun i wr => ∃ j : Nat, (j = 0 ∨ (j = 1 ∧ a = c ∧ zM l m v) ∨ (j = 2 ∧ v = 0)) ∧ i = .int .i64 j ∧ Below (w.heap.size + 1 + 1) ((w.alloc (.cells #[.int .i64 a, .int .i64 l] 93)).alloc (.cells #[.int .i64 c, .int .i64 m] 93)) wr) (fun i _ => 2 - (intOf i).toNat)
 case atStart => exact ⟨0, .inl rfl, rfl, Below.refl _ _⟩
 case round =>
  obtain ⟨j, hj, rfl, hB⟩ := hrel
  rcases hj with rfl | ⟨rfl, hac, hv2⟩ | ⟨rfl, hv0⟩
  ·obtain ⟨v1, hw⟩ : ∃ v1, zM a c v1 := by
    rcases Int.lt_trichotomy a c with h | h | h
    ·exact ⟨-1, .inl ⟨h, rfl⟩⟩
    ·exact ⟨0, .inr (.inl ⟨h, rfl⟩)⟩
    ·exact ⟨1, .inr (.inr ⟨h, rfl⟩)⟩
   have hz := hB.size
   simp only [World.size_alloc] at hz
   have hbl : bb < w.heap.size := block_lt_of_cell hby
   have e0 : wr.cell? ⟨w.heap.size, 0, none⟩ = some (.int .i64 a) := (hB.cell (p := ⟨w.heap.size, 0, none⟩) (by show w.heap.size < _; omega)).trans (by simp)
   have e1 : wr.cell? ⟨w.heap.size, 1, none⟩ = some (.int .i64 l) := (hB.cell (p := ⟨w.heap.size, 1, none⟩) (by show w.heap.size < _; omega)).trans (by simp)
   have e2 : wr.cell? ⟨w.heap.size + 1, 0, none⟩ = some (.int .i64 c) := (hB.cell (p := ⟨w.heap.size + 1, 0, none⟩) (by show w.heap.size + 1 < _; omega)).trans (by simp)
   have e3 : wr.cell? ⟨w.heap.size + 1, 1, none⟩ = some (.int .i64 m) := (hB.cell (p := ⟨w.heap.size + 1, 1, none⟩) (by show w.heap.size + 1 < _; omega)).trans (by simp)
   have e4 : wr.cell? ⟨bb, 0, none⟩ = some (.func (.func 61) #[] #[]) := (hB.cell (p := ⟨bb, 0, none⟩) (by show bb < _; omega)).trans (cell_later (cB w _ _) hby)
   have e5 : wr.cell? ⟨bb, 1, none⟩ = some (.func (.func 62) #[] #[]) := (hB.cell (p := ⟨bb, 1, none⟩) (by show bb < _; omega)).trans (cell_later (cB w _ _) hby2)
   have g0 := Ws.here e0
   have g1 := Ws.here e1
   have g2 := Ws.here e2
   have g3 := Ws.here e3
   go_upto_region 4 with fail
   clear e0 e1 e2 e3 e4 e5
   refine aI wr.heap.size (by kernel_rfl) (by kernel_rfl) ?_
   repeat (go_big_quiet_step (first | (go_at_call 61; exact Calls.in_ws (Nat.le_refl _) (KG _ _ _)) | (go_at_call 159; exact Calls.in_ws_same (xC _ _ _ hw _))))
   refine wpQuiet_nil ?_
   rintro _ ⟨u, rfl⟩
   have hu := hB.trans (u.property.mono hz)
   generalize u.val = wu at hu ⊢
   clear u g0 g1 g2 g3
   have hv' : Hid (QV a l c m v) := hv
   clear hv
   rcases hw with ⟨h, rfl⟩ | ⟨h, rfl⟩ | ⟨h, rfl⟩
   ·obtain rfl : v = -1 := by
     rcases hv'.out with ⟨_, h2⟩ | ⟨h2, _⟩ | ⟨h2, _⟩
     ·exact h2
     ·omega
     ·omega
    go_wp2
    go_ret
    exact ⟨rfl, (cB w _ _).trans (hu.mono (by omega))⟩
   ·have h3 : zM l m v := by
     rcases hv'.out with ⟨h2, _⟩ | ⟨_, h2⟩ | ⟨h2, _⟩
     ·omega
     ·exact h2
     ·omega
    go_wp2
    go_roundw
    case rel => exact ⟨1, .inr (.inl ⟨rfl, h, h3⟩), by go_num, hu⟩
    case measure => simp [intOf]
   ·obtain rfl : v = 1 := by
     rcases hv'.out with ⟨h2, _⟩ | ⟨h2, _⟩ | ⟨_, h2⟩
     ·omega
     ·omega
     ·exact h2
    go_wp2
    go_ret
    exact ⟨rfl, (cB w _ _).trans (hu.mono (by omega))⟩
  ·have hw := hv2
   clear hv
   have hz := hB.size
   simp only [World.size_alloc] at hz
   have hbl : bb < w.heap.size := block_lt_of_cell hby
   have e0 : wr.cell? ⟨w.heap.size, 0, none⟩ = some (.int .i64 a) := (hB.cell (p := ⟨w.heap.size, 0, none⟩) (by show w.heap.size < _; omega)).trans (by simp)
   have e1 : wr.cell? ⟨w.heap.size, 1, none⟩ = some (.int .i64 l) := (hB.cell (p := ⟨w.heap.size, 1, none⟩) (by show w.heap.size < _; omega)).trans (by simp)
   have e2 : wr.cell? ⟨w.heap.size + 1, 0, none⟩ = some (.int .i64 c) := (hB.cell (p := ⟨w.heap.size + 1, 0, none⟩) (by show w.heap.size + 1 < _; omega)).trans (by simp)
   have e3 : wr.cell? ⟨w.heap.size + 1, 1, none⟩ = some (.int .i64 m) := (hB.cell (p := ⟨w.heap.size + 1, 1, none⟩) (by show w.heap.size + 1 < _; omega)).trans (by simp)
   have e4 : wr.cell? ⟨bb, 0, none⟩ = some (.func (.func 61) #[] #[]) := (hB.cell (p := ⟨bb, 0, none⟩) (by show bb < _; omega)).trans (cell_later (cB w _ _) hby)
   have e5 : wr.cell? ⟨bb, 1, none⟩ = some (.func (.func 62) #[] #[]) := (hB.cell (p := ⟨bb, 1, none⟩) (by show bb < _; omega)).trans (cell_later (cB w _ _) hby2)
   have g0 := Ws.here e0
   have g1 := Ws.here e1
   have g2 := Ws.here e2
   have g3 := Ws.here e3
   go_upto_region 4 with fail
   clear e0 e1 e2 e3 e4 e5
   refine aI wr.heap.size (by kernel_rfl) (by kernel_rfl) ?_
   repeat (go_big_quiet_step (first | (go_at_call 62; exact Calls.in_ws (Nat.le_refl _) (KH _ _ _)) | (go_at_call 159; exact Calls.in_ws_same (xC _ _ _ hw _))))
   refine wpQuiet_nil ?_
   rintro _ ⟨u, rfl⟩
   have hu := hB.trans (u.property.mono hz)
   generalize u.val = wu at hu ⊢
   clear u g0 g1 g2 g3
   clear hv2
   rcases hw with ⟨h, rfl⟩ | ⟨h, rfl⟩ | ⟨h, rfl⟩
   ·go_wp2
    go_ret
    exact ⟨rfl, (cB w _ _).trans (hu.mono (by omega))⟩
   ·go_wp2
    go_roundw
    case rel => exact ⟨2, .inr (.inr ⟨rfl, by first | rfl | trivial⟩), by go_num, hu⟩
    case measure => simp [intOf]
   ·go_wp2
    go_ret
    exact ⟨rfl, (cB w _ _).trans (hu.mono (by omega))⟩
  ·subst hv0
   go_wp2
   go_ret
   exact ⟨rfl, (cB w _ _).trans (hB.mono (by omega))⟩
def jL (ps : List (Int × Int)) (i : Nat) : Bool := i == 0 || decide (dA ps (i - 1) < dA ps i ∨ (dA ps (i - 1) = dA ps i ∧ eA ps (i - 1) < eA ps i))
def fF (ps : List (Int × Int)) : Bool := (List.range ps.length).all (jL ps)
theorem N4 (hk : k < ps.length) (h : jL ps k = false) : fF ps = false := by
 unfold fF
 rw [List.all_eq_false]
 exact ⟨k, by simpa using hk, by simp [h]⟩
theorem uH (h : ∀ j, j < ps.length → jL ps j = true) : fF ps = true := by
 unfold fF
 rw [List.all_eq_true]
 intro j hj
 exact h j (by simpa using hj)
theorem KI (x : Option Addr) (n c : Nat) (ps : List (Int × Int)) (bb k : Nat) (w : World) (hp : PS w x n ps) (hn : n ≤ 64) (hby : w.cell? ⟨bb, 0, none⟩ = some (.func (.func 61) #[] #[])) (hby2 : w.cell? ⟨bb, 1, none⟩ = some (.func (.func 62) #[] #[])) :
  Calls Tryz.prog 60 #[.slice x n c, .slice (some ⟨bb, 0, none⟩) 2 k] w fun e w' => e = .returned (.bool (fF ps)) ∧ Below w.heap.size w w' := by
 go_enter Tryz.func60, Tryz.ntmps60
 go_wp2
 go_loopw [5] (fun i wr => ∃ j : Nat, 1 ≤ j ∧ j ≤ n + 1 ∧ i = .int .i64 j ∧ Below w.heap.size w wr ∧ (∀ i, i < j → i < n → jL ps i = true)) (fun i _ => n + 1 - (intOf i).toNat)
 case atStart => exact ⟨1, by omega, by omega, rfl, Below.refl _ _, fun i hi _ => by
  obtain rfl : i = 0 := by omega
  rfl⟩
 case round =>
  obtain ⟨j, hj1, hjn, rfl, hB, hok⟩ := hrel
  have hz := hB.size
  have hpl := hp.len
  by_cases hlt : j < n
  ·obtain ⟨i, rfl⟩ : ∃ i, j = i + 1 := ⟨j - 1, by omega⟩
   have hp2 := hp.later hB
   obtain ⟨b, o, rfl, c0, c1⟩ := hp2.cells i (by omega)
   obtain ⟨b2, o2, hbo, c2, c3⟩ := hp2.cells (i + 1) (by omega)
   simp only [Option.some.injEq, Addr.mk.injEq, and_true] at hbo
   obtain ⟨rfl, rfl⟩ := hbo
   have hby' := cell_later hB hby
   have hby2' := cell_later hB hby2
   have hlt' := hlt
   have g0 := Ws.here c0
   have g1 := Ws.here c1
   have g2 := Ws.here c2
   have g3 := Ws.here c3
   have g4 := Ws.here hby'
   have g5 := Ws.here hby2'
   have hv : ∃ v, QV (dA ps i) (eA ps i) (dA ps (i + 1)) (eA ps (i + 1)) v ∧ (decide (dA ps i < dA ps (i + 1) ∨ (dA ps i = dA ps (i + 1) ∧ eA ps i < eA ps (i + 1))) = !(decide (0 ≤ v))) := by
    rcases Int.lt_trichotomy (dA ps i) (dA ps (i + 1)) with h | h | h
    ·exact ⟨-1, .inl ⟨h, rfl⟩, by simp [h]⟩
    ·rcases Int.lt_trichotomy (eA ps i) (eA ps (i + 1)) with h2 | h2 | h2
     ·exact ⟨-1, .inr (.inl ⟨h, .inl ⟨h2, rfl⟩⟩), by simp [h, h2]⟩
     ·exact ⟨0, .inr (.inl ⟨h, .inr (.inl ⟨h2, rfl⟩)⟩), by simp [h, h2]⟩
     ·exact ⟨1, .inr (.inl ⟨h, .inr (.inr ⟨h2, rfl⟩)⟩), by simp [h]; omega⟩
    ·exact ⟨1, .inr (.inr ⟨h, rfl⟩), by simp; omega⟩
   obtain ⟨v, hv, hd⟩ := hv
   go_upto_region 4 with fail
   clear c0 c1 c2 c3
   refine aI wr.heap.size (by kernel_rfl) (by kernel_rfl) ?_
   cases hg : decide (0 ≤ v)
   all_goals rw [hg] at hd
   all_goals have hge : decide (v ≥ 0) = _ := hg
   all_goals repeat (go_big_quiet_step ((go_at_call 114; exact Calls.in_ws (Nat.le_refl _) (vJ _ _ _ _ _ hv _ _ _ (g4 _) (g5 _)))))
   all_goals refine wpQuiet_nil ?_
   all_goals rintro _ ⟨u, rfl⟩
   all_goals have hu := hB.trans (u.property.mono hz)
   all_goals generalize u.val = wu at hu ⊢
   all_goals clear u g0 g1 g2 g3 g4 g5
   all_goals go_wp2
   ·go_roundw
    case rel => exact ⟨i + 1 + 1, by omega, by omega, by go_num, hu, fun q hq hqn => by
     by_cases hq2 : q < i + 1
     ·exact hok q hq2 hqn
     ·obtain rfl : q = i + 1 := by omega
      simp only [jL, Nat.add_sub_cancel, hd]
      simp⟩
    case measure => simp [intOf]; omega
   ·go_ret
    exact ⟨aH (N4 (k := i + 1) (by omega) (by simp only [jL, Nat.add_sub_cancel, hd]; simp)).symm, hu⟩
  ·go_wp2
   go_ret
   exact ⟨aH (uH (fun i hi => hok i (by omega) (by omega))).symm, hB⟩
def mP (vn : Nat) (vs : List Vn) (ls : List (Int × Int)) (i : Nat) : Bool := decide (eA ls i ≤ dA ls i) || decide (aG vn vs (dA ls i) < 0) || decide (aG vn vs (eA ls i) < 0)
theorem wE (a b : Int) (bb : Nat) (x : Option Addr) (n c : Nat) (vs : List Vn) (lx : Option Addr) (ln lc : Nat) (w : World) (hp : VS w x n vs) (hn : n ≤ 64) (h0 : w.cell? ⟨bb, 0, none⟩ = some (.slice x n c)) (h1 : w.cell? ⟨bb, 1, none⟩ = some (.slice lx ln lc)) :
  Calls Tryz.prog 64 #[.agg #[.int .i64 a, .int .i64 b], .pointer (some ⟨bb, 0, none⟩)] w fun e w' => e = .returned (.bool (decide (b ≤ a) || decide (aG n vs a < 0) || decide (aG n vs b < 0))) ∧ Below w.heap.size w w' := by
 go_enter Tryz.func64, Tryz.ntmps64
 go_upto_region 1 with fail
 obtain ⟨w2, hw2⟩ : ∃ w2, w2 = w.alloc (.cells #[.int .i64 a, .int .i64 b] 93) := ⟨_, rfl⟩
 rw [← hw2]
 have h02 : Below w.heap.size w w2 := by rw [hw2]; exact bl1 w _
 have hbox : w2.heap[w.heap.size]? = some (.cells #[.int .i64 a, .int .i64 b] 93) := by rw [hw2]; exact aC _ rfl
 clear hw2
 obtain ⟨hcl, -⟩ := aA hbox
 have q0 : w2.cell? ⟨w.heap.size, 0, none⟩ = some (.int .i64 a) := hcl 0
 have q1 : w2.cell? ⟨w.heap.size, 1, none⟩ = some (.int .i64 b) := hcl 1
 have q2 := cell_later h02 h0
 have q3 := cell_later h02 h1
 clear hcl hbox
 have hp2 := hp.later h02
 have hsz : Hid (w.heap.size ≤ w2.heap.size) := h02.size
 by_cases hab : b ≤ a
 ·have hge : decide (a ≥ b) = true := by simpa using hab
  go_wp2
  go_ret
  exact ⟨aH (by simp [hab]), h02⟩
 ·have hge : decide (a ≥ b) = false := by simpa using hab
  go_wp2_with fail
  refine (place_any a x n c vs lx ln lc _ hp2 (by omega)).mono ?_
  rintro e w3 ⟨rfl, hb3⟩
  have r0 := cell_later hb3 q0
  have r1 := cell_later hb3 q1
  have r2 := cell_later hb3 q2
  have r3 := cell_later hb3 q3
  clear q0 q1 q2 q3
  have h03 : Below w.heap.size w w3 := h02.trans (hb3.mono hsz.out)
  by_cases hpa : aG n vs a < 0
  ·have hd : decide (aG n vs a < 0) = true := by simpa using hpa
   go_wp2
   go_ret
   exact ⟨aH (by simp [hpa]), h03⟩
  ·have hd : decide (aG n vs a < 0) = false := by simpa using hpa
   go_wp2_with (go_at_call 19; refine (place_any b x n c vs lx ln lc _ (hp2.later hb3) (by omega)).mono ?_; rintro e w4 ⟨rfl, hb4⟩)
   go_ret
   exact ⟨aH (by rw [show decide (b ≤ a) = false from hge, hd]; rfl), h03.trans (hb4.mono (Nat.le_trans hsz.out hb3.size))⟩
theorem uI (args : Array Value) (W : World) : (callFunc 64 args).run Tryz.prog W = .ok (.enter 64 args) W := by simp [go_sem]
def cU (vn : Nat) (vs : List Vn) (ln : Nat) (ls : List (Int × Int)) : Bool := fF ls && !aK ln (mP vn vs ls)
theorem yH (x : Option Addr) (n c : Nat) (vs : List Vn) (lx : Option Addr) (ln lc : Nat) (ls : List (Int × Int)) (w : World) (hp : VS w x n vs) (hn : n ≤ 64) (hl : PS w lx ln ls) (hln : ln ≤ 64) :
  Calls Tryz.prog 31 #[.agg #[.slice x n c, .slice lx ln lc]] w fun e w' => e = .returned (.bool (cU n vs ln ls)) ∧ Below w.heap.size w w' := by
 have hbd : Hid (cU n vs ln ls = (fF ls && !aK ln (mP n vs ls))) := rfl
 go_enter Tryz.func31, Tryz.ntmps31
 go_wp2_with fail
 refine (KI lx ln lc ls (w.heap.size + 1) 2 _ (hl.later (cB w _ _)) hln (by simp) (by simp)).mono ?_
 rintro e w1 ⟨rfl, hb1⟩
 have hB := (cB w _ _).trans (hb1.mono (by simp; omega))
 have q0 : w1.cell? ⟨w.heap.size, 0, none⟩ = some (.slice x n c) := cell_later hb1 (by simp)
 have q1 : w1.cell? ⟨w.heap.size, 1, none⟩ = some (.slice lx ln lc) := cell_later hb1 (by simp)
 clear hb1
 cases hr : fF ls
 ·go_wp2
  go_ret
  exact ⟨aH (by rw [hbd.out, hr]; rfl), hB⟩
 ·have hp1 := hp.later hB
  have hl1 := hl.later hB
  go_wp2_with fail
  refine (rI 64 #[.pointer (some ⟨w.heap.size, 0, none⟩)] lx ln lc ls (mP n vs ls) _ hl1 (by omega) (fun i hi W hW => wE (dA ls i) (eA ls i) w.heap.size x n c vs lx ln lc W (hp1.later hW) hn (cell_later hW q0) (cell_later hW q1)) uI).mono ?_
  rintro e w2 ⟨rfl, hb2⟩
  go_wp2
  go_ret
  exact ⟨aH (by rw [hbd.out, hr]; simp), hB.trans (hb2.mono hB.size)⟩
theorem linksRight_is (x : Option Addr) (n c : Nat) (vs : List Vn) (lx : Option Addr) (ln lc : Nat) (ls : List (Int × Int)) (t : Bool) (h : cU n vs ln ls = t) (w : World) (hp : VS w x n vs) (hn : n ≤ 64) (hl : PS w lx ln ls) (hln : ln ≤ 64) :
  Calls Tryz.prog 31 #[.agg #[.slice x n c, .slice lx ln lc]] w fun e w' => e = .returned (.bool t) ∧ Below w.heap.size w w' := by
 subst h
 exact yH x n c vs lx ln lc ls w hp hn hl hln
open Go.RowKit
open Go.RowKit Go.Shelf Go.Maps
theorem fY : Tryz.prog.underlying 73 = some (.map 3 3) := by kernel_rfl
structure GM (D : DataW Unit) (g : Int → Int) : Prop where
 isMap : IsMap D
 at_ : ∀ a : Int, D.atKey (.int .i64 a) (.lit (.int .i64 0)) = .lit (.int .i64 (g a))
theorem GM.empty : GM (.map []) (fun _ => 0) := ⟨isMap_empty, fun _ => rfl⟩
theorem GM.put {D : DataW Unit} {g : Int → Int} (h : GM D g) (a b : Int) : GM (D.put (.int .i64 a) (.lit (.int .i64 b))) (fun y => if y = a then b else g y) where
 isMap := h.isMap.put _ _
 at_ := fun y => by
  by_cases e : y = a
  ·subst e
   rw [atKey_put_same h.isMap (by trivial), if_pos rfl]
  ·rw [atKey_put_other (by intro e2; exact e (by cases e2; rfl)), h.at_ y, if_neg e]
def kE (g : Int → Int) : Nat → Int → Int → Prop
 | 0, x, h => g x = x ∧ h = x
 | n + 1, x, h => g x ≠ x ∧ kE g n (g x) h
def UR (g : Int → Int) : Nat → Int → Nat
 | 0, _ => 0
 | n + 1, x => if g x = x then 0 else UR g n (g x) + 1
theorem kE.dep_is {g : Int → Int} : ∀ {N n : Nat} {x h : Int}, kE g n x h → n ≤ N → UR g N x = n
 | 0, n, x, h, _, hn => by simp [UR]; omega
 | N + 1, 0, x, h, hl, _ => by simp [UR, hl.1]
 | N + 1, n + 1, x, h, hl, hn => by
  simp only [UR, if_neg hl.1]
  rw [kE.dep_is hl.2 (by omega)]
theorem kE.root {g : Int → Int} : ∀ {n : Nat} {x h : Int}, kE g n x h → g h = h
 | 0, x, h, hl => by rw [hl.2]; exact hl.1
 | n + 1, x, h, hl => kE.root hl.2
theorem kE.upd {g : Int → Int} (r0 : g h0 = h0) (r1 : g h1 = h1) (hne : h0 ≠ h1) : ∀ {n : Nat} {x h : Int}, kE g n x h → ∃ m, m ≤ n + 1 ∧ kE (fun y => if y = h0 then h1 else g y) m x (if h = h0 then h1 else h)
 | 0, x, h, hl => by
  obtain ⟨hx, rfl⟩ := hl
  by_cases e : h = h0
  ·subst e
   refine ⟨1, by omega, ?_⟩
   simp only [if_true]
   refine ⟨by simp only [if_true]; exact Ne.symm hne, ?_⟩
   simp only [if_true]
   exact ⟨by simp only [if_neg (Ne.symm hne)]; exact r1, rfl⟩
  ·refine ⟨0, by omega, ?_⟩
   simp only [if_neg e]
   exact ⟨by simp only [if_neg e]; exact hx, rfl⟩
 | n + 1, x, h, hl => by
  obtain ⟨hx, hl⟩ := hl
  have e : x ≠ h0 := fun e => hx (by rw [e, r0])
  obtain ⟨m, hm, h2⟩ := kE.upd r0 r1 hne hl
  refine ⟨m + 1, by omega, ?_, ?_⟩
  ·simp only [if_neg e]; exact hx
  ·simp only [if_neg e]; exact h2
theorem sQ (bm m : Nat) (D : DataW Unit) (g : Int → Int) (n : Nat) (x h : Int) (w : World) (hO : w.ownsMap Tryz.prog 3 (plainElem Tryz.prog 3) bm m D) (hG : GM D g) (hx : (Lit.int .i64 x).wf = true) (hL : kE g n x h) :
  Calls Tryz.prog 21 #[.map (some bm), .int .i64 x] w fun e w' => e = .returned (.int .i64 h) ∧ w' = w := by
 have hG' : Hid (GM D g) := hG
 clear hG
 go_enter Tryz.func21, Tryz.ntmps21
 go_wp2
 go_loopw [1] (fun i wr => ∃ (y : Int) (k : Nat), k ≤ n ∧ i = .int .i64 y ∧ (Lit.int .i64 y).wf = true ∧ kE g k y h ∧ wr = w) (fun i _ => UR g n (intOf i))
 case atStart => exact ⟨x, n, Nat.le_refl _, rfl, hx, hL, rfl⟩
 case round =>
  obtain ⟨y, k, hk, rfl, hy, hLy, rfl⟩ := hrel
  have hkey : keyOf Tryz.prog 3 (.int .i64 y) = some (.int .i64 y) := keyOf_int_mk under_int hy
  have hat := hG'.out.at_ y
  have hLy' : Hid (kE g k y h) := hLy
  rcases k with _ | k
  ·obtain ⟨hr, rfl⟩ := hLy
   have hne : (g h != h) = false := by simp [hr]
   go_wp2_with (first
    | (at_lookup; refine wpList_lookup_own_int _ rfl _ _ 73 rfl 3 3 .i64 key_law fY under_int (zero_int _) bm _ _ rfl hO _ _ rfl hkey ?_; intro cc hat2 hwc; obtain rfl : cc = g h := (by rw [hat] at hat2; cases hat2; rfl))
    | go_in)
   go_ret
   exact ⟨rfl, rfl⟩
  ·obtain ⟨hr, hl2⟩ := hLy
   have hne : (g y != y) = true := by simpa using hr
   have hwg : (Lit.int .i64 (g y)).wf = true := by
    obtain ⟨c, _, h2, h3⟩ := hO.lookup_int key_law fY under_int (zero_int _) hkey
    rw [hat] at h2
    cases h2
    exact h3
   go_wp2_with (first
    | (at_lookup; refine wpList_lookup_own_int _ rfl _ _ 73 rfl 3 3 .i64 key_law fY under_int (zero_int _) bm _ _ rfl hO _ _ rfl hkey ?_; intro cc hat2 hwc; obtain rfl : cc = g y := (by rw [hat] at hat2; cases hat2; rfl); clear hat2 hwc)
    | go_in)
   go_roundw
   case rel => exact ⟨g y, k, by omega, rfl, hwg, hl2, by first | rfl | trivial⟩
   case measure =>
    simp only [intOf]
    rw [hl2.dep_is (by omega), hLy'.out.dep_is hk]
    omega
def bO (ls : List (Int × Int)) : Int → Int := ls.foldl (fun hd l x => if hd x = hd l.1 then hd l.2 else hd x) id
theorem lV (ls : List (Int × Int)) (l : Int × Int) (x : Int) : bO (ls ++ [l]) x = if bO ls x = bO ls l.1 then bO ls l.2 else bO ls x := by
 unfold bO
 rw [List.foldl_append]
 rfl
theorem yI (h : k < ls.length) : (dA ls k, eA ls k) = ls[k] := by simp [dA, eA, List.getD_eq_getElem?_getD, h]
theorem KJ (h : k < ls.length) (x : Int) : bO (ls.take (k + 1)) x = if bO (ls.take k) x = bO (ls.take k) (dA ls k) then bO (ls.take k) (eA ls k) else bO (ls.take k) x := by
 rw [List.take_add_one, List.getElem?_eq_getElem h, ← yI h, Option.toList_some, lV]
structure US (ids : List Int) (hd : Int → Int) (g : Int → Int) : Prop where
 lead : ∀ i ∈ ids, ∃ n, kE g n i (hd i)
 mem : ∀ i ∈ ids, hd i ∈ ids
theorem US.link {hd g : Int → Int} (h : US ids hd g) {a b : Int} (ha : a ∈ ids) (hb : b ∈ ids) : US ids (fun x => if hd x = hd a then hd b else hd x) (fun y => if y = hd a then hd b else g y) where
 lead := fun i hi => by
  obtain ⟨n, hn⟩ := h.lead i hi
  obtain ⟨na, hna⟩ := h.lead a ha
  obtain ⟨nb, hnb⟩ := h.lead b hb
  by_cases e : hd a = hd b
  ·have e1 : (fun y => if y = hd a then hd b else g y) = g := by
    funext y
    by_cases e2 : y = hd a
    ·rw [if_pos e2, e2, ← e, hna.root]
    ·rw [if_neg e2]
   refine ⟨n, ?_⟩
   rw [e1]
   by_cases e2 : hd i = hd a
   ·rw [if_pos e2, ← e, ← e2]; exact hn
   ·rw [if_neg e2]; exact hn
  ·obtain ⟨m, -, h2⟩ := hn.upd hna.root hnb.root e
   exact ⟨m, h2⟩
 mem := fun i hi => by
  by_cases e : hd i = hd a
  ·simp only [if_pos e]; exact h.mem b hb
  ·simp only [if_neg e]; exact h.mem i hi
def bF (vs : List Vn) : List Int := vs.map (·.id)
theorem eT (h : i < vs.length) : vnAt vs i = vs[i] := by simp [vnAt, List.getD_eq_getElem?_getD, h]
theorem sR (h : i < vs.length) : (vnAt vs i).id ∈ bF vs := by
 rw [eT h]
 exact List.mem_map_of_mem (List.getElem_mem h)
theorem sS {x : Int} (h : x ∈ bF vs) : ∃ i, i < vs.length ∧ (vnAt vs i).id = x := by
 obtain ⟨v, hv, rfl⟩ := List.mem_map.1 h
 obtain ⟨i, hi, rfl⟩ := List.getElem_of_mem hv
 exact ⟨i, hi, by rw [eT hi]⟩
theorem gX {k : TypeId} {R : Value → Option (DataW Unit × List MemPlace)} {D : DataW Unit} (h : w.ownsMap P k R b n D) (hb : Below w.heap.size w w') : w'.ownsMap P k R b n D := by
 obtain ⟨es, clock, h0, h1⟩ := h
 exact ⟨es, clock, aB hb h0, h1⟩
abbrev nH (x : Option Addr) (n c : Nat) (lx : Option Addr) (ln lc : Nat) : Obj := .cells #[.slice x n c, .slice lx ln lc] 29
theorem sT (x : Option Addr) (n c : Nat) (vs : List Vn) (lx : Option Addr) (ln lc : Nat) (ls : List (Int × Int)) (w : World) (hp : VS w x n vs) (hn : n ≤ 64) (hl : PS w lx ln ls) (hln : ln ≤ 64)
  (hid : ∀ i, i < n → 0 ≤ (vnAt vs i).id ∧ (vnAt vs i).id ≤ 1000000) (hlk : ∀ j, j < ln → dA ls j ∈ bF vs ∧ eA ls j ∈ bF vs) :
  Calls Tryz.prog 20 #[.agg #[.slice x n c, .slice lx ln lc]] w fun e w' => ∃ bm m D g, e = .returned (.map (some bm)) ∧ w.heap.size ≤ bm ∧ w'.ownsMap Tryz.prog 3 (plainElem Tryz.prog 3) bm m D ∧ GM D g ∧ US (bF vs) (bO ls) g ∧ Below w.heap.size w w' := by
 have hmm := @run_makeMap Tryz.prog
 have hvl : Hid (vs.length = n) := hp.len
 have hll : Hid (ls.length = ln) := hl.len
 go_enter Tryz.func20, Tryz.ntmps20
 go_upto_region 1 with fail
 obtain ⟨w2, hw2⟩ : ∃ w2, w2 = w.alloc (nH x n c lx ln lc) := ⟨_, rfl⟩
 rw [← hw2]
 have h02 : Below w.heap.size w w2 := by rw [hw2]; exact bl1 w _
 have hbox : w2.heap[w.heap.size]? = some (nH x n c lx ln lc) := by rw [hw2]; exact aC _ rfl
 clear hw2
 have hp2 := hp.later h02
 have hl2 := hl.later h02
 obtain ⟨hcl, -⟩ := aA hbox
 have q0 : w2.cell? ⟨w.heap.size, 0, none⟩ = some (.slice x n c) := hcl 0
 have q1 : w2.cell? ⟨w.heap.size, 1, none⟩ = some (.slice lx ln lc) := hcl 1
 clear hcl hbox
 have hsz : Hid (w.heap.size ≤ w2.heap.size) := h02.size
 have a0 : (w2.alloc (.map #[] 0)).cell? ⟨w.heap.size, 0, none⟩ = some (.slice x n c) := cell_later (bl1 w2 _) q0
 generalize hbk : w.heap.size = bk at *
 go_wp2
 go_loopw [12] (fun i wr => ∃ (k : Nat) (D : DataW Unit) (g : Int → Int), k ≤ n ∧ i = .int .i64 k ∧ Below w2.heap.size w2 wr ∧ wr.ownsMap Tryz.prog 3 (plainElem Tryz.prog 3) w2.heap.size k D ∧ GM D g ∧ (∀ j, j < k → g (vnAt vs j).id = (vnAt vs j).id)) (fun i _ => n - (intOf i).toNat)
 case atStart => exact ⟨0, .map [], _, by omega, rfl, bl1 w2 _, World.ownsMap_made w2 _ _ _, GM.empty, fun j hj => by omega⟩
 case round =>
  obtain ⟨k, D, g, hk, rfl, hB, hO, hG, hgo⟩ := hrel
  by_cases hlt : k < n
  ·have hlt' : Hid (k < n) := hlt
   obtain ⟨b, o, rfl, c0, c1, c2⟩ := (hp2.later hB).cells k hlt
   have hkey : keyOf Tryz.prog 3 (.int .i64 (vnAt vs k).id) = some (.int .i64 (vnAt vs k).id) := keyOf_int_mk under_int (eS (hid k hlt).1 (hid k hlt).2)
   have hwf : (Lit.int .i64 (vnAt vs k).id).wf = true := eS (hid k hlt).1 (hid k hlt).2
   have hO2 := hO.alloc (.cells #[.int .i64 (vnAt vs k).id, .slice (vnAt vs k).rx (vnAt vs k).rn (vnAt vs k).rc, .slice (vnAt vs k).sx (vnAt vs k).sn (vnAt vs k).sc] 41)
   have hmx : k < maxLen := by unfold maxLen; omega
   have hP := hG.put (vnAt vs k).id (vnAt vs k).id
   have hgo' : Hid (∀ j, j < k → g (vnAt vs j).id = (vnAt vs j).id) := hgo
   clear hgo
   have hBa := hB.trans ((bl1 wr (.cells #[.int .i64 (vnAt vs k).id, .slice (vnAt vs k).rx (vnAt vs k).rn (vnAt vs k).rc, .slice (vnAt vs k).sx (vnAt vs k).sn (vnAt vs k).sc] 41)).mono hB.size)
   go_wp2_with (first
    | (at_mapUpdate; refine wpList_mapUpdate_own _ rfl _ _ _ 73 rfl 3 3 key_law fY _ w2.heap.size _ _ rfl hO2 hmx _ _ _ rfl rfl hkey _ [] (plainElem_int under_int hwf) ?_; intro w1 hown1 hgrow1)
    | go_in)
   go_roundw
   case rel => exact ⟨k + 1, _, _, hlt'.out, by go_num, hBa.grown hgrow1 hBa.size (fun j hj => by cases hj; omega), hown1, hP, fun j hj => by
    by_cases e : (vnAt vs j).id = (vnAt vs k).id
    ·simp only [if_pos e]; exact e.symm
    ·simp only [if_neg e]
     by_cases hj2 : j < k
     ·exact hgo'.out j hj2
     ·obtain rfl : j = k := by omega
      exact absurd rfl e⟩
   case measure => simp [intOf]; have := hlt'.out; omega
  ·obtain rfl : k = n := by omega
   have r1 := cell_later hB q1
   have hGr0 : US (bF vs) (bO (ls.take 0)) g := ⟨fun i hi => by
    obtain ⟨j, hj, rfl⟩ := sS hi
    exact ⟨0, hgo j (by rw [← hvl.out]; exact hj), rfl⟩, fun i hi => hi⟩
   clear hgo
   go_wp2
   obtain ⟨wo, rfl⟩ : ∃ wo, wo = wr := ⟨_, rfl⟩
   go_loopw [25] (fun i wr => ∃ (q : Nat) (D : DataW Unit) (g : Int → Int), q ≤ ln ∧ i = .int .i64 q ∧ Below w2.heap.size w2 wr ∧ wr.ownsMap Tryz.prog 3 (plainElem Tryz.prog 3) w2.heap.size (k + q) D ∧ GM D g ∧ US (bF vs) (bO (ls.take q)) g) (fun i _ => ln - (intOf i).toNat)
   case atStart => exact ⟨0, D, g, by omega, rfl, hB, hO, hG, hGr0⟩
   case round =>
    clear hO hG hGr0 hB
    obtain ⟨q, D, g, hq, rfl, hB, hO, hG, hGr⟩ := hrel
    by_cases hq2 : q < ln
    ·have hq' : Hid (q < ln) := hq2
     obtain ⟨b2, o2, rfl, d0, d1⟩ := (hl2.later hB).cells q hq2
     obtain ⟨ha, hb⟩ := hlk q hq2
     have hst : Hid (∀ y, bO (ls.take (q + 1)) y = if bO (ls.take q) y = bO (ls.take q) (dA ls q) then bO (ls.take q) (eA ls q) else bO (ls.take q) y) := fun y => KJ (by rw [hll.out]; exact hq2) y
     have hwid : ∀ y, y ∈ bF vs → (Lit.int .i64 y).wf = true := fun y hy => by
      obtain ⟨j, hj, rfl⟩ := sS hy
      have := hid j (by rw [← hvl.out]; exact hj)
      exact eS this.1 this.2
     have hwa := hwid _ ha
     have hwb := hwid _ hb
     have hwA := hwid _ (hGr.mem _ ha)
     have hwB := hwid _ (hGr.mem _ hb)
     obtain ⟨na, hLa⟩ := hGr.lead _ ha
     obtain ⟨nb, hLb⟩ := hGr.lead _ hb
     have hGr2 := hGr.link ha hb
     have hP := hG.put (bO (ls.take q) (dA ls q)) (bO (ls.take q) (eA ls q))
     generalize dA ls q = la at *
     generalize eA ls q = lb at *
     generalize bO (ls.take q) = hd at *
     have hkey : keyOf Tryz.prog 3 (.int .i64 (hd la)) = some (.int .i64 (hd la)) := keyOf_int_mk under_int hwA
     have hmx : k + q < maxLen := by unfold maxLen; omega
     go_upto_region 10 with fail
     obtain ⟨w3, hw3⟩ : ∃ w3, w3 = wr.alloc (.cells #[.int .i64 la, .int .i64 lb] 93) := ⟨_, rfl⟩
     rw [← hw3]
     have h23 : Below wr.heap.size wr w3 := by rw [hw3]; exact bl1 wr _
     have hbox : w3.heap[wr.heap.size]? = some (.cells #[.int .i64 la, .int .i64 lb] 93) := by rw [hw3]; exact aC _ rfl
     clear hw3 d0 d1
     obtain ⟨hcl, -⟩ := aA hbox
     have t0 := Ws.here (v := .int .i64 la) (hcl 0)
     have t1 := Ws.here (v := .int .i64 lb) (hcl 1)
     clear hcl hbox
     have hO3 := gX hO h23
     have hB3 := hB.trans (h23.mono hB.size)
     have hcA : ∀ W, Below w3.heap.size w3 W → Calls Tryz.prog 21 #[.map (some w2.heap.size), .int .i64 la] W fun e w' => e = .returned (.int .i64 (hd la)) ∧ w' = W := fun W hW => sQ _ _ D g na la _ _ (gX hO3 hW) hG hwa hLa
     have hcB : ∀ W, Below w3.heap.size w3 W → Calls Tryz.prog 21 #[.map (some w2.heap.size), .int .i64 lb] W fun e w' => e = .returned (.int .i64 (hd lb)) ∧ w' = W := fun W hW => sQ _ _ D g nb lb _ _ (gX hO3 hW) hG hwb hLb
     refine jY w3.heap.size 9 (by kernel_rfl) (by kernel_rfl) ?_
     simp only [List.take_succ_cons, List.take_zero, List.drop_succ_cons, List.drop_zero]
     repeat (go_big_quiet_step (first | (go_at_call_of 21 la; exact Calls.in_ws_same (hcA _ (Ws.property _))) | (go_at_call_of 21 lb; exact Calls.in_ws_same (hcB _ (Ws.property _)))))
     refine wpQuiet_nil ?_
     intro uu
     have hB8 := uu.property
     generalize uu.val = w8 at hB8 ⊢
     clear uu t0 t1
     have hO8 := gX hO3 hB8
     have hB8' := hB3.trans (hB8.mono hB3.size)
     go_wp2_with (first
      | (at_mapUpdate; refine wpList_mapUpdate_own _ rfl _ _ _ 73 rfl 3 3 key_law fY _ w2.heap.size _ _ rfl hO8 hmx _ _ _ rfl rfl hkey _ [] (plainElem_int under_int hwB) ?_; intro w1 hown1 hgrow1)
      | go_in)
     go_roundw
     case rel => exact ⟨q + 1, _, _, hq'.out, by go_num, hB8'.grown hgrow1 hB8'.size (fun j hj => by cases hj; omega), hown1, hP, by
      have e : bO (ls.take (q + 1)) = fun y => if hd y = hd la then hd lb else hd y := funext hst.out
      rw [e]
      exact hGr2⟩
     case measure => simp [intOf]; have := hq'.out; omega
    ·obtain rfl : q = ln := by omega
     have e : ls.take q = ls := by rw [← hll.out, List.take_length]
     rw [e] at hGr
     go_wp2
     go_ret
     exact ⟨_, _, D, g, rfl, by rw [hbk]; exact hsz.out, hO, hG, hGr, by rw [hbk]; exact h02.trans (hB.mono hsz.out)⟩
def wF (hd : Int → Int) (vs : List Vn) (i j : Nat) : Bool := (hd (vnAt vs i).id == hd (vnAt vs j).id) && gI (vnAt vs i).rn (vnAt vs i).rs (vnAt vs j).rn (vnAt vs j).rs
def CJ (hd : Int → Int) (vs : List Vn) (i : Nat) : Bool := (List.range i).all fun j => !wF hd vs i j
def sU (ls : List (Int × Int)) (n : Nat) (vs : List Vn) : Bool := (List.range n).all (CJ (bO ls) vs)
abbrev PZ (p : Vn) : Obj := .cells #[.int .i64 p.id, .slice p.rx p.rn p.rc, .slice p.sx p.sn p.sc] 41
theorem HE (x : Option Addr) (n c : Nat) (vs : List Vn) (lx : Option Addr) (ln lc : Nat) (ls : List (Int × Int)) (w : World) (hp : VS w x n vs) (hn : n ≤ 64) (hnc : n ≤ c) (hl : PS w lx ln ls) (hln : ln ≤ 64)
  (hid : ∀ i, i < n → 0 ≤ (vnAt vs i).id ∧ (vnAt vs i).id ≤ 1000000) (hrn : ∀ i, i < n → (vnAt vs i).rn ≤ 64) (hlk : ∀ j, j < ln → dA ls j ∈ bF vs ∧ eA ls j ∈ bF vs) :
  Calls Tryz.prog 32 #[.agg #[.slice x n c, .slice lx ln lc]] w fun e w' => e = .returned (.bool (sU ls n vs)) ∧ Below w.heap.size w w' := by
 have hvl : Hid (vs.length = n) := hp.len
 have hbd : Hid (sU ls n vs = (List.range n).all (CJ (bO ls) vs)) := rfl
 go_enter Tryz.func32, Tryz.ntmps32
 go_upto_region 1 with fail
 obtain ⟨w2, hw2⟩ : ∃ w2, w2 = w.alloc (nH x n c lx ln lc) := ⟨_, rfl⟩
 rw [← hw2]
 have h02 : Below w.heap.size w w2 := by rw [hw2]; exact bl1 w _
 have hbox : w2.heap[w.heap.size]? = some (nH x n c lx ln lc) := by rw [hw2]; exact aC _ rfl
 clear hw2
 obtain ⟨hcl, -⟩ := aA hbox
 have q0 : w2.cell? ⟨w.heap.size, 0, none⟩ = some (.slice x n c) := hcl 0
 have q1 : w2.cell? ⟨w.heap.size, 1, none⟩ = some (.slice lx ln lc) := hcl 1
 clear hcl hbox
 have hsz : Hid (w.heap.size ≤ w2.heap.size) := h02.size
 have hp2 := hp.later h02
 have hl2 := hl.later h02
 generalize hbk : w.heap.size = bk at *
 go_wp2_with fail
 refine (sT x n c vs lx ln lc ls _ hp2 hn hl2 hln hid hlk).mono ?_
 rintro e w3 ⟨bm, m, D, g, rfl, hbm, hO, hG, hGr, hb3⟩
 have h03 : Below bk w w3 := h02.trans (hb3.mono hsz.out)
 have hsz3 : Hid (bk ≤ w3.heap.size) := Nat.le_trans hsz.out hb3.size
 have hp3 := hp2.later hb3
 have r0 := cell_later hb3 q0
 clear q0 q1 hb3 h02
 have hwid : ∀ i, i < n → (Lit.int .i64 (vnAt vs i).id).wf = true := fun i hi => eS (hid i hi).1 (hid i hi).2
 have hHd : ∀ W, Below w3.heap.size w3 W → ∀ i, i < n → Calls Tryz.prog 21 #[.map (some bm), .int .i64 (vnAt vs i).id] W fun e w' => e = .returned (.int .i64 (bO ls (vnAt vs i).id)) ∧ w' = W := fun W hW i hi => by
  obtain ⟨q, hq⟩ := hGr.lead _ (sR (by rw [hvl.out]; exact hi))
  exact sQ _ _ D g q _ _ _ (gX hO hW) hG (hwid i hi) hq
 generalize hhd : bO ls = hd at *
 clear hG hGr hO
 go_wp2
 go_loopw [13] (fun i wr => ∃ k : Nat, k ≤ n ∧ i = .int .i64 k ∧ Below w3.heap.size w3 wr ∧ (∀ j, j < k → CJ hd vs j = true)) (fun i _ => n - (intOf i).toNat)
 case atStart => exact ⟨0, by omega, rfl, Below.refl _ _, fun j hj => by omega⟩
 case round =>
  obtain ⟨k, hk, rfl, hB, hok⟩ := hrel
  have s0 := cell_later hB r0
  by_cases hlt : k < n
  ·have hlt' : Hid (k < n) := hlt
   have hpr := hp3.later hB
   have hpk := hpr.cells k hlt
   have hvk := (hpr.vps k hlt).2.2.2.ranges
   have hrk := hrn k hlt
   have hHk : ∀ W, Below w3.heap.size w3 W → Calls Tryz.prog 21 #[.map (some bm), .int .i64 (vnAt vs k).id] W fun e w' => e = .returned (.int .i64 (hd (vnAt vs k).id)) ∧ w' = W := fun W hW => hHd W hW k hlt
   have hcd : Hid (∀ j, wF hd vs k j = ((hd (vnAt vs k).id == hd (vnAt vs j).id) && gI (vnAt vs k).rn (vnAt vs k).rs (vnAt vs j).rn (vnAt vs j).rs)) := fun j => rfl
   obtain ⟨b, o, rfl, c0, c1, c2⟩ := hpk
   go_upto_region 5 with fail
   obtain ⟨w4, hw4⟩ : ∃ w4, w4 = wr.alloc (PZ (vnAt vs k)) := ⟨_, rfl⟩
   rw [← hw4]
   have h34 : Below wr.heap.size wr w4 := by rw [hw4]; exact bl1 wr _
   have hbox : w4.heap[wr.heap.size]? = some (PZ (vnAt vs k)) := by rw [hw4]; exact aC _ rfl
   clear hw4 c0 c1 c2
   have s4 := cell_later h34 s0
   clear s0
   have hp4 := hpr.later h34
   have hv4 := hvk.later h34
   have hB4 := hB.trans (h34.mono hB.size)
   obtain ⟨hcl, -⟩ := aA hbox
   have t0 : w4.cell? ⟨wr.heap.size, 0, none⟩ = some (.int .i64 (vnAt vs k).id) := hcl 0
   have t1 : w4.cell? ⟨wr.heap.size, 1, none⟩ = some (.slice (vnAt vs k).rx (vnAt vs k).rn (vnAt vs k).rc) := hcl 1
   have t2 : w4.cell? ⟨wr.heap.size, 2, none⟩ = some (.slice (vnAt vs k).sx (vnAt vs k).sn (vnAt vs k).sc) := hcl 2
   clear hcl hbox hpr hvk
   generalize wr.heap.size = bv at *
   clear hB h34
   clear wr
   have hkc : (k : Int) ≤ c := by omega
   go_wp2
   go_loopw [23] (fun i wr => ∃ q : Nat, q ≤ k ∧ i = .int .i64 q ∧ Below w4.heap.size w4 wr ∧ (∀ j, j < q → wF hd vs k j = false)) (fun i _ => k - (intOf i).toNat)
   case atStart => exact ⟨0, by omega, rfl, Below.refl _ _, fun j hj => by omega⟩
   case round =>
    obtain ⟨q, hq, rfl, hB, hno⟩ := hrel
    by_cases hq2 : q < k
    ·have hq' : Hid (q < k) := hq2
     have hpr := hp4.later hB
     obtain ⟨b2, o2, hbo, d0, d1, d2⟩ := hpr.cells q (by omega)
     simp only [Option.some.injEq, Addr.mk.injEq, and_true] at hbo
     obtain ⟨rfl, rfl⟩ := hbo
     have hvq := (hpr.vps q (by omega)).2.2.2.ranges
     have hrq := hrn q (by omega)
     have hHq : ∀ W, Below w3.heap.size w3 W → Calls Tryz.prog 21 #[.map (some bm), .int .i64 (vnAt vs q).id] W fun e w' => e = .returned (.int .i64 (hd (vnAt vs q).id)) ∧ w' = W := fun W hW => hHd W hW q (by omega)
     have hcq : Hid (wF hd vs k q = ((hd (vnAt vs k).id == hd (vnAt vs q).id) && gI (vnAt vs k).rn (vnAt vs k).rs (vnAt vs q).rn (vnAt vs q).rs)) := hcd.out q
     have u0 := cell_later hB t0
     have u1 := cell_later hB t1
     have u2 := cell_later hB t2
     have hv5 := hv4.later hB
     go_upto_region 8 with fail
     obtain ⟨w5, hw5⟩ : ∃ w5, w5 = wr.alloc (PZ (vnAt vs q)) := ⟨_, rfl⟩
     rw [← hw5]
     have h45 : Below wr.heap.size wr w5 := by rw [hw5]; exact bl1 wr _
     have hbox : w5.heap[wr.heap.size]? = some (PZ (vnAt vs q)) := by rw [hw5]; exact aC _ rfl
     clear hw5 d0 d1 d2
     obtain ⟨hcl, -⟩ := aA hbox
     have k0 := Ws.here (v := .int .i64 (vnAt vs q).id) (hcl 0)
     have k1 := Ws.here (v := .slice (vnAt vs q).rx (vnAt vs q).rn (vnAt vs q).rc) (hcl 1)
     have k2 := Ws.here (v := .slice (vnAt vs q).sx (vnAt vs q).sn (vnAt vs q).sc) (hcl 2)
     have g0 := Ws.here (cell_later h45 u0)
     have g1 := Ws.here (cell_later h45 u1)
     have g2 := Ws.here (cell_later h45 u2)
     clear hcl hbox u0 u1 u2
     have hvq6 := hvq.later h45
     have hv6 := hv5.later h45
     have hB5 := hB.trans (h45.mono hB.size)
     have hB35 := hB4.trans (hB5.mono hB4.size)
     clear hpr hvq hv5
     generalize hik : hd (vnAt vs k).id = ik at hHk hcq
     generalize hiq : hd (vnAt vs q).id = iq at hHq hcq
     have hHk' : ∀ W, Below w5.heap.size w5 W → Calls Tryz.prog 21 #[.map (some bm), .int .i64 (vnAt vs k).id] W fun e w' => e = .returned (.int .i64 ik) ∧ w' = W := fun W hW => hHk W (hB35.trans (hW.mono hB35.size))
     have hHq' : ∀ W, Below w5.heap.size w5 W → Calls Tryz.prog 21 #[.map (some bm), .int .i64 (vnAt vs q).id] W fun e w' => e = .returned (.int .i64 iq) ∧ w' = W := fun W hW => hHq W (hB35.trans (hW.mono hB35.size))
     cases hde : (ik == iq)
     ·refine aI w5.heap.size (by kernel_rfl) (by kernel_rfl) ?_
      repeat (go_big_quiet_step (first | (go_at_call_of 21 ((vnAt vs k).id); exact Calls.in_ws_same (hHk' _ (Ws.property _))) | (go_at_call_of 21 ((vnAt vs q).id); exact Calls.in_ws_same (hHq' _ (Ws.property _)))))
      refine wpQuiet_nil ?_
      rintro _ ⟨u, rfl⟩
      have hu := hB5.trans (u.property.mono hB5.size)
      generalize u.val = wu at hu ⊢
      clear u k0 k1 k2 g0 g1 g2
      go_wp2
      go_roundw
      case rel => exact ⟨q + 1, hq'.out, by go_num, hu, fun j hj => by
       by_cases hj2 : j < q
       ·exact hno j hj2
       ·obtain rfl : j = q := by omega
        rw [hcq.out, hde]; rfl⟩
      case measure => simp [intOf]; have := hq'.out; omega
     ·cases hme : gI (vnAt vs k).rn (vnAt vs k).rs (vnAt vs q).rn (vnAt vs q).rs
      all_goals refine aI w5.heap.size (by kernel_rfl) (by kernel_rfl) ?_
      all_goals repeat (go_big_quiet_step (first | (go_at_call_of 21 ((vnAt vs k).id); exact Calls.in_ws_same (hHk' _ (Ws.property _))) | (go_at_call_of 21 ((vnAt vs q).id); exact Calls.in_ws_same (hHq' _ (Ws.property _))) | (go_at_call 65; exact Calls.in_ws (Nat.le_refl _) (N3 (vnAt vs k) (vnAt vs q) _ hme _ (hv6.later (Ws.property _)) (hvq6.later (Ws.property _)) hrk hrq))))
      all_goals refine wpQuiet_nil ?_
      all_goals rintro _ ⟨u, rfl⟩
      all_goals have hu := hB5.trans (u.property.mono hB5.size)
      all_goals generalize u.val = wu at hu ⊢
      all_goals clear u k0 k1 k2 g0 g1 g2
      ·go_wp2
       go_roundw
       case rel => exact ⟨q + 1, hq'.out, by go_num, hu, fun j hj => by
        by_cases hj2 : j < q
        ·exact hno j hj2
        ·obtain rfl : j = q := by omega
         rw [hcq.out, hde, hme]; rfl⟩
       case measure => simp [intOf]; have := hq'.out; omega
      ·have hfin := hB4.trans (hu.mono hB4.size)
       go_wp2
       go_ret
       exact ⟨aH (by rw [hbd.out, iJ hlt'.out (iJ hq'.out (by rw [hcq.out, hde, hme]; rfl))]), by rw [hbk]; exact h03.trans (hfin.mono hsz3.out)⟩
    ·obtain rfl : q = k := by omega
     have hfin := hB4.trans (hB.mono hB4.size)
     go_wp2
     go_roundw
     case rel => exact ⟨q + 1, hlt'.out, by go_num, hfin, fun j hj => by
      by_cases hj2 : j < q
      ·exact hok j hj2
      ·obtain rfl : j = q := by omega
       exact oK fun i hi => by rw [hno i hi]; rfl⟩
     case measure => simp [intOf]; have := hlt'.out; omega
  ·obtain rfl : k = n := by omega
   go_wp2
   go_ret
   exact ⟨aH (by rw [hbd.out, oK hok]), by rw [hbk]; exact h03.trans (hB.mono hsz3.out)⟩
theorem napart_is (x : Option Addr) (n c : Nat) (vs : List Vn) (lx : Option Addr) (ln lc : Nat) (ls : List (Int × Int)) (t : Bool) (h : sU ls n vs = t) (w : World) (hp : VS w x n vs) (hn : n ≤ 64) (hnc : n ≤ c) (hl : PS w lx ln ls) (hln : ln ≤ 64)
  (hid : ∀ i, i < n → 0 ≤ (vnAt vs i).id ∧ (vnAt vs i).id ≤ 1000000) (hrn : ∀ i, i < n → (vnAt vs i).rn ≤ 64) (hlk : ∀ j, j < ln → dA ls j ∈ bF vs ∧ eA ls j ∈ bF vs) :
  Calls Tryz.prog 32 #[.agg #[.slice x n c, .slice lx ln lc]] w fun e w' => e = .returned (.bool t) ∧ Below w.heap.size w w' := by
 subst h
 exact HE x n c vs lx ln lc ls w hp hn hnc hl hln hid hrn hlk
def flatI (es : List Int) : List Value := es.map (Value.int .i64)
theorem pQ (es : List Int) : (flatI es).length = es.length := by simp [flatI]
theorem A4 (es fs : List Int) : flatI (es ++ fs) = flatI es ++ flatI fs := by simp [flatI]
theorem pR (es : List Int) : ∀ u ∈ flatI es, u.oneCell' = true := fun u hu => by
 obtain ⟨e, -, rfl⟩ := List.mem_map.1 hu
 rfl
theorem E0 (h : i < es.length) : (flatI es)[i]? = some (.int .i64 (bA es i)) := by
 unfold flatI
 rw [List.getElem?_map, List.getElem?_eq_getElem h, EW h]
 rfl
def dO (w : World) (base : Nat) (v : Value) (es : List Int) : Prop := w.ownsRow base 3 1 v es.length (flatI es)
theorem dO.later (h : dO w base v es) (hb : Below w.heap.size w w') : dO w' base v es := jH h hb
theorem dO.kept (h : dO w base v es) (hg : w.grownBy w' (some g)) (hne : ∀ k, v.ownBlock = some k → k ≠ g) : dO w' base v es := iK h hg hne
theorem dO.low (h : dO w base v es) (hb : base' ≤ base) : dO w base' v es := jI h hb
theorem dO.lt (h : dO w base v es) : ∀ k, v.ownBlock = some k → base ≤ k ∧ k < w.heap.size := World.ownsRow.lt h
theorem dO.ne (h : dO w base v es) (hb : w.heap[b]? = some (.cells cs t fr)) (ht : t ≠ 3) : v.ownBlock ≠ some b := nU h hb ht
theorem S5 : Ty 3 42 1 (.int .i64 0) 8 := uY (by kernel_rfl) (by kernel_rfl) rfl (pR [(0 : Int)]) (by decide) (by decide)
theorem wG {o : Oper} (hgd : o.guard = none) (s x : Operand)
  (ho : o.op = .call { callee := .builtin .append, args := #[s, x], argTypes := #[42, 42] }) (base : Nat) (v : Value) (es : List Int) (hs : a.eval s = v) (hO : dO w base v es)
  (ad : Addr) (m c : Nat) (fs : List Int) (hx : a.eval x = .slice (some ad) m c) (hm : fs.length = m) (hy : ∀ j u, (flatI fs)[j]? = some u → w.cell? (ad.add j) = some u)
  (hlen : es.length + m ≤ 1000000000) (hbase : base ≤ w.heap.size)
  (h : ∀ v' w', dO w' base v' (es ++ fs) → w.grownBy w' v.ownBlock → wpList Tryz.prog ops Q rest (a.put o.dst v') w') : wpList Tryz.prog ops Q (o :: rest) a w := by
 subst hm
 refine gP S5 hgd s x ho base v hs hO ad fs.length c hx ⟨(fun es => (pQ es).trans (Nat.mul_one _).symm) fs, fun _ => by simp, pR fs, fun ad1 h1 => by cases h1; exact hy⟩ hlen hbase fun v1 w1 h1 h2 => h v1 w1 ?_ h2
 unfold dO
 rw [A4, List.length_append]
 exact h1
theorem dO.mem (h : dO w base v es) : ∃ x c, v = .slice x es.length c ∧ es.length ≤ c ∧ c ≤ 9223372036854775807 ∧ (x = none → es.length = 0 ∧ c = 0) ∧ IS w x es.length es := by
 rcases h.2 with ⟨rfl, h0⟩ | ⟨g, cap, cur, rfl, -, -, h4, h5, -⟩
 ·exact ⟨none, 0, by rw [h0], by omega, by omega, fun _ => ⟨h0, rfl⟩, ⟨rfl, fun i hi => by omega⟩⟩
 ·refine ⟨some ⟨g, 0, none⟩, cap, rfl, h4, by unfold maxLen at h5; omega, fun e => by simp at e, ⟨rfl, fun i hi => ⟨g, 0, rfl, ?_⟩⟩⟩
  have := World.ownsRow.cells h (g := g) rfl i _ (E0 hi)
  rw [Addr.add_lit] at this
  exact this
def bE (n : Nat) (vs : List Vn) (ln : Nat) (ls : List (Int × Int)) : Int := if decide (6 < n) || decide (12 < ln) then 2 else if eC n vs && cU n vs ln ls && sU ls n vs then 0 else 1
theorem kF {id : Int} (hl : vs.length = n) (h : ¬ aG n vs id < 0) : id ∈ bF vs := by
 unfold aG at h
 split at h
 ·rename_i i he
  have h1 := List.find?_some he
  have h2 := List.mem_of_find?_eq_some he
  simp only [List.mem_range, beq_iff_eq] at h1 h2
  rw [← h1]
  exact sR (by rw [hl]; exact h2)
 ·omega
theorem KK {id : Int} {rs : List Rg} (h : aV id rn rs sn ss = 0) : (1 ≤ id ∧ id ≤ 65536) ∧ rn ≤ 4 := by
 unfold aV at h
 split at h
 ·omega
 ·rename_i hm
  split at h
  ·rename_i hw
   simp only [Bool.and_eq_true, dH, decide_eq_true_eq] at hw
   exact ⟨⟨hw.1.1.1, hw.1.1.2⟩, (few (by simpa using hm)).1⟩
  ·omega
theorem sV (h : eC n vs = true) : ∀ i, i < n → (0 ≤ (vnAt vs i).id ∧ (vnAt vs i).id ≤ 1000000) ∧ (vnAt vs i).rn ≤ 64 := fun i hi => by
 unfold eC at h
 rw [Bool.and_eq_true] at h
 have hb : kD (vnAt vs i) = false := by
  cases e : kD (vnAt vs i)
  ·rfl
  ·rw [aT (f := fun i => kD (vnAt vs i)) hi e] at h
   exact absurd h.2 (by simp)
 unfold kD at hb
 simp only [Bool.not_eq_false', beq_iff_eq] at hb
 have := KK hb
 omega
theorem pS (hl : vs.length = n) (h : cU n vs ln ls = true) : ∀ j, j < ln → dA ls j ∈ bF vs ∧ eA ls j ∈ bF vs := fun j hj => by
 unfold cU at h
 rw [Bool.and_eq_true] at h
 have hb : mP n vs ls j = false := by
  cases e : mP n vs ls j
  ·rfl
  ·rw [aT hj e] at h
   exact absurd h.2 (by simp)
 unfold mP at hb
 simp only [Bool.or_eq_false_iff, decide_eq_false_iff_not] at hb
 exact ⟨kF hl hb.1.2, kF hl hb.2⟩
theorem rJ (x : Option Addr) (n c : Nat) (vs : List Vn) (lx : Option Addr) (ln lc : Nat) (ls : List (Int × Int)) (w : World) (hp : VS w x n vs) (hn : n ≤ 9223372036854775807) (hnc : n ≤ c) (hl : PS w lx ln ls) (hln : ln ≤ 9223372036854775807) :
  Calls Tryz.prog 18 #[.agg #[.slice x n c, .slice lx ln lc]] w fun e w' => e = .returned (.int .i64 (bE n vs ln ls)) ∧ Below w.heap.size w w' := by
 have hbd : Hid (bE n vs ln ls = if decide (6 < n) || decide (12 < ln) then 2 else if eC n vs && cU n vs ln ls && sU ls n vs then 0 else 1) := rfl
 have hvl : Hid (vs.length = n) := hp.len
 go_enter Tryz.func18, Tryz.ntmps18
 go_upto_region 1 with fail
 obtain ⟨w2, hw2⟩ : ∃ w2, w2 = w.alloc (nH x n c lx ln lc) := ⟨_, rfl⟩
 rw [← hw2]
 have h02 : Below w.heap.size w w2 := by rw [hw2]; exact bl1 w _
 have hbox : w2.heap[w.heap.size]? = some (nH x n c lx ln lc) := by rw [hw2]; exact aC _ rfl
 clear hw2
 obtain ⟨hcl, -⟩ := aA hbox
 have q0 : w2.cell? ⟨w.heap.size, 0, none⟩ = some (.slice x n c) := hcl 0
 have q1 : w2.cell? ⟨w.heap.size, 1, none⟩ = some (.slice lx ln lc) := hcl 1
 clear hcl hbox
 have hp2 := hp.later h02
 have hl2 := hl.later h02
 have hsz : Hid (w.heap.size ≤ w2.heap.size) := h02.size
 generalize hbk : w.heap.size = bk at *
 by_cases h6 : 6 < n
 ·have hd : (decide ((n : Int) > 6)) = true := by simp; omega
  go_wp2
  go_ret
  exact ⟨cN (by rw [hbd.out, decide_eq_true h6]; rfl), by rw [hbk]; exact h02⟩
 ·have hd : (decide ((n : Int) > 6)) = false := by simp; omega
  have hd6 : Hid (decide (6 < n) = false) := by show _ = _; simp; omega
  by_cases h12 : 12 < ln
  ·have hd2 : (decide ((ln : Int) > 12)) = true := by simp; omega
   go_wp2
   go_ret
   exact ⟨cN (by rw [hbd.out, decide_eq_true h12]; simp), by rw [hbk]; exact h02⟩
  ·have hd2 : (decide ((ln : Int) > 12)) = false := by simp; omega
   have hd12 : Hid (decide (12 < ln) = false) := by show _ = _; simp; omega
   cases hv : eC n vs
   ·go_wp2_with (go_at_call 30; refine (vpcsRight_is _ _ _ _ _ hv _ hp2 (by omega)).mono ?_; rintro e w3 ⟨rfl, hb3⟩)
    go_ret
    exact ⟨cN (by rw [hbd.out, hd6.out, hd12.out, hv]; rfl), by rw [hbk]; exact h02.trans (hb3.mono hsz.out)⟩
   ·go_wp2_with fail
    refine (vpcsRight_is _ _ _ _ _ hv _ hp2 (by omega)).mono ?_
    rintro e w3 ⟨rfl, hb3⟩
    have h03 : Below bk w w3 := h02.trans (hb3.mono hsz.out)
    have hsz3 : Hid (bk ≤ w3.heap.size) := Nat.le_trans hsz.out hb3.size
    have r0 := cell_later hb3 q0
    have r1 := cell_later hb3 q1
    clear q0 q1
    have hp3 := hp2.later hb3
    have hl3 := hl2.later hb3
    clear hb3
    cases hli : cU n vs ln ls
    ·go_wp2_with (go_at_call 31; refine (linksRight_is _ _ _ _ _ _ _ _ _ hli _ hp3 (by omega) hl3 (by omega)).mono ?_; rintro e w4 ⟨rfl, hb4⟩)
     go_ret
     exact ⟨cN (by rw [hbd.out, hd6.out, hd12.out, hv, hli]; rfl), by rw [hbk]; exact h03.trans (hb4.mono hsz3.out)⟩
    ·go_wp2_with fail
     refine (linksRight_is _ _ _ _ _ _ _ _ _ hli _ hp3 (by omega) hl3 (by omega)).mono ?_
     rintro e w4 ⟨rfl, hb4⟩
     have h04 : Below bk w w4 := h03.trans (hb4.mono hsz3.out)
     have hsz4 : Hid (bk ≤ w4.heap.size) := Nat.le_trans hsz3.out hb4.size
     have s0 := cell_later hb4 r0
     have s1 := cell_later hb4 r1
     clear r0 r1
     have hp4 := hp3.later hb4
     have hl4 := hl3.later hb4
     clear hb4
     have hfw := sV hv
     have hlm := pS hvl.out hli
     cases ha : sU ls n vs
     all_goals go_wp2_with (go_at_call 32; refine (napart_is _ _ _ _ _ _ _ _ _ ha _ hp4 (by omega) hnc hl4 (by omega) (fun i hi => (hfw i hi).1) (fun i hi => (hfw i hi).2) hlm).mono ?_; rintro e w5 ⟨rfl, hb5⟩)
     all_goals go_ret
     all_goals exact ⟨cN (by rw [hbd.out, hd6.out, hd12.out, hv, hli, ha]; rfl), by rw [hbk]; exact h04.trans (hb5.mono hsz4.out)⟩
theorem fL (x : Option Addr) (n c : Nat) (vs : List Vn) (lx : Option Addr) (ln lc : Nat) (ls : List (Int × Int)) (t : Int) (h : bE n vs ln ls = t) (w : World) (hp : VS w x n vs) (hn : n ≤ 9223372036854775807) (hnc : n ≤ c) (hl : PS w lx ln ls) (hln : ln ≤ 9223372036854775807) :
  Calls Tryz.prog 18 #[.agg #[.slice x n c, .slice lx ln lc]] w fun e w' => e = .returned (.int .i64 t) ∧ Below w.heap.size w w' := by
 subst h
 exact rJ x n c vs lx ln lc ls w hp hn hnc hl hln
def grpL (ls : List (Int × Int)) (vs : List Vn) (id : Int) : List Int := (bF vs).filter fun y => bO ls y == bO ls id
def E1 (n : Nat) (vs : List Vn) (ln : Nat) (ls : List (Int × Int)) (id : Int) : Int := if bE n vs ln ls = 0 then (if aG n vs id < 0 then 5 else 0) else bE n vs ln ls
theorem N5 (h : k < vs.length) : bF (vs.take (k + 1)) = bF (vs.take k) ++ [(vnAt vs k).id] := by
 unfold bF
 rw [List.take_add_one, List.getElem?_eq_getElem h, eT h, Option.toList_some, List.map_append]
 rfl
theorem HG (h : dO w base v es) {P : Program} {k : TypeId} {R : Value → Option (DataW Unit × List MemPlace)} {b n : Nat} {D : DataW Unit} (hO : w.ownsMap P k R b n D) : some b ≠ v.ownBlock := by
 obtain ⟨em, clock, h0, -⟩ := hO
 rcases h.2 with ⟨rfl, -⟩ | ⟨g, cap, cur, rfl, -, h2, -⟩
 ·simp [Value.ownBlock]
 ·intro e
  simp only [Value.ownBlock, Option.some.injEq] at e
  rw [← e, h0] at h2
  cases h2
def IP (n : Nat) (vs : List Vn) (ln : Nat) (ls : List (Int × Int)) (id : Int) (w : World) (e : Ending) (w' : World) : Prop := ∃ v, e = .returned (.tuple #[v, .int .i64 (E1 n vs ln ls id)]) ∧ dO w' w.heap.size v (if E1 n vs ln ls id = 0 then grpL ls vs id else []) ∧ Below w.heap.size w w'
theorem KL (x : Option Addr) (n c : Nat) (vs : List Vn) (lx : Option Addr) (ln lc : Nat) (ls : List (Int × Int)) (id : Int) (w : World) (hp : VS w x n vs) (hn : n ≤ 9223372036854775807) (hnc : n ≤ c) (hl : PS w lx ln ls) (hln : ln ≤ 9223372036854775807) :
  Calls Tryz.prog 8 #[.agg #[.slice x n c, .slice lx ln lc], .int .i64 id] w (IP n vs ln ls id w) := by
 have hbd : Hid (E1 n vs ln ls id = if bE n vs ln ls = 0 then (if aG n vs id < 0 then 5 else 0) else bE n vs ln ls) := rfl
 have hvl : Hid (vs.length = n) := hp.len
 go_enter Tryz.func8, Tryz.ntmps8
 go_upto_region 1 with fail
 obtain ⟨w2, hw2⟩ : ∃ w2, w2 = w.alloc (nH x n c lx ln lc) := ⟨_, rfl⟩
 rw [← hw2]
 have h02 : Below w.heap.size w w2 := by rw [hw2]; exact bl1 w _
 have hbox : w2.heap[w.heap.size]? = some (nH x n c lx ln lc) := by rw [hw2]; exact aC _ rfl
 clear hw2
 obtain ⟨hcl, -⟩ := aA hbox
 have q0 : w2.cell? ⟨w.heap.size, 0, none⟩ = some (.slice x n c) := hcl 0
 have q1 : w2.cell? ⟨w.heap.size, 1, none⟩ = some (.slice lx ln lc) := hcl 1
 clear hcl hbox
 have hp2 := hp.later h02
 have hl2 := hl.later h02
 have hsz : Hid (w.heap.size ≤ w2.heap.size) := h02.size
 generalize hbk : w.heap.size = bk at *
 go_wp2_with fail
 refine (rJ x n c vs lx ln lc ls _ hp2 hn hnc hl2 hln).mono ?_
 rintro e w3 ⟨rfl, hb3⟩
 have h03 : Below bk w w3 := h02.trans (hb3.mono hsz.out)
 have hsz3 : Hid (bk ≤ w3.heap.size) := Nat.le_trans hsz.out hb3.size
 have r0 := cell_later hb3 q0
 have r1 := cell_later hb3 q1
 clear q0 q1
 have hp3 := hp2.later hb3
 have hl3 := hl2.later hb3
 clear hb3 h02
 by_cases hz : bE n vs ln ls = 0
 ·have hfw : eC n vs = true ∧ cU n vs ln ls = true ∧ n ≤ 6 ∧ ln ≤ 12 := by
   unfold bE at hz
   split at hz
   ·omega
   ·rename_i hm
    simp only [Bool.or_eq_true, decide_eq_true_eq] at hm
    split at hz
    ·rename_i hw
     simp only [Bool.and_eq_true] at hw
     exact ⟨hw.1.1, hw.1.2, by omega, by omega⟩
    ·omega
  obtain ⟨hvb, hlb, hn6, hl12⟩ := hfw
  have hfw := sV hvb
  have hlm := pS hvl.out hlb
  rw [hz]
  rw [hz] at hbd
  by_cases hpl : aG n vs id < 0
  ·have hd : decide (aG n vs id < 0) = true := by simpa using hpl
   have hge : Hid (E1 n vs ln ls id = 5) := by show _ = _; rw [hbd.out, if_pos rfl, if_pos hpl]
   go_wp2_with (go_at_call 19; refine (place_any id x n c vs lx ln lc _ hp3 (by omega)).mono ?_; rintro e w4 ⟨rfl, hb4⟩)
   refine bodyPost_ret (v := .tuple #[.slice none 0 0, .int .i64 5]) (by simp [results, Tryz.results8, go_sem]) rfl ⟨_, by rw [hge.out], ?_, ?_⟩
   ·rw [hge.out, if_neg (by omega)]
    exact World.ownsRow_nil _ _ _ _
   ·rw [hbk]; exact h03.trans (hb4.mono hsz3.out)
  ·have hd : decide (aG n vs id < 0) = false := by simpa using hpl
   have hge : Hid (E1 n vs ln ls id = 0) := by show _ = _; rw [hbd.out, if_pos rfl, if_neg hpl]
   have hidm := kF hvl.out hpl
   go_wp2_with fail
   refine (place_any id x n c vs lx ln lc _ hp3 (by omega)).mono ?_
   rintro e w4 ⟨rfl, hb4⟩
   have h04 : Below bk w w4 := h03.trans (hb4.mono hsz3.out)
   have hsz4 : Hid (bk ≤ w4.heap.size) := Nat.le_trans hsz3.out hb4.size
   have s0 := cell_later hb4 r0
   have s1 := cell_later hb4 r1
   clear r0 r1
   have hp4 := hp3.later hb4
   have hl4 := hl3.later hb4
   clear hb4 h03
   go_wp2_with fail
   refine (sT x n c vs lx ln lc ls _ hp4 (by omega) hl4 (by omega) (fun i hi => (hfw i hi).1) hlm).mono ?_
   rintro e w5 ⟨bm, m, D, g, rfl, hbm, hO, hG, hGr, hb5⟩
   have h05 : Below bk w w5 := h04.trans (hb5.mono hsz4.out)
   have hsz5 : Hid (bk ≤ w5.heap.size) := Nat.le_trans hsz4.out hb5.size
   have t0 := cell_later hb5 s0
   have hp5 := hp4.later hb5
   clear s0 s1 hb5 h04 hp4 hl4 hp3 hl3 hp2 hl2
   have hbm' : Hid (bk ≤ bm) := Nat.le_trans hsz4.out hbm
   have hwid : ∀ y, y ∈ bF vs → (Lit.int .i64 y).wf = true := fun y hy => by
    obtain ⟨j, hj, rfl⟩ := sS hy
    have := (hfw j (by rw [← hvl.out]; exact hj)).1
    exact eS this.1 this.2
   have hHd : ∀ W, W.ownsMap Tryz.prog 3 (plainElem Tryz.prog 3) bm m D → ∀ y, y ∈ bF vs → Calls Tryz.prog 21 #[.map (some bm), .int .i64 y] W fun e w' => e = .returned (.int .i64 (bO ls y)) ∧ w' = W := fun W hW y hy => by
    obtain ⟨q, hq⟩ := hGr.lead _ hy
    exact sQ _ _ D g q _ _ _ hW hG (hwid y hy) hq
   go_wp2
   go_loopw [8, 29] (fun v i wr => ∃ k : Nat, k ≤ n ∧ i = .int .i64 k ∧ Below bk w wr ∧ wr.ownsMap Tryz.prog 3 (plainElem Tryz.prog 3) bm m D ∧ dO wr bk v ((bF (vs.take k)).filter fun y => bO ls y == bO ls id)) (fun _ i _ => n - (intOf i).toNat)
   case atStart => exact ⟨0, by omega, rfl, h05, hO, World.ownsRow_nil _ _ _ _⟩
   case round =>
    obtain ⟨k, hk, rfl, hB, hOw, hI⟩ := hrel
    by_cases hlt : k < n
    ·have hlt' : Hid (k < n) := hlt
     have hpr : VS wr x n vs := hp.later (by rw [hbk]; exact hB)
     obtain ⟨b, o, rfl, c0, c1, c2⟩ := hpr.cells k hlt
     have hidk : (vnAt vs k).id ∈ bF vs := sR (by rw [hvl.out]; exact hlt)
     have hst : Hid (bF (vs.take (k + 1)) = bF (vs.take k) ++ [(vnAt vs k).id]) := N5 (by rw [hvl.out]; exact hlt)
     go_upto_region 11 with fail
     obtain ⟨w6, hw6⟩ : ∃ w6, w6 = wr.alloc (PZ (vnAt vs k)) := ⟨_, rfl⟩
     rw [← hw6]
     have h56 : Below wr.heap.size wr w6 := by rw [hw6]; exact bl1 wr _
     have hbox : w6.heap[wr.heap.size]? = some (PZ (vnAt vs k)) := by rw [hw6]; exact aC _ rfl
     clear hw6 c0 c1 c2
     obtain ⟨hcl, -⟩ := aA hbox
     have u0 : w6.cell? ⟨wr.heap.size, 0, none⟩ = some (.int .i64 (vnAt vs k).id) := hcl 0
     clear hcl hbox
     have hwrs : Hid (bk ≤ wr.heap.size) := by have := hB.size; show _ ≤ _; omega
     have hB6 : Below bk w w6 := hB.trans (h56.mono hwrs.out)
     have hO6 := gX hOw h56
     have hI6 := hI.later h56
     have hs6 : Hid (bk ≤ w6.heap.size) := Nat.le_trans hwrs.out h56.size
     clear h56 hB hOw hI hpr
     have hc1 := hHd w6 hO6 _ hidk
     have hc2 := hHd w6 hO6 _ hidm
     cases hde : (bO ls (vnAt vs k).id == bO ls id)
     ·go_wp2_with (first | (go_at_call_of 21 ((vnAt vs k).id); refine hc1.mono ?_; rintro e w7 ⟨rfl, rfl⟩) | (go_at_call_of 21 id; refine hc2.mono ?_; rintro e w7 ⟨rfl, rfl⟩))
      go_roundw
      case rel => exact ⟨k + 1, hlt'.out, by go_num, hB6, hO6, by rw [hst.out, List.filter_append]; simpa [hde] using hI6⟩
      case measure => simp [intOf]; have := hlt'.out; omega
     ·go_wp2_with (first | (go_at_call_of 21 ((vnAt vs k).id); refine hc1.mono ?_; rintro e w7 ⟨rfl, rfl⟩) | (go_at_call_of 21 id; refine hc2.mono ?_; rintro e w7 ⟨rfl, rfl⟩) | (at_builtin; refine Hid.out ?_))
      unfold Hid
      refine wG rfl _ _ rfl bk _ _ rfl (hI6.later (bl1 _ _)) ⟨w7.heap.size, 0, none⟩ 1 1 [(vnAt vs k).id] rfl rfl ?_ ?_ ?_ ?_
      ·intro j u hj
       have hn := aC (W := w7) (.cells #[.int .i64 (vnAt vs k).id] 3) rfl
       rw [lM, Nat.zero_add]
       exact ((aA hn).1 j).trans (by rw [List.getElem?_toArray]; exact hj)
      ·have h1 := List.length_filter_le (fun y => bO ls y == bO ls id) (bF (vs.take k))
       have h2 : (bF (vs.take k)).length ≤ k := by simp [bF, List.length_take]; omega
       omega
      ·have := hs6.out
       simp
       omega
      intro v8 w8 hI8 hg8
      have hIa := hI6.later (bl1 w7 (.cells #[.int .i64 (vnAt vs k).id] 3))
      have hOa := hO6.alloc (.cells #[.int .i64 (vnAt vs k).id] 3)
      have hO8 := hOa.kept hg8 (HG hIa hOa)
      have hB8 : Below bk w w8 := by
       have h1 : Below bk w (w7.alloc (.cells #[.int .i64 (vnAt vs k).id] 3)) := hB6.trans ((bl1 w7 _).mono hs6.out)
       rw [← hbk] at h1 ⊢
       exact dQ h1 hg8 (fun k e => by rw [hbk]; exact (hIa.lt k e).1)
      have hI8' : Hid (dO w8 bk v8 ((bF (vs.take (k + 1))).filter fun y => bO ls y == bO ls id)) := by
       show dO _ _ _ _
       rw [hst.out, List.filter_append]
       simpa [hde] using hI8
      clear hIa hOa hg8 hI8 hI6 hO6 hB6
      go_wp2
      go_roundw
      case rel => exact ⟨k + 1, hlt'.out, by go_num, hB8, hO8, hI8'.out⟩
      case measure => simp [intOf]; have := hlt'.out; omega
    ·obtain rfl : k = n := by omega
     have e : vs.take k = vs := by rw [← hvl.out, List.take_length]
     rw [e] at hI
     go_wp2
     refine bodyPost_ret (v := .tuple #[u8, .int .i64 0]) (by simp [results, Tryz.results8, go_sem]) rfl ⟨_, by rw [hge.out], ?_, ?_⟩
     ·rw [hge.out, if_pos rfl, hbk]
      exact hI
     ·rw [hbk]; exact hB
 ·have hge : Hid (E1 n vs ln ls id = bE n vs ln ls) := by show _ = _; rw [hbd.out, if_neg hz]
  have h1 : (bE n vs ln ls == 0) = false := by simpa using hz
  have h2 : (bE n vs ln ls != 0) = true := by simpa using hz
  go_wp2
  refine bodyPost_ret (v := .tuple #[.slice none 0 0, .int .i64 (bE n vs ln ls)]) (by simp [results, Tryz.results8, go_sem]) rfl ⟨_, by rw [hge.out], ?_, ?_⟩
  ·rw [hge.out, if_neg hz]
   exact World.ownsRow_nil _ _ _ _
  ·rw [hbk]; exact h03
theorem cM : (List.range n).all f = true ↔ ∀ i, i < n → f i = true := by
 rw [List.all_eq_true]
 exact ⟨fun h i hi => h i (by simpa using hi), fun h i hi => h i (by simpa using hi)⟩
theorem bZ : aK n f = false ↔ ∀ i, i < n → f i = false := by
 constructor
 ·intro h i hi
  cases e : f i
  ·rfl
  ·rw [aT hi e] at h; cases h
 ·exact cY
theorem yJ (h : fX ns = true) : ∀ (i j : Nat), i < j → j < ns.length → bA ns i < bA ns j
 | i, 0, hij, _ => by omega
 | i, j + 1, hij, hj => by
  have h1 : jK ns (j + 1) = true := by
   unfold fX at h
   exact cM.1 h (j + 1) hj
  unfold jK at h1
  simp only [Nat.add_sub_cancel, Bool.or_eq_true, decide_eq_true_eq, beq_iff_eq] at h1
  have h2 : bA ns j < bA ns (j + 1) := by
   rcases h1 with h1 | h1
   ·omega
   ·exact h1
  by_cases e : i < j
  ·have := yJ h i j e (by omega)
   omega
  ·obtain rfl : i = j := by omega
   exact h2
theorem IS.flat_cells (h : IS w (some ad) n es) : ∀ j u, (flatI es)[j]? = some u → w.cell? (ad.add j) = some u := by
 intro j u hj
 have hj2 : j < es.length := by
  by_cases e : j < es.length
  ·exact e
  ·rw [List.getElem?_eq_none (by rw [pQ]; omega)] at hj; cases hj
 rw [E0 hj2] at hj
 obtain ⟨b, o, hx, d⟩ := h.cells j (by rw [← h.len]; exact hj2)
 simp only [Option.some.injEq] at hx
 subst hx
 rw [lM, d]
 exact hj
theorem IS.rw (h : IS w x n es) : Rw w x n 1 (flatI es) :=
 ⟨by rw [pQ, h.len]; omega, fun h0 e => (by obtain ⟨b, o, hx, -⟩ := h.cells 0 h0; rw [e] at hx; cases hx), pR es, fun ad hx => by subst hx; exact h.flat_cells⟩
theorem HH (x : Option Addr) (n c : Nat) (es : List Int) (w : World) (hl : IS w x n es) (hn : n ≤ 1048576) :
  Calls Tryz.prog 170 #[.slice x n c] w fun e w' => ∃ v, e = .returned v ∧ dO w' w.heap.size v es ∧ Below w.heap.size w w' := by
 obtain rfl := hl.len
 exact nW.2.2.2.2.2.1 _ _ S5 x _ c _ w hl.rw hn
def withA (f : Fc) (x : Option Addr) (n c : Nat) (ns : List Int) : Fc := ⟨f.id, x, n, c, ns⟩
theorem kG {f : Fc} (hi : i < fs.length) : fcAt (fs.set i f) j = if i = j then f else fcAt fs j := by
 unfold fcAt
 rw [List.getD_eq_getElem?_getD, List.getD_eq_getElem?_getD, List.getElem?_set]
 by_cases h : i = j
 ·subst h; rw [if_pos rfl, if_pos rfl, if_pos hi]; rfl
 ·rw [if_neg h, if_neg h]
theorem KM (fs : List Fc) (i : Nat) (x : Option Addr) (n c : Nat) (ns : List Int) (hi : i < fs.length) : (flatF fs).set (i * 2 + 1) (.slice x n c) = flatF (fs.set i (withA (fcAt fs i) x n c ns)) := by
 refine List.ext_getElem? fun j => ?_
 by_cases hj : j < fs.length * 2
 ·have e : j = (j / 2) * 2 + j % 2 := by omega
  have hq : j / 2 < fs.length := by omega
  rw [e, sJ _ _ _ (by rw [List.length_set]; exact hq) (by omega), kG hi, List.getElem?_set]
  by_cases h1 : i = j / 2
  ·rw [if_pos h1]
   by_cases h2 : j % 2 = 1
   ·rw [if_pos (by omega), if_pos (by rw [gV]; omega), h2]
    rfl
   ·rw [if_neg (by omega), sJ _ _ _ hq (by omega), h1]
    have h3 : j % 2 < 1 := by omega
    generalize j % 2 = r at h3
    rcases r with _ | r
    all_goals first | rfl | omega
  ·rw [if_neg h1, if_neg (by omega), sJ _ _ _ hq (by omega)]
 ·rw [List.getElem?_eq_none (by rw [List.length_set, gV]; omega), List.getElem?_eq_none (by rw [gV, List.length_set]; omega)]
theorem dX.set (h : dX w base (.slice (some ⟨g, 0, none⟩) n cap) fs) (i : Nat) (hi : i < fs.length) (x : Option Addr) (m c : Nat) (ns : List Int) :
  dX (w.setCell ⟨g, i * 2 + 1, none⟩ (.slice x m c)) base (.slice (some ⟨g, 0, none⟩) n cap) (fs.set i (withA (fcAt fs i) x m c ns)) := by
 rcases h.2 with ⟨hv, -⟩ | ⟨g', cap', cur, hv, h1, h2, h3, h4, h5, h6⟩
 ·simp at hv
 ·simp only [Value.slice.injEq, Option.some.injEq, Addr.mk.injEq] at hv
  obtain ⟨⟨rfl, -⟩, rfl, rfl⟩ := hv
  refine ⟨gV _, .inr ⟨g, cap, cur.setIfInBounds (i * 2 + 1) (.slice x m c), by rw [List.length_set], h1, heap_setCell_same w g _ _ _ _ h2, by rw [List.length_set]; exact h3, h4, by simpa using h5, ?_⟩⟩
  rw [List.length_set, Array.toList_setIfInBounds, List.take_set, h6, KM fs i x m c ns hi]
theorem dX.frozen (h : dX w base (.slice (some ⟨g, 0, none⟩) n cap) fs) (i : Nat) : w.frozen? ⟨g, i, none⟩ = false := mJ h i
theorem dX.block (h : dX w base (.slice (some ⟨g, 0, none⟩) n cap) fs) : base ≤ g ∧ ∃ cur, w.heap[g]? = some (.cells cur 80) := pB h
theorem dO.is (h : dO w base (.slice x n c) es) : IS w x n es ∧ es.length = n ∧ n ≤ c ∧ c ≤ 9223372036854775807 := by
 obtain ⟨x', c', hv, h1, h2, -, h4⟩ := h.mem
 simp only [Value.slice.injEq] at hv
 obtain ⟨rfl, rfl, rfl⟩ := hv
 exact ⟨h4, rfl, h1, h2⟩
theorem IS.set (h : IS w x n ns) (hx : ∀ q, x = some q → 0 < n → q.block ≠ g) : IS (w.setCell ⟨g, o, none⟩ v) x n ns where
 len := h.len
 cells := fun i hi => by
  obtain ⟨b, of, he, c0⟩ := h.cells i hi
  exact ⟨b, of, he, (aX (hx _ he (by omega))).trans c0⟩
structure mQ (w : World) (base : Nat) (v : Value) (fs : List Fc) (k : Nat) : Prop where
 row : dX w base v fs
 own : ∀ i, i < k → dO w base (.slice (fcAt fs i).x (fcAt fs i).n (fcAt fs i).c) (fcAt fs i).ns
 rest : ∀ i, k ≤ i → i < fs.length → IS w (fcAt fs i).x (fcAt fs i).n (fcAt fs i).ns ∧ (fcAt fs i).n ≤ (fcAt fs i).c ∧ (fcAt fs i).n ≤ 64 ∧ (∀ q, (fcAt fs i).x = some q → 0 < (fcAt fs i).n → q.block < base)
def E2 (f g : Fc) : Prop := f.id = g.id ∧ f.n = g.n ∧ f.ns = g.ns
def bR (fs gs : List Fc) : Prop := fs.length = gs.length ∧ ∀ i, i < fs.length → E2 (fcAt fs i) (fcAt gs i)
theorem E2.refl (f : Fc) : E2 f f := ⟨rfl, rfl, rfl⟩
theorem bR.refl (fs : List Fc) : bR fs fs := ⟨rfl, fun _ _ => E2.refl _⟩
theorem mQ.later (h : mQ w base v fs k) (hb : Below w.heap.size w w') : mQ w' base v fs k :=
 ⟨h.row.later hb, fun i hi => (h.own i hi).later hb, fun i hi hi2 => by
  obtain ⟨g1, g2⟩ := h.rest i hi hi2
  exact ⟨g1.later hb, g2⟩⟩
theorem mQ.low (h : mQ w base v fs fs.length) (hb : base' ≤ base) : mQ w base' v fs fs.length :=
 ⟨h.row.low hb, fun i hi => (h.own i hi).low hb, fun i hi hi2 => by omega⟩
theorem mQ.kept (h : mQ w base v fs fs.length) (hg : w.grownBy w' (some g)) (hr : ∀ k, v.ownBlock = some k → k ≠ g) (ho : ∀ i, i < fs.length → ∀ k, (Value.slice (fcAt fs i).x (fcAt fs i).n (fcAt fs i).c).ownBlock = some k → k ≠ g) : mQ w' base v fs fs.length :=
 ⟨h.row.kept hg hr, fun i hi => (h.own i hi).kept hg (ho i hi), fun i hi hi2 => by omega⟩
theorem mQ.start (hk : uX w x n fs) (hm : ∀ i, i < n → (fcAt fs i).n ≤ 64) (hb : Below w.heap.size w w') (h : dX w' base v fs) (hw2 : w.heap.size ≤ base) : mQ w' base v fs 0 where
 row := h
 own := fun i hi => by omega
 rest := fun i _ hi => by
  have hin : i < n := by rw [← hk.len]; exact hi
  obtain ⟨g1, g2, g3⟩ := hk.addrs i hin
  refine ⟨g3.later hb, g1, hm i hin, fun q hq h0 => ?_⟩
  obtain ⟨b, o, hx, c0⟩ := g3.cells 0 h0
  rw [hq] at hx
  cases hx
  exact Nat.lt_of_lt_of_le (block_lt_of_cell c0) hw2
theorem mQ.step (h : mQ W base (.slice (some ⟨g, 0, none⟩) n cap) fs k) (hk : k < fs.length) (hb : Below W.heap.size W W1) (ho : dO W1 W.heap.size (.slice x' (fcAt fs k).ns.length c') (fcAt fs k).ns) (hwb : base ≤ W.heap.size) :
  mQ (W1.setCell ⟨g, k * 2 + 1, none⟩ (.slice x' (fcAt fs k).ns.length c')) base (.slice (some ⟨g, 0, none⟩) n cap) (fs.set k (withA (fcAt fs k) x' (fcAt fs k).ns.length c' (fcAt fs k).ns)) (k + 1) := by
 have hr := h.row.later hb
 obtain ⟨hbg, cur, hg⟩ := hr.block
 have hall : ∀ i, i < k + 1 → dO W1 base (.slice (fcAt (fs.set k (withA (fcAt fs k) x' (fcAt fs k).ns.length c' (fcAt fs k).ns)) i).x (fcAt (fs.set k (withA (fcAt fs k) x' (fcAt fs k).ns.length c' (fcAt fs k).ns)) i).n (fcAt (fs.set k (withA (fcAt fs k) x' (fcAt fs k).ns.length c' (fcAt fs k).ns)) i).c) (fcAt (fs.set k (withA (fcAt fs k) x' (fcAt fs k).ns.length c' (fcAt fs k).ns)) i).ns := fun i hi => by
  rw [kG hk]
  by_cases e : k = i
  ·rw [if_pos e]; exact ho.low hwb
  ·rw [if_neg e]; exact (h.own i (by omega)).later hb
 refine ⟨hr.set k hk x' _ c' _, fun i hi => (hall i hi).kept (aJ _ _ _ _) (fun q hq e => by subst e; exact (hall i hi).ne hg (by decide) hq), fun i hi hi2 => ?_⟩
 rw [List.length_set] at hi2
 rw [kG hk, if_neg (by omega)]
 obtain ⟨g1, g2, g3, g4⟩ := h.rest i (by omega) hi2
 exact ⟨(g1.later hb).set (fun q hq h0 => by have := g4 q hq h0; omega), g2, g3, g4⟩
theorem bR.set (h : bR fs gs) (hk : k < gs.length) (hn : (fcAt gs k).ns.length = (fcAt gs k).n) : bR fs (gs.set k (withA (fcAt gs k) x (fcAt gs k).ns.length c (fcAt gs k).ns)) := by
 refine ⟨by rw [List.length_set]; exact h.1, fun i hi => ?_⟩
 have hs := h.2 i hi
 rw [kG hk]
 by_cases e : k = i
 ·subst e
  rw [if_pos rfl]
  obtain ⟨a1, a2, a3⟩ := hs
  exact ⟨a1, a2.trans hn.symm, a3⟩
 ·rw [if_neg e]; exact hs
theorem yK (x : Option Addr) (n c : Nat) (fs : List Fc) (w : World) (hp : uX w x n fs) (hn : n ≤ 64) (hm : ∀ i, i < n → (fcAt fs i).n ≤ 64) :
  Calls Tryz.prog 125 #[.slice x n c] w fun e w' => ∃ v gs, e = .returned v ∧ bR fs gs ∧ mQ w' w.heap.size v gs gs.length ∧ Below w.heap.size w w' := by
 have hfl : Hid (fs.length = n) := hp.len
 go_enter Tryz.func125, Tryz.ntmps125
 go_wp2_with fail
 refine (G3 x n c fs w hp (by omega)).mono ?_
 rintro e w1 ⟨v, rfl, hO, hb1⟩
 have hk0 : mQ w1 w.heap.size v fs 0 := mQ.start hp hm hb1 hO (Nat.le_refl _)
 obtain ⟨xv, cv, rfl, hv1, hv2, hv3, hv4⟩ := hO.mem
 go_wp2
 go_loopw [9] (fun i wr => ∃ (q : Nat) (gs : List Fc), q ≤ fs.length ∧ i = .int .i64 q ∧ bR fs gs ∧ mQ wr w.heap.size (.slice xv fs.length cv) gs q ∧ Below w.heap.size w wr) (fun i _ => fs.length - (intOf i).toNat)
 case atStart => exact ⟨0, fs, by omega, rfl, bR.refl _, hk0, hb1⟩
 case round =>
  obtain ⟨q, gs, hq, rfl, hs, hQ, hBr⟩ := hrel
  by_cases hlt : q < fs.length
  ·have hlq : q < gs.length := by rw [← hs.1]; exact hlt
   have hlt' : Hid (q < fs.length) := hlt
   obtain ⟨x2, c2, he2, -, -, -, hm2⟩ := hQ.row.mem
   simp only [Value.slice.injEq] at he2
   obtain ⟨rfl, -, rfl⟩ := he2
   obtain ⟨b2, o2, he3, -, c1⟩ := hm2 q hlq
   rcases hQ.row.2 with ⟨hv, -⟩ | ⟨g, cap, cur, hv, hg1, hg2, -⟩
   ·rw [he3] at hv; simp at hv
   simp only [Value.slice.injEq] at hv
   obtain ⟨hx3, -, rfl⟩ := hv
   rw [hx3] at he3
   simp only [Option.some.injEq, Addr.mk.injEq] at he3
   obtain ⟨rfl, rfl, -⟩ := he3
   subst hx3
   obtain ⟨hIS, hnc, hn64, -⟩ := hQ.rest q (Nat.le_refl _) hlq
   have hbs : Hid (w.heap.size ≤ wr.heap.size) := hBr.size
   have c1' : wr.cell? ⟨g, q * 2 + 1, none⟩ = some (.slice (fcAt gs q).x (fcAt gs q).n (fcAt gs q).c) := by simpa using c1
   clear c1
   go_wp2_with fail
   refine (HH (fcAt gs q).x (fcAt gs q).n (fcAt gs q).c (fcAt gs q).ns wr hIS (by omega)).mono ?_
   rintro e w2 ⟨v1, rfl, hO1, hb2⟩
   obtain ⟨x1, c1, rfl, -⟩ := hO1.mem
   have d1 := aE hb2 c1'
   have df : w2.frozen? ⟨g, q * 2 + 1, none⟩ = false := (hQ.row.later hb2).frozen _
   have hst := hQ.step (x' := x1) (c' := c1) hlq hb2 hO1 hbs.out
   have hB3 := (hBr.trans (hb2.mono hBr.size)).setCell (p := ⟨g, q * 2 + 1, none⟩) hg1 (.slice x1 (fcAt gs q).ns.length c1)
   have hs' := hs.set (x := x1) (c := c1) hlq hIS.len
   clear c1' hO1
   go_wp2
   go_roundw
   case rel => exact ⟨q + 1, _, hlt'.out, by go_num, hs', hst, hB3⟩
   case measure => simp [intOf]; have := hlt'.out; omega
  ·obtain rfl : q = fs.length := by omega
   go_wp2
   go_ret
   exact ⟨_, gs, rfl, hs, by rw [← hs.1]; exact hQ, hBr⟩
def bK (s : Sb) (x : Option Addr) (n c : Nat) (fs : List Fc) : Sb := ⟨s.id, s.a, s.l, x, n, c, fs⟩
theorem cW {f : Sb} (hi : i < ss.length) : sbAt (ss.set i f) j = if i = j then f else sbAt ss j := by
 unfold sbAt
 rw [List.getD_eq_getElem?_getD, List.getD_eq_getElem?_getD, List.getElem?_set]
 by_cases h : i = j
 ·subst h; rw [if_pos rfl, if_pos rfl, if_pos hi]; rfl
 ·rw [if_neg h, if_neg h]
theorem A5 (ss : List Sb) (i : Nat) (x : Option Addr) (n c : Nat) (fs : List Fc) (hi : i < ss.length) : (flatS ss).set (i * 4 + 3) (.slice x n c) = flatS (ss.set i (bK (sbAt ss i) x n c fs)) := by
 refine List.ext_getElem? fun j => ?_
 by_cases hj : j < ss.length * 4
 ·have e : j = (j / 4) * 4 + j % 4 := by omega
  have hq : j / 4 < ss.length := by omega
  rw [e, oH _ _ _ (by rw [List.length_set]; exact hq) (by omega), cW hi, List.getElem?_set]
  by_cases h1 : i = j / 4
  ·rw [if_pos h1]
   by_cases h2 : j % 4 = 3
   ·rw [if_pos (by omega), if_pos (by rw [fK]; omega), h2]
    rfl
   ·rw [if_neg (by omega), oH _ _ _ hq (by omega), h1]
    have h3 : j % 4 < 3 := by omega
    generalize j % 4 = r at h3
    rcases r with _ | _ | _ | r
    all_goals first | rfl | omega
  ·rw [if_neg h1, if_neg (by omega), oH _ _ _ hq (by omega)]
 ·rw [List.getElem?_eq_none (by rw [List.length_set, fK]; omega), List.getElem?_eq_none (by rw [fK, List.length_set]; omega)]
theorem bY.set (h : bY w base (.slice (some ⟨g, 0, none⟩) n cap) ss) (i : Nat) (hi : i < ss.length) (x : Option Addr) (m c : Nat) (fs : List Fc) :
  bY (w.setCell ⟨g, i * 4 + 3, none⟩ (.slice x m c)) base (.slice (some ⟨g, 0, none⟩) n cap) (ss.set i (bK (sbAt ss i) x m c fs)) := by
 rcases h.2 with ⟨hv, -⟩ | ⟨g', cap', cur, hv, h1, h2, h3, h4, h5, h6⟩
 ·simp at hv
 ·simp only [Value.slice.injEq, Option.some.injEq, Addr.mk.injEq] at hv
  obtain ⟨⟨rfl, -⟩, rfl, rfl⟩ := hv
  refine ⟨fK _, .inr ⟨g, cap, cur.setIfInBounds (i * 4 + 3) (.slice x m c), by rw [List.length_set], h1, heap_setCell_same w g _ _ _ _ h2, by rw [List.length_set]; exact h3, h4, by simpa using h5, ?_⟩⟩
  rw [List.length_set, Array.toList_setIfInBounds, List.take_set, h6, A5 ss i x m c fs hi]
theorem bY.frozen (h : bY w base (.slice (some ⟨g, 0, none⟩) n cap) ss) (i : Nat) : w.frozen? ⟨g, i, none⟩ = false := mJ h i
theorem bY.block (h : bY w base (.slice (some ⟨g, 0, none⟩) n cap) ss) : base ≤ g ∧ ∃ cur, w.heap[g]? = some (.cells cur 78) := pB h
structure jE (w : World) (base : Nat) (v : Value) (ss : List Sb) (k : Nat) : Prop where
 row : bY w base v ss
 own : ∀ i, i < k → mQ w base (.slice (sbAt ss i).x (sbAt ss i).n (sbAt ss i).c) (sbAt ss i).fs (sbAt ss i).fs.length
 apart : ∀ i j, i < k → j < k → i ≠ j → ∀ b, (Value.slice (sbAt ss i).x (sbAt ss i).n (sbAt ss i).c).ownBlock = some b → (Value.slice (sbAt ss j).x (sbAt ss j).n (sbAt ss j).c).ownBlock ≠ some b
def E3 (s t : Sb) : Prop := s.id = t.id ∧ s.a = t.a ∧ s.l = t.l ∧ s.n = t.n ∧ bR s.fs t.fs
def bG (ss ts : List Sb) : Prop := ss.length = ts.length ∧ ∀ i, i < ss.length → E3 (sbAt ss i) (sbAt ts i)
theorem E3.refl (s : Sb) : E3 s s := ⟨rfl, rfl, rfl, rfl, bR.refl _⟩
theorem bG.refl (ss : List Sb) : bG ss ss := ⟨rfl, fun _ _ => E3.refl _⟩
theorem jE.later (h : jE w base v ss k) (hb : Below w.heap.size w w') : jE w' base v ss k :=
 ⟨h.row.later hb, fun i hi => (h.own i hi).later hb, h.apart⟩
theorem jE.low (h : jE w base v ss k) (hb : base' ≤ base) : jE w base' v ss k :=
 ⟨h.row.low hb, fun i hi => (h.own i hi).low hb, h.apart⟩
theorem mQ.kept_of (h : mQ w base v fs fs.length) (hg : w.grownBy w' (some g)) (hb : w.heap[g]? = some (.cells cur t)) (h1 : t ≠ 80) (h2 : t ≠ 3) : mQ w' base v fs fs.length :=
 h.kept hg (fun _ hk e => by subst e; exact h.row.ne hb h1 hk) (fun i hi _ hk e => by subst e; exact (h.own i hi).ne hb h2 hk)
theorem jE.step (h : jE W base (.slice (some ⟨g, 0, none⟩) n cap) ss k) (hk : k < ss.length) (hb : Below W.heap.size W W1) (ho : mQ W1 W.heap.size (.slice x' gs.length c') gs gs.length) (hwb : base ≤ W.heap.size) :
  jE (W1.setCell ⟨g, k * 4 + 3, none⟩ (.slice x' gs.length c')) base (.slice (some ⟨g, 0, none⟩) n cap) (ss.set k (bK (sbAt ss k) x' gs.length c' gs)) (k + 1) := by
 have hr := h.row.later hb
 obtain ⟨hbg, cur, hg⟩ := hr.block
 refine ⟨hr.set k hk x' _ c' _, fun i hi => ?_, fun i j hi hj hij b hbi hbj => ?_⟩
 ·rw [cW hk]
  by_cases e : k = i
  ·rw [if_pos e]
   exact (ho.low hwb).kept_of (aJ _ _ _ _) hg (by decide) (by decide)
  ·rw [if_neg e]
   exact ((h.own i (by omega)).later hb).kept_of (aJ _ _ _ _) hg (by decide) (by decide)
 ·rw [cW hk] at hbi hbj
  by_cases e : k = i
  ·rw [if_pos e] at hbi
   rw [if_neg (by omega)] at hbj
   have h1 := ho.row.lt b hbi
   have h2 := (h.own j (by omega)).row.lt b hbj
   omega
  ·rw [if_neg e] at hbi
   by_cases e2 : k = j
   ·rw [if_pos e2] at hbj
    have h1 := ho.row.lt b hbj
    have h2 := (h.own i (by omega)).row.lt b hbi
    omega
   ·rw [if_neg e2] at hbj
    exact h.apart i j (by omega) (by omega) hij b hbi hbj
theorem mQ.fcs (h : mQ w base (.slice x n c) fs fs.length) : uX w x n fs ∧ fs.length = n ∧ n ≤ c ∧ c ≤ 9223372036854775807 := by
 obtain ⟨x', c', hv, h1, h2, -, h4⟩ := h.row.mem
 simp only [Value.slice.injEq] at hv
 obtain ⟨rfl, rfl, rfl⟩ := hv
 refine ⟨⟨rfl, h4, fun i hi => ?_⟩, rfl, h1, h2⟩
 obtain ⟨g1, g2, g3, g4⟩ := (h.own i hi).is
 exact ⟨g3, Nat.le_trans g3 g4, g1⟩
theorem jE.subs (h : jE w base v ss ss.length) : ∃ x c, v = .slice x ss.length c ∧ SS w x ss.length ss ∧ ss.length ≤ c ∧ c ≤ 9223372036854775807 := by
 obtain ⟨x, c, hv, h1, h2, -, h4⟩ := h.row.mem
 refine ⟨x, c, hv, ⟨rfl, h4, fun i hi => ?_⟩, h1, h2⟩
 obtain ⟨g1, g2, g3, g4⟩ := (h.own i hi).fcs
 exact ⟨g3, Nat.le_trans g3 g4, g1⟩
theorem bN.rs {rs : List Rg} (h : bN w base v rs) : ∃ x c, v = .slice x rs.length c ∧ RS w x rs.length rs ∧ rs.length ≤ c ∧ c ≤ 9223372036854775807 := by
 obtain ⟨x, c, hv, h1, h2, -, h4⟩ := h.mem
 exact ⟨x, c, hv, ⟨rfl, h4⟩, h1, h2⟩
theorem bR.trans {a b c : List Fc} (h1 : bR a b) (h2 : bR b c) : bR a c :=
 ⟨h1.1.trans h2.1, fun i hi => by
  obtain ⟨p1, p2, p3⟩ := h1.2 i hi
  obtain ⟨q1, q2, q3⟩ := h2.2 i (by rw [← h1.1]; exact hi)
  exact ⟨p1.trans q1, p2.trans q2, p3.trans q3⟩⟩
theorem bG.set (h : bG ss ts) (hk : k < ts.length) (hg : bR (sbAt ts k).fs gs) (hn : (sbAt ts k).fs.length = (sbAt ts k).n) : bG ss (ts.set k (bK (sbAt ts k) x gs.length c gs)) := by
 refine ⟨by rw [List.length_set]; exact h.1, fun i hi => ?_⟩
 have hs := h.2 i hi
 rw [cW hk]
 by_cases e : k = i
 ·subst e
  rw [if_pos rfl]
  obtain ⟨a1, a2, a3, a4, a5⟩ := hs
  exact ⟨a1, a2, a3, by rw [a4, ← hn]; exact hg.1, a5.trans hg⟩
 ·rw [if_neg e]; exact hs
abbrev cZ (vid : Int) (vR vS : Value) : Obj := .cells #[.int .i64 vid, vR, vS] 41
theorem CK {t : Int} {v' u' : Value} (h : V.heap[b]? = some (cZ t v u)) : (((V.setCell ⟨b, 0, none⟩ (.int .i64 t')).setCell ⟨b, 1, none⟩ v').setCell ⟨b, 2, none⟩ u').heap[b]? = some (cZ t' v' u') := by
 have h1 := heap_setCell_same V b 0 _ 41 (.int .i64 t') h
 have h2 := heap_setCell_same _ b 1 _ 41 v' h1
 have h3 := heap_setCell_same _ b 2 _ 41 u' h2
 simpa using h3
def S6 (vid : Int) (rs : List Rg) (ss : List Sb) (w : World) (e : Ending) (w' : World) : Prop :=
 ∃ vR vS ts, e = .returned (.agg #[.int .i64 vid, vR, vS]) ∧ bN w' w.heap.size vR rs ∧ bG ss ts ∧ jE w' w.heap.size vS ts ts.length ∧ Below w.heap.size w w'
theorem bN.put {rs : List Rg} (h : bN w base v rs) (hb : b < base) : bN (w.setCell ⟨b, o, none⟩ u) base v rs :=
 h.kept (aJ _ _ _ _) (fun k hk => by have := h.lt k hk; omega)
theorem jE.put (h : jE w base v ss ss.length) (hb : b < base) : jE (w.setCell ⟨b, o, none⟩ u) base v ss ss.length :=
 ⟨h.row.kept (aJ _ _ _ _) (fun k hk => by have := h.row.lt k hk; omega), fun i hi => (h.own i hi).kept (aJ _ _ _ _) (fun k hk => by have := (h.own i hi).row.lt k hk; omega) (fun j hj k hk => by have := ((h.own i hi).own j hj).lt k hk; omega), h.apart⟩
theorem N6 {rs : List Rg} (hb : Below (w0.alloc (cZ 0 (.slice none 0 0) (.slice none 0 0))).heap.size (w0.alloc (cZ 0 (.slice none 0 0) (.slice none 0 0))) w1) (hO : bN w1 (w0.alloc (cZ 0 (.slice none 0 0) (.slice none 0 0))).heap.size v rs) : Below w0.heap.size w0 w1 ∧ w1.heap[w0.heap.size]? = some (cZ 0 (.slice none 0 0) (.slice none 0 0)) ∧ bN w1 w0.heap.size v rs :=
 ⟨(bl1 w0 _).trans (hb.mono (by simp)), aB hb (aC _ rfl), hO.low (by simp)⟩
theorem N7 (hb : Below (w0.alloc (cZ 0 (.slice none 0 0) (.slice none 0 0))).heap.size (w0.alloc (cZ 0 (.slice none 0 0) (.slice none 0 0))) w1) (hO : bY w1 (w0.alloc (cZ 0 (.slice none 0 0) (.slice none 0 0))).heap.size v ss) : Below w0.heap.size w0 w1 ∧ w1.heap[w0.heap.size]? = some (cZ 0 (.slice none 0 0) (.slice none 0 0)) ∧ bY w1 w0.heap.size v ss :=
 ⟨(bl1 w0 _).trans (hb.mono (by simp)), aB hb (aC _ rfl), hO.low (by simp)⟩
theorem N8 {rs : List Rg} (hy : w2.heap[b]? = some (cZ 0 (.slice none 0 0) (.slice none 0 0))) (hb : w0.heap.size ≤ b) (hO1 : bN w2 w0.heap.size vR rs) (hO2 : bY w2 w0.heap.size vS ss) (hB : Below w0.heap.size w0 w2) :
  bN (((w2.setCell ⟨b, 0, none⟩ (.int .i64 vid)).setCell ⟨b, 1, none⟩ vR).setCell ⟨b, 2, none⟩ vS) w0.heap.size vR rs ∧ bY (((w2.setCell ⟨b, 0, none⟩ (.int .i64 vid)).setCell ⟨b, 1, none⟩ vR).setCell ⟨b, 2, none⟩ vS) w0.heap.size vS ss ∧ (((w2.setCell ⟨b, 0, none⟩ (.int .i64 vid)).setCell ⟨b, 1, none⟩ vR).setCell ⟨b, 2, none⟩ vS).heap[b]? = some (cZ vid vR vS) ∧ Below w0.heap.size w0 (((w2.setCell ⟨b, 0, none⟩ (.int .i64 vid)).setCell ⟨b, 1, none⟩ vR).setCell ⟨b, 2, none⟩ vS) := by
 have n1 : ∀ k, vR.ownBlock = some k → k ≠ b := fun k hk e => by subst e; exact hO1.ne hy (by decide) hk
 have n2 : ∀ k, vS.ownBlock = some k → k ≠ b := fun k hk e => by subst e; exact hO2.ne hy (by decide) hk
 exact ⟨((hO1.kept (aJ _ _ _ _) n1).kept (aJ _ _ _ _) n1).kept (aJ _ _ _ _) n1, ((hO2.kept (aJ _ _ _ _) n2).kept (aJ _ _ _ _) n2).kept (aJ _ _ _ _) n2, CK hy, ((hB.setCell hb _).setCell hb _).setCell hb _⟩
theorem dE (vid : Int) (rx : Option Addr) (rn rc : Nat) (rs : List Rg) (sx : Option Addr) (sn sc : Nat) (ss : List Sb) (w : World) (hv : Vp w rx rn rc rs sx sn sc ss) (hrn : rn ≤ 64) (hsn : sn ≤ 64) (hm : ∀ i, i < sn → (sbAt ss i).n ≤ 64) (hm2 : ∀ i, i < sn → ∀ j, j < (sbAt ss i).n → (fcAt (sbAt ss i).fs j).n ≤ 64) :
  Calls Tryz.prog 81 #[.agg #[.int .i64 vid, .slice rx rn rc, .slice sx sn sc]] w (S6 vid rs ss w) := by
 have hsl : Hid (ss.length = sn) := hv.subs.len
 go_enter Tryz.func81, Tryz.ntmps81
 go_upto_region 1 with fail
 obtain ⟨w0, hw0⟩ : ∃ w0, w0 = (w.alloc (cZ vid (.slice rx rn rc) (.slice sx sn sc))).alloc (cZ 0 (.slice none 0 0) (.slice none 0 0)) := ⟨_, rfl⟩
 rw [← hw0]
 have hB0 : Below w.heap.size w w0 := by rw [hw0]; exact cB w _ _
 have hb0 : w0.heap[w.heap.size]? = some (cZ vid (.slice rx rn rc) (.slice sx sn sc)) := by rw [hw0]; exact aF _ (aC _ rfl)
 have hr0 : w0.heap[w.heap.size + 1]? = some (cZ 0 (.slice none 0 0) (.slice none 0 0)) := by rw [hw0]; exact aC _ (by simp)
 clear hw0
 have hsz : w.heap.size + 1 < w0.heap.size := (Array.getElem?_eq_some_iff.1 hr0).1
 obtain ⟨kb, -⟩ := aA hb0
 have k0 : w0.cell? ⟨w.heap.size, 0, none⟩ = some (.int .i64 vid) := kb 0
 have k1 : w0.cell? ⟨w.heap.size, 1, none⟩ = some (.slice rx rn rc) := kb 1
 have k2 : w0.cell? ⟨w.heap.size, 2, none⟩ = some (.slice sx sn sc) := kb 2
 clear kb
 have hv0 := hv.later hB0
 have hclR := fun W h => G1 rx rn rc rs W h (by omega)
 have hclS := fun W h => G2 sx sn sc ss W h (by omega)
 go_cut [3] (fun p wc => ∃ nb vR vS, p = .pointer (some ⟨nb, 0, none⟩) ∧ w0.heap.size ≤ nb ∧ bN wc w0.heap.size vR rs ∧ bY wc w0.heap.size vS ss ∧ wc.heap[nb]? = some (cZ vid vR vS) ∧ Below w0.heap.size w0 wc)
 case first =>
  go_region_held3 (fun w' => w'.cell? ⟨w.heap.size, 0, none⟩ = some (.int .i64 vid) ∧ w'.cell? ⟨w.heap.size, 1, none⟩ = some (.slice rx rn rc) ∧ w'.cell? ⟨w.heap.size, 2, none⟩ = some (.slice sx sn sc)) (first | (go_keep; done) | (exact ⟨by assumption, by assumption, by assumption⟩) | (exact ⟨aE (bl1 _ _) (by assumption), aE (bl1 _ _) (by assumption), aE (bl1 _ _) (by assumption)⟩) | (refine ⟨?_, ?_, ?_⟩ <;> (show World.cell? _ _ = _; (repeat rw [aX (by omega)]); assumption))) (first | (go_at_call 123; refine (hclR (w0.alloc (cZ 0 (.slice none 0 0) (.slice none 0 0))).drew (hv0.ranges.later (bl1 w0 _).drew)).mono ?_; rintro e w1 ⟨v1, rfl, hO1, hb1⟩; obtain ⟨x1, c1, rfl, -⟩ := hO1.mem; obtain ⟨hbb1, hx, hO1a⟩ := N6 (w0 := w0) ⟨hb1.os, hb1.tape, hb1.output, hb1.size, hb1.block⟩ hO1; have m0 := aE hbb1 k0; have m1 := aE hbb1 k1; have m2 := aE hbb1 k2; have hvs := hv0.subs.later hbb1) | (go_at_call 123; refine (hclR _ (by first | exact hv0.ranges | exact hv0.ranges.later (Below.refl _ _).drew)).mono ?_; rintro e w1 ⟨v1, rfl, hO1, hb1⟩; obtain ⟨x1, c1, rfl, -⟩ := hO1.mem; have hbb1 : Below w0.heap.size w0 w1 := ⟨hb1.os, hb1.tape, hb1.output, hb1.size, hb1.block⟩; have m0 := aE hbb1 k0; have m1 := aE hbb1 k1; have m2 := aE hbb1 k2; have hvs := hv0.subs.later hbb1) | (go_at_call 124; refine (hclS (w1.alloc (cZ 0 (.slice none 0 0) (.slice none 0 0))) (hvs.later (bl1 w1 _))).mono ?_; rintro e w2 ⟨v2, rfl, hO2, hb2⟩; obtain ⟨x2, c2, rfl, -⟩ := hO2.mem; obtain ⟨hb12, hy, hO2a⟩ := N7 (w0 := w1) hb2 hO2; have hbb2 := hbb1.trans (hb12.mono hbb1.size); have n0 := aE hb12 m0; have n1 := aE hb12 m1; have n2 := aE hb12 m2; have hO1' := bN.later hO1 hb12; have hz1 := hbb1.size; have hz2 := hb12.size; have q0 : w2.cell? ⟨w1.heap.size, 0, none⟩ = some (.int .i64 0) := (aA hy).1 0; have q1 : w2.cell? ⟨w1.heap.size, 1, none⟩ = some (.slice none 0 0) := (aA hy).1 1; have q2 : w2.cell? ⟨w1.heap.size, 2, none⟩ = some (.slice none 0 0) := (aA hy).1 2; have f0 : w2.frozen? ⟨w1.heap.size, 0, none⟩ = false := (aA hy).2 0; have f1 : w2.frozen? ⟨w1.heap.size, 1, none⟩ = false := (aA hy).2 1; have f2 : w2.frozen? ⟨w1.heap.size, 2, none⟩ = false := (aA hy).2 2) | (go_at_call 124; refine (hclS w1 hvs).mono ?_; rintro e w2 ⟨v2, rfl, hO2, hb2⟩; obtain ⟨x2, c2, rfl, -⟩ := hO2.mem; have hb12 : Below w1.heap.size w1 w2 := hb2; have hbb2 := hbb1.trans (hb12.mono hbb1.size); have n0 := aE hb12 m0; have n1 := aE hb12 m1; have n2 := aE hb12 m2; have hO1' := bN.later hO1 hb12; have hz1 := hbb1.size; have hz2 := hb12.size; try (have hy : w2.heap[w0.heap.size]? = some (cZ 0 (.slice none 0 0) (.slice none 0 0)) := aB hb12 hx; have q0 : w2.cell? ⟨w0.heap.size, 0, none⟩ = some (.int .i64 0) := (aA hy).1 0; have q1 : w2.cell? ⟨w0.heap.size, 1, none⟩ = some (.slice none 0 0) := (aA hy).1 1; have q2 : w2.cell? ⟨w0.heap.size, 2, none⟩ = some (.slice none 0 0) := (aA hy).1 2; have f0 : w2.frozen? ⟨w0.heap.size, 0, none⟩ = false := (aA hy).2 0; have f1 : w2.frozen? ⟨w0.heap.size, 1, none⟩ = false := (aA hy).2 1; have f2 : w2.frozen? ⟨w0.heap.size, 2, none⟩ = false := (aA hy).2 2)) | fail)
  all_goals go_wp2
  all_goals go_meet
  case rel => exact ⟨_, _, _, rfl, Nat.le_trans hz1 hz2, bN.later hO1' (bl1 _ _), (hO2.low hz1).later (bl1 _ _), aC _ rfl, Below.alloc hbb2 hbb2.size _⟩
  case rel => exact ⟨_, _, _, rfl, hz1, N8 hy hz1 hO1' (hO2a.low hz1) hbb2⟩
  case rel => exact ⟨_, _, _, rfl, Nat.le_refl _, N8 hy (Nat.le_refl _) (hO1a.later hb12) (hO2.low hz1) hbb2⟩
 case rest =>
  obtain ⟨nb, vR, vS, rfl, hnb, hOR, hOS, hbx, hBc⟩ := hcut
  have hk0 : jE wc w0.heap.size vS ss 0 := ⟨hOS, fun i hi => by omega, fun i j hi => by omega⟩
  obtain ⟨xr, cr, rfl, -⟩ := hOR.mem
  obtain ⟨xv, cv, rfl, -⟩ := hOS.mem
  have e1 := aU hbx 2 rfl
  go_wp2
  clear e1
  go_loopw [17] (fun i wr => ∃ (q : Nat) (ts : List Sb), q ≤ ss.length ∧ i = .int .i64 q ∧ bG ss ts ∧ (∀ i, q ≤ i → sbAt ts i = sbAt ss i) ∧ jE wr w0.heap.size (.slice xv ss.length cv) ts q ∧ bN wr w0.heap.size (.slice xr rs.length cr) rs ∧ wr.heap[nb]? = some (cZ vid (.slice xr rs.length cr) (.slice xv ss.length cv)) ∧ Below w0.heap.size w0 wr) (fun i _ => ss.length - (intOf i).toNat)
  case atStart => exact ⟨0, ss, by omega, rfl, bG.refl _, fun _ _ => rfl, hk0, hOR, hbx, hBc⟩
  case round =>
   obtain ⟨q, ts, hq, rfl, hs, htl, hQ, hR, hbr, hBr⟩ := hrel
   obtain ⟨e0, e1, e2⟩ := bI hbr rfl rfl rfl
   by_cases hlt : q < ss.length
   ·have hlq : q < ts.length := by rw [← hs.1]; exact hlt
    have hlt' := hlt
    have hqs : q < sn := by rw [← hsl.out]; exact hlt
    obtain ⟨x2, c2, he2, -, -, -, hm'⟩ := hQ.row.mem
    simp only [Value.slice.injEq] at he2
    obtain ⟨rfl, -, rfl⟩ := he2
    obtain ⟨b2, o2, he3, -, -, -, c8⟩ := hm' q hlq
    rcases hQ.row.2 with ⟨hv', -⟩ | ⟨g, cap, cur, hv', hg1, hg2, -⟩
    ·rw [he3] at hv'; simp at hv'
    simp only [Value.slice.injEq] at hv'
    obtain ⟨hx3, -, rfl⟩ := hv'
    rw [hx3] at he3
    simp only [Option.some.injEq, Addr.mk.injEq] at he3
    obtain ⟨rfl, rfl, -⟩ := he3
    subst hx3
    obtain ⟨hnc, -, hF⟩ := (hv0.subs.later hBr).faces q hqs
    have hm64 := hm q hqs
    have hm264 := hm2 q hqs
    rw [← htl q (Nat.le_refl _)] at hnc hF hm64 hm264
    have htl' : Hid (∀ i, q ≤ i → sbAt ts i = sbAt ss i) := htl
    clear htl
    have hcl := fun W h => yK (sbAt ts q).x (sbAt ts q).n (sbAt ts q).c (sbAt ts q).fs W h hm64 hm264
    go_wp2_with fail
    have c8' : wr.cell? ⟨g, q * 4 + 3, none⟩ = some (.slice (sbAt ts q).x (sbAt ts q).n (sbAt ts q).c) := by simpa using c8
    have hne : nb ≠ g := fun e => by rw [e] at hbr; rw [hbr] at hg2; simp at hg2
    go_region_with (first | (go_at_call 125; refine (hcl _ (by first | exact hF | exact hF.later (Below.refl _ _).drew)).mono ?_; rintro e w1 ⟨v1, gs, rfl, hsg, hO1, hb1⟩; obtain ⟨x1, c1, rfl, -⟩ := hO1.row.mem; have hb2 : Below wr.heap.size wr w1 := ⟨hb1.os, hb1.tape, hb1.output, hb1.size, hb1.block⟩; have d1 := aE hb2 e2; have d8 := aE hb2 c8'; have df : w1.frozen? ⟨g, q * 4 + 3, none⟩ = false := (hQ.row.later hb2).frozen _) | fail)
    all_goals have hst := hQ.step (x' := x1) (c' := c1) (gs := gs) hlq hb2 hO1 hBr.size
    all_goals have hh : (w1.setCell ⟨g, q * 4 + 3, none⟩ (.slice x1 gs.length c1)).heap[nb]? = some (cZ vid (.slice xr rs.length cr) (.slice (some ⟨g, 0, none⟩) ss.length cv)) := (heap_setCell_other _ _ _ _ hne).trans (aB hb2 hbr)
    all_goals have hB3 := (hBr.trans (hb2.mono hBr.size)).setCell (p := ⟨g, q * 4 + 3, none⟩) hg1 (.slice x1 gs.length c1)
    all_goals have hRn : bN (w1.setCell ⟨g, q * 4 + 3, none⟩ (.slice x1 gs.length c1)) w0.heap.size (.slice xr rs.length cr) rs := (hR.later hb2).kept (aJ _ _ _ _) (fun k hk e => by subst e; exact hR.ne hg2 (by decide) hk)
    all_goals have hss : ∀ i, q + 1 ≤ i → sbAt (ts.set q (bK (sbAt ts q) x1 gs.length c1 gs)) i = sbAt ss i := fun i hi => by rw [cW hlq, if_neg (by omega)]; exact htl'.out i (by omega)
    all_goals have hsame := hs.set (x := x1) (c := c1) hlq hsg hF.len
    all_goals clear d1 d8 df
    all_goals go_wp2
    all_goals go_roundw
    all_goals first | exact ⟨q + 1, _, hlt', by go_num, hsame, hss, hst, hRn, hh, hB3⟩ | (simp [intOf]; omega)
   ·obtain rfl : q = ss.length := by omega
    have hrr : wr.heap[w.heap.size + 1]? = some (cZ 0 (.slice none 0 0) (.slice none 0 0)) := (hBr.block _ hsz).trans hr0
    obtain ⟨r0, r1, r2⟩ := bI hrr rfl rfl rfl
    obtain ⟨z0, z1, z2⟩ := eO hrr
    go_wp2
    refine bodyPost_ret (v := .agg #[.int .i64 vid, .slice xr rs.length cr, .slice xv ss.length cv]) (by simp [results, Tryz.results81, go_sem, r0, r1, r2]) rfl ?_
    have hQ2 : jE wr w0.heap.size (.slice xv ss.length cv) ts ts.length := by rw [← hs.1]; exact hQ
    exact ⟨_, _, ts, rfl, (((hR.put hsz).put hsz).put hsz).low hB0.size, hs, (((hQ2.put hsz).put hsz).put hsz).low hB0.size, (((hB0.trans (hBr.mono hB0.size)).setCell (by simp) _).setCell (by simp) _).setCell (by simp) _⟩
def fstAt (n : Nat) (f : Nat → Bool) : Int := match (List.range n).find? f with | some i => i | none => -1
theorem KN (hi : i < n) (h : f i = true) (hno : ∀ j, j < i → f j = false) : fstAt n f = i := by
 unfold fstAt
 have : (List.range n).find? f = some i := by
  rw [List.find?_range_eq_some]
  exact ⟨h, by simpa using hi, fun j hj => by simp [hno j hj]⟩
 rw [this]
theorem N9 (hno : ∀ j, j < n → f j = false) : fstAt n f = -1 := by
 unfold fstAt
 have : (List.range n).find? f = none := by
  rw [List.find?_eq_none]
  intro j hj
  simp [hno j (by simpa using hj)]
 rw [this]
theorem fstAt_cases (n : Nat) (f : Nat → Bool) : (∃ i : Nat, i < n ∧ f i = true ∧ (∀ j, j < i → f j = false) ∧ fstAt n f = i) ∨ ((∀ j, j < n → f j = false) ∧ fstAt n f = -1) := by
 cases h : (List.range n).find? f with
 | none =>
  refine .inr ⟨fun j hj => ?_, by unfold fstAt; rw [h]⟩
  have := List.find?_eq_none.1 h j (by simpa using hj)
  simpa using this
 | some i =>
  obtain ⟨h1, h2, h3⟩ := List.find?_range_eq_some.1 h
  exact .inl ⟨i, by simpa using h2, h1, fun j hj => by simpa using h3 j hj, by unfold fstAt; rw [h]⟩
theorem sW (h : (∃ i : Nat, i < n ∧ f i = true ∧ (∀ j, j < i → f j = false) ∧ r = i) ∨ ((∀ j, j < n → f j = false) ∧ r = -1)) : r = fstAt n f := by
 rcases h with ⟨i, hi, hf, hno, rfl⟩ | ⟨hno, rfl⟩
 ·exact (KN hi hf hno).symm
 ·exact (N9 hno).symm
theorem qI (id : Int) (p : Sb) (b : Nat) (w : World) (h0 : w.cell? ⟨b, 0, none⟩ = some (.int .i64 id)) :
  Calls Tryz.prog 182 #[.agg #[.int .i64 p.id, .int .i64 p.a, .int .i64 p.l, .slice p.x p.n p.c], .pointer (some ⟨b, 0, none⟩)] w fun e w' => e = .returned (.bool (p.id == id)) ∧ Below w.heap.size w w' := by
 have k0 : ∀ q, (w.alloc q).cell? ⟨b, 0, none⟩ = some (.int .i64 id) := fun q => cell_later (bl1 w q) h0
 go_enter Tryz.func182, Tryz.ntmps182
 go_wp2
 go_ret
 exact ⟨rfl, bl1 w _⟩
theorem oM (args : Array Value) (W : World) : (callFunc 182 args).run Tryz.prog W = .ok (.enter 182 args) W := by simp [go_sem]
theorem sX (vid id : Int) (rx : Option Addr) (rn rc : Nat) (sx : Option Addr) (sn sc : Nat) (ss : List Sb) (w : World) (hp : SS w sx sn ss) (hn : sn ≤ 1048576) :
  Calls Tryz.prog 144 #[.agg #[.int .i64 vid, .slice rx rn rc, .slice sx sn sc], .int .i64 id] w fun e w' => e = .returned (.int .i64 (fstAt sn (fun i => (sbAt ss i).id == id))) ∧ Below w.heap.size w w' := by
 go_enter Tryz.func144, Tryz.ntmps144
 go_wp2_with fail
 refine (iW 182 #[.pointer (some ⟨w.heap.size + 1, 0, none⟩)] sx sn sc ss (fun i => (sbAt ss i).id == id) _ (hp.later (cB w _ _)) hn (fun i _ W hW => qI id (sbAt ss i) (w.heap.size + 1) W (cell_later hW (by simp))) oM).mono ?_
 rintro e w1 ⟨⟨r, rfl, hr⟩, hb1⟩
 have hrv := sW hr
 subst hrv
 clear hr
 go_wp2
 go_ret
 exact ⟨rfl, (cB w _ _).trans (hb1.mono (by simp; omega))⟩
theorem vL (vid id : Int) (rx : Option Addr) (rn rc : Nat) (sx : Option Addr) (sn sc : Nat) (ss : List Sb) (t : Int) (h : fstAt sn (fun i => (sbAt ss i).id == id) = t) (w : World) (hp : SS w sx sn ss) (hn : sn ≤ 1048576) :
  Calls Tryz.prog 144 #[.agg #[.int .i64 vid, .slice rx rn rc, .slice sx sn sc], .int .i64 id] w fun e w' => e = .returned (.int .i64 t) ∧ Below w.heap.size w w' := by
 subst h
 exact sX vid id rx rn rc sx sn sc ss w hp hn
theorem yL (id : Int) (p : Fc) (b : Nat) (w : World) (h0 : w.cell? ⟨b, 0, none⟩ = some (.int .i64 id)) :
  Calls Tryz.prog 216 #[.agg #[.int .i64 p.id, .slice p.x p.n p.c], .pointer (some ⟨b, 0, none⟩)] w fun e w' => e = .returned (.bool (p.id == id)) ∧ Below w.heap.size w w' := by
 have k0 : ∀ q, (w.alloc q).cell? ⟨b, 0, none⟩ = some (.int .i64 id) := fun q => cell_later (bl1 w q) h0
 go_enter Tryz.func216, Tryz.ntmps216
 go_wp2
 go_ret
 exact ⟨rfl, bl1 w _⟩
theorem wH (args : Array Value) (W : World) : (callFunc 216 args).run Tryz.prog W = .ok (.enter 216 args) W := by simp [go_sem]
theorem qJ (s : Sb) (id : Int) (w : World) (hp : uX w s.x s.n s.fs) (hn : s.n ≤ 1048576) :
  Calls Tryz.prog 187 #[.agg #[.int .i64 s.id, .int .i64 s.a, .int .i64 s.l, .slice s.x s.n s.c], .int .i64 id] w fun e w' => e = .returned (.int .i64 (fstAt s.n (fun i => (fcAt s.fs i).id == id))) ∧ Below w.heap.size w w' := by
 go_enter Tryz.func187, Tryz.ntmps187
 go_wp2_with fail
 refine (iX 216 #[.pointer (some ⟨w.heap.size + 1, 0, none⟩)] s.x s.n s.c s.fs (fun i => (fcAt s.fs i).id == id) _ (hp.later (cB w _ _)) hn (fun i _ W hW => yL id (fcAt s.fs i) (w.heap.size + 1) W (cell_later hW (by simp))) wH).mono ?_
 rintro e w1 ⟨⟨r, rfl, hr⟩, hb1⟩
 have hrv := sW hr
 subst hrv
 clear hr
 go_wp2
 go_ret
 exact ⟨rfl, (cB w _ _).trans (hb1.mono (by simp; omega))⟩
theorem CL (s : Sb) (id : Int) (t : Int) (h : fstAt s.n (fun i => (fcAt s.fs i).id == id) = t) (w : World) (hp : uX w s.x s.n s.fs) (hn : s.n ≤ 1048576) :
  Calls Tryz.prog 187 #[.agg #[.int .i64 s.id, .int .i64 s.a, .int .i64 s.l, .slice s.x s.n s.c], .int .i64 id] w fun e w' => e = .returned (.int .i64 t) ∧ Below w.heap.size w w' := by
 subst h
 exact qJ s id w hp hn
theorem bN.putBox {rs : List Rg} (h : bN w base v rs) (hb : w.heap[b]? = some (.cells cs t)) (h1 : t ≠ 51) : bN (w.setCell ⟨b, o, none⟩ u) base v rs :=
 h.kept (aJ _ _ _ _) (fun k hk e => by subst e; exact h.ne hb h1 hk)
theorem jE.putBox (h : jE w base v ss ss.length) (hb : w.heap[b]? = some (.cells cs t)) (h1 : t ≠ 78) (h2 : t ≠ 80) (h3 : t ≠ 3) : jE (w.setCell ⟨b, o, none⟩ u) base v ss ss.length :=
 ⟨h.row.kept (aJ _ _ _ _) (fun k hk e => by subst e; exact h.row.ne hb h1 hk), fun i hi => (h.own i hi).kept_of (aJ _ _ _ _) hb h2 h3, h.apart⟩
def R2 (e : Rg) (qs rs : List Rg) : Prop := ∃ i, i ≤ qs.length ∧ (∀ j, j < i → ¬ e.a < (aL qs j).a) ∧ (i < qs.length → e.a < (aL qs i).a) ∧ rs = qs.take i ++ [e] ++ qs.drop i
def eM (vid : Int) (rn : Nat) (rs : List Rg) (sn : Nat) (ss : List Sb) (r : Rg) : Int :=
 if aV vid rn rs sn ss ≠ 0 then aV vid rn rs sn ss else if A2 r = false then 1 else if aK rn (CH rs r.a r.l) = true then 6 else if rn = 4 then 2 else 0
structure TG (w W : World) (vid : Int) (vR vS : Value) (r : Rg) : Prop where
 hb : W.heap[w.heap.size]? = some (cZ vid vR vS)
 hp : W.heap[w.heap.size + 1]? = some (.cells #[.int .i64 r.a, .int .i64 r.l, .int .i64 r.p] 51)
 hs : W.heap[w.heap.size + 2]? = some (cZ 0 (.slice none 0 0) (.slice none 0 0))
 below : Below w.heap.size w W
theorem TG.later {W' : World} {r : Rg} (h : TG w W vid vR vS r) (hb : Below W.heap.size W W') : TG w W' vid vR vS r :=
 ⟨aB hb h.hb, aB hb h.hp, aB hb h.hs, h.below.trans (hb.mono h.below.size)⟩
theorem cA {rs : List Rg} (h : aV vid rn rs sn ss = 0) : rn ≤ 4 ∧ sn ≤ 6 ∧ (∀ i, i < sn → (sbAt ss i).n ≤ 8) ∧ ∀ i, i < sn → ∀ j, j < (sbAt ss i).n → (fcAt (sbAt ss i).fs j).n ≤ 4 := by
 unfold aV at h
 cases hm : cO rn sn ss
 ·exact few hm
 ·rw [hm] at h; simp at h
theorem wI (g : Nat) (cap : Array Value) (x : Option Addr) (n c : Nat) (ps : List Sb) (f : Nat → Bool) (w : World) (hp : SS w x n ps) (hn : n ≤ 9223372036854775807) (hF : oG g cap n ps f w)
  (hg : ∀ args W, (callFunc g args).run Tryz.prog W = .ok (.enter g args) W) :
  Calls Tryz.prog 180 #[.slice x n c, .func (.func g) #[] cap] w fun e w' => (∃ r : Int, e = .returned (.int .i64 r) ∧ ((∃ i : Nat, i < n ∧ f i = true ∧ (∀ j, j < i → f j = false) ∧ r = i) ∨ ((∀ j, j < n → f j = false) ∧ r = -1))) ∧ Below w.heap.size w w' := by
 have HF : Hid (oG g cap n ps f w) := hF
 clear hF
 go_enter Tryz.func180, Tryz.ntmps180
 go_wp2
 go_loopw [8] (fun i wr => ∃ k : Nat, k ≤ n ∧ i = .int .i64 k ∧ Below w.heap.size w wr ∧ (∀ j, j < k → f j = false)) (fun i _ => n - (intOf i).toNat)
 case atStart => exact ⟨0, by omega, rfl, Below.refl _ _, fun j hj => by omega⟩
 case round =>
  obtain ⟨k, hk, rfl, hB, hno⟩ := hrel
  by_cases hlt : k < n
  ·obtain ⟨b, o, rfl, c0, c1, c2, c3⟩ := hp.cells k hlt
   have d0 := cell_later hB c0
   have d1 := cell_later hB c1
   have d2 := cell_later hB c2
   have d3 := cell_later hB c3
   go_wp2_with fail
   refine (HF.out k hlt _ hB).mono ?_
   rintro e w1 ⟨rfl, hb1⟩
   have hC := hB.trans (hb1.mono hB.size)
   cases hf : f k
   ·go_wp2
    go_roundw
    case rel => exact ⟨k + 1, hlt, by go_num, hC, fun j hj => by
     by_cases hj2 : j < k
     ·exact hno j hj2
     ·obtain rfl : j = k := by omega
      exact hf⟩
    case measure => simp [intOf]; omega
   ·go_wp2
    go_ret
    exact ⟨⟨_, rfl, .inl ⟨k, hlt, hf, hno, rfl⟩⟩, hC⟩
  ·go_wp2
   go_ret
   exact ⟨⟨_, rfl, .inr ⟨fun j hj => hno j (by omega), rfl⟩⟩, hB⟩
theorem wJ (g : Nat) (cap : Array Value) (x : Option Addr) (n c : Nat) (ps : List Rg) (f : Nat → Bool) (w : World) (hp : RS w x n ps) (hn : n ≤ 9223372036854775807) (hF : rE g cap n ps f w)
  (hg : ∀ args W, (callFunc g args).run Tryz.prog W = .ok (.enter g args) W) :
  Calls Tryz.prog 138 #[.slice x n c, .func (.func g) #[] cap] w fun e w' => (∃ r : Int, e = .returned (.int .i64 r) ∧ ((∃ i : Nat, i < n ∧ f i = true ∧ (∀ j, j < i → f j = false) ∧ r = i) ∨ ((∀ j, j < n → f j = false) ∧ r = -1))) ∧ Below w.heap.size w w' := by
 have HF : Hid (rE g cap n ps f w) := hF
 clear hF
 go_enter Tryz.func138, Tryz.ntmps138
 go_wp2
 go_loopw [8] (fun i wr => ∃ k : Nat, k ≤ n ∧ i = .int .i64 k ∧ Below w.heap.size w wr ∧ (∀ j, j < k → f j = false)) (fun i _ => n - (intOf i).toNat)
 case atStart => exact ⟨0, by omega, rfl, Below.refl _ _, fun j hj => by omega⟩
 case round =>
  obtain ⟨k, hk, rfl, hB, hno⟩ := hrel
  by_cases hlt : k < n
  ·obtain ⟨b, o, rfl, c0, c1, c2⟩ := hp.cells k hlt
   have d0 := cell_later hB c0
   have d1 := cell_later hB c1
   have d2 := cell_later hB c2
   go_wp2_with fail
   refine (HF.out k hlt _ hB).mono ?_
   rintro e w1 ⟨rfl, hb1⟩
   have hC := hB.trans (hb1.mono hB.size)
   cases hf : f k
   ·go_wp2
    go_roundw
    case rel => exact ⟨k + 1, hlt, by go_num, hC, fun j hj => by
     by_cases hj2 : j < k
     ·exact hno j hj2
     ·obtain rfl : j = k := by omega
      exact hf⟩
    case measure => simp [intOf]; omega
   ·go_wp2
    go_ret
    exact ⟨⟨_, rfl, .inl ⟨k, hlt, hf, hno, rfl⟩⟩, hC⟩
  ·go_wp2
   go_ret
   exact ⟨⟨_, rfl, .inr ⟨fun j hj => hno j (by omega), rfl⟩⟩, hB⟩
theorem sY (vid id : Int) (rx : Option Addr) (rn rc : Nat) (sx : Option Addr) (sn sc : Nat) (ss : List Sb) (w : World) (hp : SS w sx sn ss) (hn : sn ≤ 9223372036854775807) :
  Calls Tryz.prog 144 #[.agg #[.int .i64 vid, .slice rx rn rc, .slice sx sn sc], .int .i64 id] w fun e w' => e = .returned (.int .i64 (fstAt sn (fun i => (sbAt ss i).id == id))) ∧ Below w.heap.size w w' := by
 go_enter Tryz.func144, Tryz.ntmps144
 go_wp2_with fail
 refine (wI 182 #[.pointer (some ⟨w.heap.size + 1, 0, none⟩)] sx sn sc ss (fun i => (sbAt ss i).id == id) _ (hp.later (cB w _ _)) hn (fun i _ W hW => qI id (sbAt ss i) (w.heap.size + 1) W (cell_later hW (by simp))) oM).mono ?_
 rintro e w1 ⟨⟨r, rfl, hr⟩, hb1⟩
 have hrv := sW hr
 subst hrv
 clear hr
 go_wp2
 go_ret
 exact ⟨rfl, (cB w _ _).trans (hb1.mono (by simp; omega))⟩
theorem yM (vid id : Int) (rx : Option Addr) (rn rc : Nat) (sx : Option Addr) (sn sc : Nat) (ss : List Sb) (t : Int) (h : fstAt sn (fun i => (sbAt ss i).id == id) = t) (w : World) (hp : SS w sx sn ss) (hn : sn ≤ 9223372036854775807) :
  Calls Tryz.prog 144 #[.agg #[.int .i64 vid, .slice rx rn rc, .slice sx sn sc], .int .i64 id] w fun e w' => e = .returned (.int .i64 t) ∧ Below w.heap.size w w' := by
 subst h
 exact sY vid id rx rn rc sx sn sc ss w hp hn
end Go.Proofs.YtndpilfpejfloaaGreat
