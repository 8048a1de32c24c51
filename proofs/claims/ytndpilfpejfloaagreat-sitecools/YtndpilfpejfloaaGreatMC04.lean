/- A part of the proof. -/
import Derived.Test.YtndpilfpejfloaaGreatMC03
set_option maxRecDepth 100000
set_option maxHeartbeats 20000000
namespace Go.Proofs.YtndpilfpejfloaaGreat
variable {ops : Array Oper} {C : World → Prop} {A : Act} {o i k b n c base g base' j cap c' : Nat} {rest : List Oper} {t a t' z : Int} {ps qs : List Po} {e : Le} {p : Po} {v v' u : Value} {w w' V W W1 W' : World} {x x' : Option Addr} {es ls' : List Le} {cs ds : Array Value} {fr : Nat × Nat} {ad : Addr}
open Go.RowKit Go.Shelf
abbrev VF (e : Le) : Value := .agg #[.int .i64 e.a, .int .i64 e.l, .int .i64 e.kd, .int .i64 e.ow, .int .i64 e.un]
abbrev SK (e : Le) : Obj := .cells #[.int .i64 e.a, .int .i64 e.l, .int .i64 e.kd, .int .i64 e.ow, .int .i64 e.un] 138
abbrev Q1 (t : Int) (x : Option Addr) (n c : Nat) : Obj := .cells #[.int .i64 t, .slice x n c] 25
def TI (q : Po) (id : Int) (e : Le) : Bool := (q.up == id) && (decide (q.a = e.a) && decide (q.l = e.l)) && (e.un == 0)
def rE (t : Int) (ps : List Po) (id : Int) (e : Le) : Bool :=
 if e.kd = 1 then dE e.ow 1 65536 && (e.un == 0)
 else if e.kd = 2 then (if aP ps e.ow < 0 then false else TI (poAt ps (aP ps e.ow).toNat) id e)
 else if e.kd = 3 then (e.ow == 0) && (decide (t < e.un) && decide (e.un ≤ t + 1024)) else false
theorem isId_is (v : Int) (t : Bool) (h : dE v 1 65536 = t) (w : World) : Calls Tryz.prog 70 #[.int .i64 v] w fun e w' => e = .returned (.bool t) ∧ w' = w := by
 subst h
 exact isId_any v w
theorem G7 {Q : Act → Prop} {o : Oper} (x y : Operand) (t : TypeId) (a l c m : Int) (hop : o.op = .binOp .eql 49 x y t) (hg : Region.wanted o (yielded ops A.tmps) = true)
  (hx : A.eval x = .agg #[.int .i64 a, .int .i64 l]) (hy : A.eval y = .agg #[.int .i64 c, .int .i64 m]) (h : wpQuiet Tryz.prog ops C Q rest (A.put o.dst (.bool (decide (a = c) && decide (l = m))))) : wpQuiet Tryz.prog ops C Q (o :: rest) A := by
 unfold wpQuiet
 rw [if_pos hg]
 refine ⟨_, fun w _ => ?_, h⟩
 unfold Oper.quietAt execOp
 rw [hop]
 simp only [hx, hy, Sem.run_bind, rY, BG, Result.andThen_ok, Sem.run_pure]
 exact ⟨rfl, rfl⟩
theorem WK {id : Int} (h : e.kd = 1) : rE t ps id e = (dE e.ow 1 65536 && (e.un == 0)) := by unfold rE; rw [if_pos h]
theorem VN {id : Int} (h : e.kd = 2) (h2 : aP ps e.ow < 0) : rE t ps id e = false := by unfold rE; rw [if_neg (by omega), if_pos h, if_pos h2]
theorem VO {id : Int} (h : e.kd = 2) (h2 : aP ps e.ow = i) : rE t ps id e = TI (poAt ps i) id e := by
 unfold rE
 rw [if_neg (by omega), if_pos h, h2, if_neg (by omega)]
 simp only [Int.toNat_natCast]
theorem WL {id : Int} (h : e.kd = 3) : rE t ps id e = ((e.ow == 0) && (decide (t < e.un) && decide (e.un ≤ t + 1024))) := by unfold rE; rw [if_neg (by omega), if_neg (by omega), if_pos h]
theorem WM {id : Int} (h1 : e.kd ≠ 1) (h2 : e.kd ≠ 2) (h3 : e.kd ≠ 3) : rE t ps id e = false := by unfold rE; rw [if_neg h1, if_neg h2, if_neg h3]
theorem CU (t id : Int) (x : Option Addr) (n c : Nat) (ps : List Po) (e : Le) (w : World) (hk : e.kd = 1) :
  Calls Tryz.prog 76 #[.agg #[.int .i64 t, .slice x n c], .int .i64 id, VF e] w fun r w' => r = .returned (.bool (rE t ps id e)) ∧ Below w.heap.size w w' := by
 have hb1 : (e.kd == 1) = true := by simpa using hk
 rw [WK hk]
 clear hk
 cases hi : dE e.ow 1 65536
 all_goals go_enter Tryz.func76, Tryz.ntmps76
 all_goals go_wp2_with (go_at_call 70; refine (isId_is e.ow _ hi _).mono ?_; rintro r w1 ⟨rfl, rfl⟩)
 all_goals go_ret
 all_goals exact ⟨rfl, cC w _ _⟩
theorem CV (t id : Int) (x : Option Addr) (n c : Nat) (ps : List Po) (e : Le) (w : World) (hk : e.kd = 3) (t0 : 0 ≤ t) (t1 : t ≤ 1073741824) :
  Calls Tryz.prog 76 #[.agg #[.int .i64 t, .slice x n c], .int .i64 id, VF e] w fun r w' => r = .returned (.bool (rE t ps id e)) ∧ Below w.heap.size w w' := by
 have hb1 : (e.kd == 1) = false := by simp [hk]
 have hb2 : (e.kd == 2) = false := by simp [hk]
 have hb3 : (e.kd == 3) = true := by simp [hk]
 rw [WL hk]
 clear hk
 cases ho : (e.ow == 0)
 ·go_enter Tryz.func76, Tryz.ntmps76
  go_wp2
  go_ret
  exact ⟨rfl, cC w _ _⟩
 ·cases hu : decide (t < e.un)
  all_goals go_enter Tryz.func76, Tryz.ntmps76
  all_goals go_wp2
  all_goals go_ret
  all_goals exact ⟨rfl, cC w _ _⟩
theorem CW (t id : Int) (x : Option Addr) (n c : Nat) (ps : List Po) (e : Le) (w : World) (h1 : e.kd ≠ 1) (h2 : e.kd ≠ 2) (h3 : e.kd ≠ 3) :
  Calls Tryz.prog 76 #[.agg #[.int .i64 t, .slice x n c], .int .i64 id, VF e] w fun r w' => r = .returned (.bool (rE t ps id e)) ∧ Below w.heap.size w w' := by
 have hb1 : (e.kd == 1) = false := by simpa using h1
 have hb2 : (e.kd == 2) = false := by simpa using h2
 have hb3 : (e.kd == 3) = false := by simpa using h3
 rw [WM h1 h2 h3]
 clear h1 h2 h3
 go_enter Tryz.func76, Tryz.ntmps76
 go_wp2
 go_ret
 exact ⟨rfl, cC w _ _⟩
theorem CX (t id : Int) (x : Option Addr) (n c : Nat) (ps : List Po) (e : Le) (w : World) (hp : nW w x n ps) (hn : n ≤ 64) (hk : e.kd = 2) :
  Calls Tryz.prog 76 #[.agg #[.int .i64 t, .slice x n c], .int .i64 id, VF e] w fun r w' => r = .returned (.bool (rE t ps id e)) ∧ Below w.heap.size w w' := by
 have hpl : Hid (ps.length = n) := hp.len
 have hb1 : (e.kd == 1) = false := by simp [hk]
 have hb2 : (e.kd == 2) = true := by simp [hk]
 have hk' : Hid (e.kd = 2) := hk
 clear hk
 go_enter Tryz.func76, Tryz.ntmps76
 go_upto_region 5 with fail
 obtain ⟨w0, hw0⟩ : ∃ w0, w0 = (w.alloc (Q1 t x n c)).alloc (SK e) := ⟨_, rfl⟩
 rw [← hw0]
 have hB0 : Below w.heap.size w w0 := by rw [hw0]; exact cC w _ _
 have hb0 : w0.heap[w.heap.size]? = some (Q1 t x n c) := by rw [hw0]; exact aF _ (aB _ rfl)
 have hq0 : w0.heap[w.heap.size + 1]? = some (SK e) := by rw [hw0]; exact aB _ (by simp)
 clear hw0
 obtain ⟨kb, -⟩ := aE hb0
 obtain ⟨kq, -⟩ := aE hq0
 go_upto_region 6 with (go_at_call 82; refine (pplace_any t e.ow x n c ps _ (hp.later hB0) hn).mono ?_; rintro r w1 ⟨rfl, hb1'⟩)
 have hbb1 := aA hb1' hb0
 have hbq1 := aA hb1' hq0
 have hB1 := hB0.trans (hb1'.mono hB0.size)
 clear hb1' kb kq hb0 hq0 hB0
 obtain ⟨kb, -⟩ := aE hbb1
 obtain ⟨kq, -⟩ := aE hbq1
 have g0 := Ws.here (v := .slice x n c) (kb 1)
 have g1 := Ws.here (v := .int .i64 e.a) (kq 0)
 have g2 := Ws.here (v := .int .i64 e.l) (kq 1)
 have g3 := Ws.here (v := .int .i64 e.un) (kq 4)
 cases hneg : decide (aP ps e.ow < 0)
 ·obtain ⟨i, hi, hai, -⟩ := aQ (ps := ps) (id := e.ow) (by simpa using hneg)
  have hai' : Hid (aP ps e.ow = i) := hai
  rw [hpl.out] at hi
  have hpw := hp.later hB1
  obtain ⟨b, o, rfl, c0, c1, c2, c3, -⟩ := hpw.cells i hi
  rw [hai]
  have hge : decide ((i : Int) ≥ 0) = true := by simp
  clear hai hneg
  have e1 := Ws.here c1
  have e2 := Ws.here c2
  have e3 := Ws.here c3
  cases hup : ((poAt ps i).up == id)
  ·refine aK w1.heap.size (by kernel_rfl) (by kernel_rfl) ?_
   repeat (go_big_quiet_step (fail))
   refine wpQuiet_nil ?_
   rintro _ ⟨u, rfl⟩
   have hu2 := hB1.trans (u.property.mono hB1.size)
   generalize u.val = wu at hu2 ⊢
   clear u g0 g1 g2 g3 e1 e2 e3
   go_wp2
   go_ret
   exact ⟨aM (by rw [VO hk'.out hai'.out]; unfold TI; rw [hup]; rfl), hu2⟩
  ·cases heq : (decide ((poAt ps i).a = e.a) && decide ((poAt ps i).l = e.l))
   all_goals refine aK w1.heap.size (by kernel_rfl) (by kernel_rfl) ?_
   all_goals repeat (go_big_quiet_step (fail))
   all_goals refine G7 _ _ _ (poAt ps i).a (poAt ps i).l e.a e.l rfl (by rfl) rfl rfl ?_
   all_goals rw [heq]
   all_goals simp only [Act.put, List.setIfInBounds_toArray, List.set_cons_zero, List.set_cons_succ]
   all_goals repeat (go_big_quiet_step (fail))
   all_goals refine wpQuiet_nil ?_
   all_goals rintro _ ⟨u, rfl⟩
   all_goals have hu2 := hB1.trans (u.property.mono hB1.size)
   all_goals generalize u.val = wu at hu2 ⊢
   all_goals clear u g0 g1 g2 g3 e1 e2 e3
   all_goals go_wp2
   all_goals go_ret
   all_goals exact ⟨aM (by rw [VO hk'.out hai'.out]; unfold TI; rw [hup, heq]; rfl), hu2⟩
 ·have hai' : Hid (aP ps e.ow < 0) := by unfold Hid; simpa using hneg
  have hge : decide (aP ps e.ow ≥ 0) = false := by simp at hneg ⊢; omega
  clear hneg
  refine aK w1.heap.size (by kernel_rfl) (by kernel_rfl) ?_
  repeat (go_big_quiet_step (fail))
  refine wpQuiet_nil ?_
  rintro _ ⟨u, rfl⟩
  have hu2 := hB1.trans (u.property.mono hB1.size)
  generalize u.val = wu at hu2 ⊢
  clear u g0 g1 g2 g3
  go_wp2
  go_ret
  exact ⟨aM (by rw [VN hk'.out hai'.out]), hu2⟩
theorem xW (t id : Int) (x : Option Addr) (n c : Nat) (ps : List Po) (e : Le) (w : World) (hp : nW w x n ps) (hn : n ≤ 64) (t0 : 0 ≤ t) (t1 : t ≤ 1073741824) :
  Calls Tryz.prog 76 #[.agg #[.int .i64 t, .slice x n c], .int .i64 id, VF e] w fun r w' => r = .returned (.bool (rE t ps id e)) ∧ Below w.heap.size w w' := by
 by_cases h1 : e.kd = 1
 ·exact CU t id x n c ps e w h1
 ·by_cases h2 : e.kd = 2
  ·exact CX t id x n c ps e w hp hn h2
  ·by_cases h3 : e.kd = 3
   ·exact CV t id x n c ps e w h3 t0 t1
   ·exact CW t id x n c ps e w h1 h2 h3
def AV (t : Int) (ps : List Po) (p : Po) : Bool := (List.range p.n).all fun i => rE t ps p.id (aO p.ls i)
def kZ (t : Int) (ps : List Po) (n : Nat) (p : Po) : Bool := (kS p.a p.l p.n (lp p.ls) == 0) && (dF p.mn p.mx p.us p.co p.l && (lD ps n p && AV t ps p))
theorem TJ (hk : k < p.n) (h : rE t ps p.id (aO p.ls k) = false) : AV t ps p = false := by
 unfold AV
 rw [List.all_eq_false]
 exact ⟨k, by simpa using hk, by simp [h]⟩
theorem Q2 (h : ∀ j, j < p.n → rE t ps p.id (aO p.ls j) = true) : AV t ps p = true := by
 unfold AV
 rw [List.all_eq_true]
 intro j hj
 exact h j (by simpa using hj)
theorem sE (mn mx us co a l : Int) (t : Bool) (h : dF mn mx us co l = t) (w : World) :
  Calls Tryz.prog 74 #[.agg #[.int .i64 mn, .int .i64 mx, .int .i64 us, .int .i64 co], .agg #[.int .i64 a, .int .i64 l]] w fun e w' => e = .returned (.bool t) ∧ Below w.heap.size w w' := by
 subst h
 exact qG mn mx us co a l w
theorem xX (t : Int) (x : Option Addr) (n c : Nat) (ps : List Po) (p : Po) (r : Bool) (h : lD ps n p = r) (w : World) (hp : nW w x n ps) (hn : n ≤ 64) :
  Calls Tryz.prog 75 #[.agg #[.int .i64 t, .slice x n c], VM p] w fun e w' => e = .returned (.bool r) ∧ Below w.heap.size w w' := by
 subst h
 exact ET t x n c ps p w hp hn
theorem qJ (t id : Int) (x : Option Addr) (n c : Nat) (ps : List Po) (e : Le) (r : Bool) (h : rE t ps id e = r) (w : World) (hp : nW w x n ps) (hn : n ≤ 64) (t0 : 0 ≤ t) (t1 : t ≤ 1073741824) :
  Calls Tryz.prog 76 #[.agg #[.int .i64 t, .slice x n c], .int .i64 id, VF e] w fun r' w' => r' = .returned (.bool r) ∧ Below w.heap.size w w' := by
 subst h
 exact xW t id x n c ps e w hp hn t0 t1
theorem qK (a l : Int) (n : Nat) (ls : List Le) (v : Int) (hv : kS a l n (lp ls) = v) (x : Option Addr) (c : Nat) (w : World) (h : PS w x n (lp ls)) :
  Calls Tryz.prog 72 #[.agg #[.int .i64 a, .int .i64 l, .slice x n c]] w fun e w' => e = .returned (.int .i64 v) ∧ Below w.heap.size w w' := by
 subst hv
 exact xP a l x n c (lp ls) w (fun _ => h)
theorem AW (t : Int) (x : Option Addr) (n c : Nat) (ps : List Po) (p : Po) (w : World) (hp : nW w x n ps) (hn : n ≤ 64) (hl : LS w p.x p.n p.ls) (hpn : p.n ≤ 1048576) (t0 : 0 ≤ t) (t1 : t ≤ 1073741824) :
  Calls Tryz.prog 38 #[.agg #[.int .i64 t, .slice x n c], VM p] w fun e w' => e = .returned (.bool (kZ t ps n p)) ∧ Below w.heap.size w w' := by
 unfold kZ
 go_enter Tryz.func38, Tryz.ntmps38
 go_upto_region 1 with fail
 obtain ⟨w0, hw0⟩ : ∃ w0, w0 = (w.alloc (Q1 t x n c)).alloc (G6 p) := ⟨_, rfl⟩
 rw [← hw0]
 have hB0 : Below w.heap.size w w0 := by rw [hw0]; exact cC w _ _
 have hb0 : w0.heap[w.heap.size]? = some (Q1 t x n c) := by rw [hw0]; exact aF _ (aB _ rfl)
 have hq0 : w0.heap[w.heap.size + 1]? = some (G6 p) := by rw [hw0]; exact aB _ (by simp)
 clear hw0
 obtain ⟨kq, -⟩ := aE hq0
 cases hch : (kS p.a p.l p.n (lp p.ls) == 0)
 ·have hch' : (kS p.a p.l p.n (lp p.ls) != 0) = true := by simpa using hch
  generalize hv : kS p.a p.l p.n (lp p.ls) = v at hch hch'
  go_wp2_with fail
  refine (oC p _ (hl.later hB0) hpn).mono ?_
  rintro e w1 ⟨x1, c1, rfl, hb1, hp1⟩
  have hB1 := hB0.trans (hb1.mono hB0.size)
  obtain ⟨kq1, -⟩ := aE (aA hb1 hq0)
  go_wp2_with fail
  refine (qK p.a p.l p.n p.ls v hv x1 c1 _ hp1).mono ?_
  rintro e w2 ⟨rfl, hb2⟩
  have hB2 := hB1.trans (hb2.mono hB1.size)
  go_wp2
  go_ret
  exact ⟨aM (by rw [hv, hch]; rfl), hB2⟩
 ·have hch0 : kS p.a p.l p.n (lp p.ls) = 0 := by simpa using hch
  have hn32 : p.n ≤ 32 := (iG hch0).1
  go_wp2_with fail
  refine (oC p _ (hl.later hB0) hpn).mono ?_
  rintro e w1 ⟨x1, c1, rfl, hb1, hp1⟩
  have hB1 := hB0.trans (hb1.mono hB0.size)
  have hb1b := aA hb1 hb0
  have hb1q := aA hb1 hq0
  clear hb1 hb0 hq0 hB0 kq
  go_wp2_with fail
  refine (qK p.a p.l p.n p.ls 0 hch0 x1 c1 _ hp1).mono ?_
  rintro e w2 ⟨rfl, hb2⟩
  have hB2 := hB1.trans (hb2.mono hB1.size)
  have hb2b := aA hb2 hb1b
  have hb2q := aA hb2 hb1q
  clear hb2 hb1b hb1q hB1 hp1 hch
  obtain ⟨kq, -⟩ := aE hb2q
  cases hru : dF p.mn p.mx p.us p.co p.l
  ·go_wp2_with fail
   refine (sE _ _ _ _ _ _ _ hru _).mono ?_
   rintro e w3 ⟨rfl, hb3⟩
   go_wp2
   go_ret
   exact ⟨aM (by rw [hch0, hru]; rfl), hB2.trans (hb3.mono hB2.size)⟩
  ·go_wp2_with fail
   refine (sE _ _ _ _ _ _ _ hru _).mono ?_
   rintro e w3 ⟨rfl, hb3⟩
   have hB3 := hB2.trans (hb3.mono hB2.size)
   have hb3b := aA hb3 hb2b
   have hb3q := aA hb3 hb2q
   clear hb3 hb2b hb2q hB2 kq
   obtain ⟨kq, -⟩ := aE hb3q
   obtain ⟨kb, -⟩ := aE hb3b
   cases hup : lD ps n p
   ·go_wp2_with fail
    refine (xX t x n c ps p _ hup _ (hp.later hB3) hn).mono ?_
    rintro e w4 ⟨rfl, hb4⟩
    go_wp2
    go_ret
    exact ⟨aM (by rw [hch0, hru, hup]; rfl), hB3.trans (hb4.mono hB3.size)⟩
   ·go_wp2_with fail
    refine (xX t x n c ps p _ hup _ (hp.later hB3) hn).mono ?_
    rintro e w4 ⟨rfl, hb4⟩
    have hB4 := hB3.trans (hb4.mono hB3.size)
    have hb4b := aA hb4 hb3b
    have hb4q := aA hb4 hb3q
    clear hb4 hb3b hb3q hB3 kq kb
    obtain ⟨kq, -⟩ := aE hb4q
    go_wp2
    clear kq
    go_loopw [28] (fun i wr => ∃ k : Nat, k ≤ p.n ∧ i = .int .i64 k ∧ (∀ j, j < k → rE t ps p.id (aO p.ls j) = true) ∧ wr.heap[w.heap.size]? = some (Q1 t x n c) ∧ wr.heap[w.heap.size + 1]? = some (G6 p) ∧ Below w.heap.size w wr) (fun i _ => p.n - (intOf i).toNat)
    case atStart => exact ⟨0, by omega, rfl, fun j hj => by omega, hb4b, hb4q, hB4⟩
    case round =>
     obtain ⟨k, hk, rfl, hok, hbb, hbq, hB⟩ := hrel
     clear hb4b hb4q hB4
     by_cases hlt : k < p.n
     ·obtain ⟨b, o, hx, c0, c1, c2, c3, c4⟩ := (hl.later hB).cells k hlt
      have hlt' := hlt
      have hbb' := aF (SK (aO p.ls k)) hbb
      have hbq' := aF (SK (aO p.ls k)) hbq
      have hB' := hB.alloc hB.size (SK (aO p.ls k))
      obtain ⟨kb, -⟩ := aE hbb'
      obtain ⟨kq, -⟩ := aE hbq'
      rw [hx]
      cases hle : rE t ps p.id (aO p.ls k)
      ·go_wp2_with fail
       refine (qJ t p.id x n c ps (aO p.ls k) _ hle _ (hp.later hB') hn t0 t1).mono ?_
       rintro e w5 ⟨rfl, hb5⟩
       go_wp2
       go_ret
       exact ⟨aM (by rw [hch0, hru, hup, TJ hlt' hle]; rfl), hB'.trans (hb5.mono hB'.size)⟩
      ·go_wp2_with fail
       refine (qJ t p.id x n c ps (aO p.ls k) _ hle _ (hp.later hB') hn t0 t1).mono ?_
       rintro e w5 ⟨rfl, hb5⟩
       have hbb5 := aA hb5 hbb'
       have hbq5 := aA hb5 hbq'
       clear kb kq
       go_wp2
       go_roundw
       case rel => exact ⟨k + 1, hlt', by go_num, fun j hj => by
        by_cases hj2 : j < k
        ·exact hok j hj2
        ·obtain rfl : j = k := by omega
         exact hle, hbb5, hbq5, hB'.trans (hb5.mono hB'.size)⟩
       case measure => simp [intOf]; omega
     ·obtain rfl : k = p.n := by omega
      go_wp2
      go_ret
      exact ⟨aM (by rw [hch0, hru, hup, Q2 hok]; rfl), hB⟩
def oE (t : Int) (ps : List Po) : Bool := (List.range ps.length).all fun i => kZ t ps ps.length (poAt ps i)
def aV (t : Int) (ps : List Po) : Int := if 8 < ps.length then 2 else if (dE t 0 1073741824 && (lR ps.length ps && (gT ps && oE t ps))) = true then 0 else 1
theorem NQ (hk : k < ps.length) (h : kZ t ps ps.length (poAt ps k) = false) : oE t ps = false := by
 unfold oE
 rw [List.all_eq_false]
 exact ⟨k, by simpa using hk, by simp [h]⟩
theorem tZ (h : ∀ j, j < ps.length → kZ t ps ps.length (poAt ps j) = true) : oE t ps = true := by
 unfold oE
 rw [List.all_eq_true]
 intro j hj
 exact h j (by simpa using hj)
theorem NR (h : 8 < ps.length) : aV t ps = 2 := by unfold aV; rw [if_pos h]
theorem xY (h : ps.length ≤ 8) (h2 : (dE t 0 1073741824 && (lR ps.length ps && (gT ps && oE t ps))) = false) : aV t ps = 1 := by unfold aV; rw [if_neg (by omega), h2]; rfl
theorem CY (h : ps.length ≤ 8) (h2 : (dE t 0 1073741824 && (lR ps.length ps && (gT ps && oE t ps))) = true) : aV t ps = 0 := by unfold aV; rw [if_neg (by omega), if_pos h2]
theorem xZ (x : Option Addr) (n c : Nat) (ps : List Po) (r : Bool) (h : lR n ps = r) (w : World) (hp : nW w x n ps) (hn : n ≤ 64) :
  Calls Tryz.prog 36 #[.slice x n c] w fun e w' => e = .returned (.bool r) ∧ Below w.heap.size w w' := by
 subst h
 exact ER x n c ps w hp hn
theorem sF (x : Option Addr) (n c : Nat) (ps : List Po) (r : Bool) (h : gT ps = r) (w : World) (hp : nW w x n ps) (hn : n ≤ 64) (hnc : n ≤ c) (hc63 : c ≤ 9223372036854775807) :
  Calls Tryz.prog 37 #[.slice x n c] w fun e w' => e = .returned (.bool r) ∧ Below w.heap.size w w' := by
 subst h
 exact AU x n c ps w hp hn hnc hc63
theorem sG (t : Int) (x : Option Addr) (n c : Nat) (ps : List Po) (p : Po) (r : Bool) (h : kZ t ps n p = r) (w : World) (hp : nW w x n ps) (hn : n ≤ 64) (hl : LS w p.x p.n p.ls) (hpn : p.n ≤ 1048576) (t0 : 0 ≤ t) (t1 : t ≤ 1073741824) :
  Calls Tryz.prog 38 #[.agg #[.int .i64 t, .slice x n c], VM p] w fun e w' => e = .returned (.bool r) ∧ Below w.heap.size w w' := by
 subst h
 exact AW t x n c ps p w hp hn hl hpn t0 t1
theorem NS {v b : Int} (h : v < a ∨ b < v) : dE v a b = false := by
 unfold dE
 rcases h with h | h
 ·rw [decide_eq_false (by omega), Bool.false_and]
 ·rw [decide_eq_false (p := v ≤ b) (by omega), Bool.and_false]
theorem Q3 {v b : Int} (h : a ≤ v) (h2 : v ≤ b) : dE v a b = true := by
 unfold dE
 rw [decide_eq_true h, decide_eq_true h2]
 rfl
structure Bk (w : World) (x : Option Addr) (n c : Nat) (ps : List Po) : Prop where
 ps : nW w x n ps
 nc : n ≤ c
 cm : c ≤ 9223372036854775807
theorem Bk.later (h : Bk w x n c ps) (hb : Below w.heap.size w w') : Bk w' x n c ps := ⟨h.ps.later hb, h.nc, h.cm⟩
theorem fN (t : Int) (x : Option Addr) (n c : Nat) (ps : List Po) (w : World) (hk : Bk w x n c ps) :
  Calls Tryz.prog 24 #[.agg #[.int .i64 t, .slice x n c]] w fun e w' => e = .returned (.int .i64 (aV t ps)) ∧ Below w.heap.size w w' := by
 obtain ⟨hp, hnc, hcm⟩ := hk
 have hpl : Hid (ps.length = n) := hp.len
 by_cases hn8 : 8 < n
 ·rw [NR (by rw [hpl.out]; exact hn8)]
  go_enter Tryz.func24, Tryz.ntmps24
  go_wp2
  go_ret
  exact ⟨rfl, bl1 w _⟩
 ·have hle : Hid (ps.length ≤ 8) := by unfold Hid; rw [hpl.out]; omega
  by_cases ht0 : t < 0
  ·rw [xY hle.out (by rw [NS (.inl ht0)]; rfl)]
   go_enter Tryz.func24, Tryz.ntmps24
   go_wp2
   go_ret
   exact ⟨rfl, bl1 w _⟩
  ·by_cases ht1 : 1073741824 < t
   ·rw [xY hle.out (by rw [NS (.inr ht1)]; rfl)]
    go_enter Tryz.func24, Tryz.ntmps24
    go_wp2
    go_ret
    exact ⟨rfl, bl1 w _⟩
   ·have hwt : Hid (dE t 0 1073741824 = true) := Q3 (by omega) (by omega)
    go_enter Tryz.func24, Tryz.ntmps24
    go_upto_region 3 with fail
    obtain ⟨w0, hw0⟩ : ∃ w0, w0 = w.alloc (Q1 t x n c) := ⟨_, rfl⟩
    rw [← hw0]
    have hB0 : Below w.heap.size w w0 := by rw [hw0]; exact bl1 w _
    have hb0 : w0.heap[w.heap.size]? = some (Q1 t x n c) := by rw [hw0]; exact aB _ rfl
    clear hw0
    obtain ⟨kb, -⟩ := aE hb0
    cases hid : lR n ps
    ·go_wp2_with fail
     refine (xZ x n c ps _ hid _ (hp.later hB0) (by omega)).mono ?_
     rintro e w1 ⟨rfl, hb1⟩
     go_wp2
     go_ret
     exact ⟨cQ (xY hle.out (by rw [hwt.out, hpl.out, hid]; rfl)).symm, hB0.trans (hb1.mono hB0.size)⟩
    ·go_wp2_with fail
     refine (xZ x n c ps _ hid _ (hp.later hB0) (by omega)).mono ?_
     rintro e w1 ⟨rfl, hb1⟩
     have hB1 := hB0.trans (hb1.mono hB0.size)
     have hb1b := aA hb1 hb0
     clear hb1 hb0 hB0 kb
     obtain ⟨kb, -⟩ := aE hb1b
     cases hto : gT ps
     ·go_wp2_with fail
      refine (sF x n c ps _ hto _ (hp.later hB1) (by omega) hnc hcm).mono ?_
      rintro e w2 ⟨rfl, hb2⟩
      go_wp2
      go_ret
      exact ⟨cQ (xY hle.out (by rw [hwt.out, hpl.out, hid, hto]; rfl)).symm, hB1.trans (hb2.mono hB1.size)⟩
     ·go_wp2_with fail
      refine (sF x n c ps _ hto _ (hp.later hB1) (by omega) hnc hcm).mono ?_
      rintro e w2 ⟨rfl, hb2⟩
      have hB2 := hB1.trans (hb2.mono hB1.size)
      have hb2b := aA hb2 hb1b
      clear hb2 hb1b hB1 kb
      obtain ⟨kb, -⟩ := aE hb2b
      go_wp2
      clear kb
      go_loopw [34] (fun i wr => ∃ k : Nat, k ≤ n ∧ i = .int .i64 k ∧ (∀ j, j < k → kZ t ps n (poAt ps j) = true) ∧ wr.heap[w.heap.size]? = some (Q1 t x n c) ∧ Below w.heap.size w wr) (fun i _ => n - (intOf i).toNat)
      case atStart => exact ⟨0, by omega, rfl, fun j hj => by omega, hb2b, hB2⟩
      case round =>
       obtain ⟨k, hk, rfl, hok, hbb, hB⟩ := hrel
       clear hb2b hB2
       by_cases hlt : k < n
       ·have hpw := hp.later hB
        obtain ⟨b, o, rfl, c0, c1, c2, c3, c4, c5, c6, c7, c8⟩ := hpw.cells k hlt
        obtain ⟨hl1, hl2, hl3⟩ := hpw.leases k hlt
        have hlt' := hlt
        have hbb' := aF (G6 (poAt ps k)) hbb
        have hB' := hB.alloc hB.size (G6 (poAt ps k))
        have hl' := hl3.later (bl1 wr (G6 (poAt ps k)))
        have hp' := hpw.later (bl1 wr (G6 (poAt ps k)))
        obtain ⟨kb, -⟩ := aE hbb'
        cases hpo : kZ t ps n (poAt ps k)
        ·go_wp2_with fail
         refine (sG t _ n c ps (poAt ps k) _ hpo _ hp' (by omega) hl' hl2 (by omega) (by omega)).mono ?_
         rintro e w5 ⟨rfl, hb5⟩
         go_wp2
         go_ret
         exact ⟨cQ (xY hle.out (by rw [hwt.out, hpl.out, hid, hto, NQ (k := k) (by rw [hpl.out]; exact hlt') (by rw [hpl.out]; exact hpo)]; rfl)).symm, hB'.trans (hb5.mono hB'.size)⟩
        ·go_wp2_with fail
         refine (sG t _ n c ps (poAt ps k) _ hpo _ hp' (by omega) hl' hl2 (by omega) (by omega)).mono ?_
         rintro e w5 ⟨rfl, hb5⟩
         have hbb5 := aA hb5 hbb'
         clear kb
         go_wp2
         go_roundw
         case rel => exact ⟨k + 1, hlt', by go_num, fun j hj => by
          by_cases hj2 : j < k
          ·exact hok j hj2
          ·obtain rfl : j = k := by omega
           exact hpo, hbb5, hB'.trans (hb5.mono hB'.size)⟩
         case measure => simp [intOf]; omega
       ·obtain rfl : k = n := by omega
        go_wp2
        go_ret
        exact ⟨cQ (CY hle.out (by rw [hwt.out, hpl.out, hid, hto, tZ (by rw [hpl.out]; exact hok)]; rfl)).symm, hB⟩
def cL (e : Le) : List Value := [.int .i64 e.a, .int .i64 e.l, .int .i64 e.kd, .int .i64 e.ow, .int .i64 e.un]
def flatL (es : List Le) : List Value := es.flatMap cL
theorem G8 (e : Le) : (cL e).length = 5 := rfl
theorem gZ : ∀ es : List Le, (flatL es).length = es.length * 5 := mH G8
theorem uA (es fs : List Le) : flatL (es ++ fs) = flatL es ++ flatL fs := by simp [flatL]
theorem yA : ∀ (es : List Le) (i j : Nat), i < es.length → j < 5 → (flatL es)[i * 5 + j]? = (cL (aO es i))[j]? := rZ G8 WA
theorem pO (es : List Le) : ∀ u ∈ flatL es, u.oneCell' = true := fun u hu => by
 obtain ⟨e, -, hu⟩ := List.mem_flatMap.1 hu
 simp only [cL, List.mem_cons, List.not_mem_nil, or_false] at hu
 rcases hu with rfl | rfl | rfl | rfl | rfl <;> rfl
def cJ (w : World) (base : Nat) (v : Value) (es : List Le) : Prop := w.ownsRow base 138 5 v es.length (flatL es)
theorem cJ.later (h : cJ w base v es) (hb : Below w.heap.size w w') : cJ w' base v es := jF h hb
theorem cJ.kept (h : cJ w base v es) (hg : w.grownBy w' (some g)) (hne : ∀ k, v.ownBlock = some k → k ≠ g) : cJ w' base v es := iL h hg hne
theorem cJ.low (h : cJ w base v es) (hb : base' ≤ base) : cJ w base' v es := jG h hb
theorem cJ.lt (h : cJ w base v es) : ∀ k, v.ownBlock = some k → base ≤ k ∧ k < w.heap.size := World.ownsRow.lt h
theorem cJ.ne {t : TypeId} (h : cJ w base v es) (hb : w.heap[b]? = some (.cells cs t fr)) (ht : t ≠ 138) : v.ownBlock ≠ some b := nZ h hb ht
theorem Q4 : Ty 138 57 5 (.agg #[.int .i64 0, .int .i64 0, .int .i64 0, .int .i64 0, .int .i64 0]) 40 := vG (by kernel_rfl) (by kernel_rfl) rfl (pO [WA]) (by decide) (by decide)
theorem LS.flat_cells (h : LS w (some ad) n es) : ∀ j u, (flatL es)[j]? = some u → w.cell? (ad.add j) = some u :=
 jV (by decide) G8 WA h.len fun i hi => by
  obtain ⟨b, o, hx, d0, d1, d2, d3, d4⟩ := h.cells i hi
  exact ⟨b, o, hx, by rintro (_ | _ | _ | _ | _ | q) u hu <;> first | (cases hu; assumption) | simp [cL] at hu⟩
theorem LS.rw (h : LS w x n es) : Rw w x n 5 (flatL es) :=
 ⟨by rw [gZ, h.len], fun h0 e => (by obtain ⟨b, o, hx, -⟩ := h.cells 0 h0; rw [e] at hx; cases hx), pO es, fun ad hx => by subst hx; exact h.flat_cells⟩
theorem cJ.mem (h : cJ w base v es) : ∃ x c, v = .slice x es.length c ∧ es.length ≤ c ∧ c ≤ 9223372036854775807 ∧ (x = none → es.length = 0 ∧ c = 0) ∧ ∀ i, i < es.length → ∃ b o, x = some ⟨b, o, none⟩ ∧ w.cell? ⟨b, o + i * 5, none⟩ = some (.int .i64 (aO es i).a) ∧ w.cell? ⟨b, o + i * 5 + 1, none⟩ = some (.int .i64 (aO es i).l) ∧ w.cell? ⟨b, o + i * 5 + 2, none⟩ = some (.int .i64 (aO es i).kd) ∧ w.cell? ⟨b, o + i * 5 + 3, none⟩ = some (.int .i64 (aO es i).ow) ∧ w.cell? ⟨b, o + i * 5 + 4, none⟩ = some (.int .i64 (aO es i).un) := by
 obtain ⟨x, c, hv, h1, h2, h3, h4⟩ := mI h
 refine ⟨x, c, hv, h1, h2, h3, fun i hi => ?_⟩
 obtain ⟨b, o, hx, e⟩ := h4 i hi
 have e := fun j u hj hu => e j u hj ((yA es i j hi hj).trans hu)
 exact ⟨b, o, hx, e 0 _ (by decide) rfl, e 1 _ (by decide) rfl, e 2 _ (by decide) rfl, e 3 _ (by decide) rfl, e 4 _ (by decide) rfl⟩
def cP (e : Po) : List Value := [.int .i64 e.id, .int .i64 e.up, .int .i64 e.a, .int .i64 e.l, .int .i64 e.mn, .int .i64 e.mx, .int .i64 e.us, .int .i64 e.co, .slice e.x e.n e.c]
def flatP (es : List Po) : List Value := es.flatMap cP
theorem G9 (e : Po) : (cP e).length = 9 := rfl
theorem eQ : ∀ es : List Po, (flatP es).length = es.length * 9 := mH G9
theorem BN (es fs : List Po) : flatP (es ++ fs) = flatP es ++ flatP fs := by simp [flatP]
theorem lS : ∀ (es : List Po) (i j : Nat), i < es.length → j < 9 → (flatP es)[i * 9 + j]? = (cP (poAt es i))[j]? := rZ G9 WB
theorem pP (es : List Po) : ∀ u ∈ flatP es, u.oneCell' = true := fun u hu => by
 obtain ⟨e, -, hu⟩ := List.mem_flatMap.1 hu
 simp only [cP, List.mem_cons, List.not_mem_nil, or_false] at hu
 rcases hu with rfl | rfl | rfl | rfl | rfl | rfl | rfl | rfl | rfl <;> rfl
def dP (w : World) (base : Nat) (v : Value) (es : List Po) : Prop := w.ownsRow base 59 9 v es.length (flatP es)
theorem dP.later {es : List Po} (h : dP w base v es) (hb : Below w.heap.size w w') : dP w' base v es := jF h hb
theorem dP.kept {es : List Po} (h : dP w base v es) (hg : w.grownBy w' (some g)) (hne : ∀ k, v.ownBlock = some k → k ≠ g) : dP w' base v es := iL h hg hne
theorem dP.low {es : List Po} (h : dP w base v es) (hb : base' ≤ base) : dP w base' v es := jG h hb
theorem dP.lt {es : List Po} (h : dP w base v es) : ∀ k, v.ownBlock = some k → base ≤ k ∧ k < w.heap.size := World.ownsRow.lt h
theorem dP.ne {es : List Po} {t : TypeId} (h : dP w base v es) (hb : w.heap[b]? = some (.cells cs t fr)) (ht : t ≠ 59) : v.ownBlock ≠ some b := nZ h hb ht
theorem TK : Ty 59 23 9 (.agg #[.int .i64 0, .int .i64 0, .int .i64 0, .int .i64 0, .int .i64 0, .int .i64 0, .int .i64 0, .int .i64 0, .slice none 0 0]) 88 := vG (by kernel_rfl) (by kernel_rfl) rfl (pP [WB]) (by decide) (by decide)
theorem nW.flat_cells {es : List Po} (h : nW w (some ad) n es) : ∀ j u, (flatP es)[j]? = some u → w.cell? (ad.add j) = some u :=
 jV (by decide) G9 WB h.len fun i hi => by
  obtain ⟨b, o, hx, d0, d1, d2, d3, d4, d5, d6, d7, d8⟩ := h.cells i hi
  exact ⟨b, o, hx, by rintro (_ | _ | _ | _ | _ | _ | _ | _ | _ | q) u hu <;> first | (cases hu; assumption) | simp [cP] at hu⟩
theorem nW.rw {es : List Po} (h : nW w x n es) : Rw w x n 9 (flatP es) :=
 ⟨by rw [eQ, h.len], fun h0 e => (by obtain ⟨b, o, hx, -⟩ := h.cells 0 h0; rw [e] at hx; cases hx), pP es, fun ad hx => by subst hx; exact h.flat_cells⟩
theorem dP.mem {es : List Po} (h : dP w base v es) : ∃ x c, v = .slice x es.length c ∧ es.length ≤ c ∧ c ≤ 9223372036854775807 ∧ (x = none → es.length = 0 ∧ c = 0) ∧ ∀ i, i < es.length → ∃ b o, x = some ⟨b, o, none⟩ ∧ w.cell? ⟨b, o + i * 9, none⟩ = some (.int .i64 (poAt es i).id) ∧ w.cell? ⟨b, o + i * 9 + 1, none⟩ = some (.int .i64 (poAt es i).up) ∧ w.cell? ⟨b, o + i * 9 + 2, none⟩ = some (.int .i64 (poAt es i).a) ∧ w.cell? ⟨b, o + i * 9 + 3, none⟩ = some (.int .i64 (poAt es i).l) ∧ w.cell? ⟨b, o + i * 9 + 4, none⟩ = some (.int .i64 (poAt es i).mn) ∧ w.cell? ⟨b, o + i * 9 + 5, none⟩ = some (.int .i64 (poAt es i).mx) ∧ w.cell? ⟨b, o + i * 9 + 6, none⟩ = some (.int .i64 (poAt es i).us) ∧ w.cell? ⟨b, o + i * 9 + 7, none⟩ = some (.int .i64 (poAt es i).co) ∧ w.cell? ⟨b, o + i * 9 + 8, none⟩ = some (.slice (poAt es i).x (poAt es i).n (poAt es i).c) := by
 obtain ⟨x, c, hv, h1, h2, h3, h4⟩ := mI h
 refine ⟨x, c, hv, h1, h2, h3, fun i hi => ?_⟩
 obtain ⟨b, o, hx, e⟩ := h4 i hi
 have e := fun j u hj hu => e j u hj ((lS es i j hi hj).trans hu)
 exact ⟨b, o, hx, e 0 _ (by decide) rfl, e 1 _ (by decide) rfl, e 2 _ (by decide) rfl, e 3 _ (by decide) rfl, e 4 _ (by decide) rfl, e 5 _ (by decide) rfl, e 6 _ (by decide) rfl, e 7 _ (by decide) rfl, e 8 _ (by decide) rfl⟩
theorem HA (x : Option Addr) (n c : Nat) (es : List Le) (w : World) (hl : LS w x n es) (hn : n ≤ 1048576) :
  Calls Tryz.prog 78 #[.slice x n c] w fun e w' => ∃ v, e = .returned v ∧ cJ w' w.heap.size v es ∧ Below w.heap.size w w' := by
 obtain rfl := hl.len
 exact oB.1 _ _ Q4 x _ c _ w hl.rw hn
theorem HB (x : Option Addr) (n c : Nat) (es : List Po) (w : World) (hl : nW w x n es) (hn : n ≤ 1048576) :
  Calls Tryz.prog 77 #[.slice x n c] w fun e w' => ∃ v, e = .returned v ∧ dP w' w.heap.size v es ∧ Below w.heap.size w w' := by
 obtain rfl := hl.len
 exact oB.2.1 _ _ TK x _ c _ w hl.rw hn
def aT (p : Po) (x : Option Addr) (n c : Nat) (ls : List Le) : Po := ⟨p.id, p.up, p.a, p.l, p.mn, p.mx, p.us, p.co, x, n, c, ls⟩
theorem cY (hi : i < ps.length) : poAt (ps.set i p) j = if i = j then p else poAt ps j := by
 unfold poAt
 rw [zF, zF, List.getElem?_set]
 by_cases h : i = j
 ·subst h; rw [if_pos rfl, if_pos rfl, if_pos hi]; rfl
 ·rw [if_neg h, if_neg h]
theorem KN (ps : List Po) (i : Nat) (x : Option Addr) (n c : Nat) (ls : List Le) (hi : i < ps.length) : (flatP ps).set (i * 9 + 8) (.slice x n c) = flatP (ps.set i (aT (poAt ps i) x n c ls)) := by
 refine List.ext_getElem? fun j => ?_
 by_cases hj : j < ps.length * 9
 ·have e : j = (j / 9) * 9 + j % 9 := by omega
  have hq : j / 9 < ps.length := by omega
  rw [e, lS _ _ _ (by rw [List.length_set]; exact hq) (by omega), cY hi, List.getElem?_set]
  by_cases h1 : i = j / 9
  ·rw [if_pos h1]
   by_cases h2 : j % 9 = 8
   ·rw [if_pos (by omega), if_pos (by rw [eQ]; omega), h2]
    rfl
   ·rw [if_neg (by omega), lS _ _ _ hq (by omega), h1]
    have h3 : j % 9 < 8 := by omega
    generalize j % 9 = r at h3
    rcases r with _ | _ | _ | _ | _ | _ | _ | _ | r
    all_goals first | rfl | omega
  ·rw [if_neg h1, if_neg (by omega), lS _ _ _ hq (by omega)]
 ·rw [List.getElem?_eq_none (by rw [List.length_set, eQ]; omega), List.getElem?_eq_none (by rw [eQ, List.length_set]; omega)]
theorem dP.set (h : dP w base (.slice (some ⟨g, 0, none⟩) n cap) ps) (i : Nat) (hi : i < ps.length) (x : Option Addr) (m c : Nat) (ls : List Le) :
  dP (w.setCell ⟨g, i * 9 + 8, none⟩ (.slice x m c)) base (.slice (some ⟨g, 0, none⟩) n cap) (ps.set i (aT (poAt ps i) x m c ls)) := by
 rcases h.2 with ⟨hv, -⟩ | ⟨g', cap', cur, hv, h1, h2, h3, h4, h5, h6⟩
 ·simp at hv
 ·simp only [Value.slice.injEq, Option.some.injEq, Addr.mk.injEq] at hv
  obtain ⟨⟨rfl, -⟩, rfl, rfl⟩ := hv
  refine ⟨eQ _, .inr ⟨g, cap, cur.setIfInBounds (i * 9 + 8) (.slice x m c), by rw [List.length_set], h1, heap_setCell_same w g _ _ _ _ h2, by rw [List.length_set]; exact h3, h4, by simpa using h5, ?_⟩⟩
  rw [List.length_set, Array.toList_setIfInBounds, List.take_set, h6, KN ps i x m c ls hi]
theorem aH (w : World) (g o : Nat) (v : Value) : w.grownBy (w.setCell ⟨g, o, none⟩ v) (some g) := by
 refine ⟨rfl, rfl, rfl, by simp, fun k _ hne => zB (fun e => hne (by rw [e]))⟩
theorem dP.frozen (h : dP w base (.slice (some ⟨g, 0, none⟩) n cap) ps) (i : Nat) : w.frozen? ⟨g, i, none⟩ = false := mJ h i
theorem cJ.ls (h : cJ w base (.slice x n c) es) : LS w x n es ∧ es.length = n ∧ n ≤ c ∧ c ≤ 9223372036854775807 := by
 obtain ⟨x', c', hv, h1, h2, -, h4⟩ := h.mem
 simp only [Value.slice.injEq] at hv
 obtain ⟨rfl, rfl, rfl⟩ := hv
 exact ⟨⟨rfl, h4⟩, rfl, h1, h2⟩
structure dR (w : World) (base : Nat) (v : Value) (ps : List Po) (k : Nat) : Prop where
 row : dP w base v ps
 own : ∀ i, i < k → cJ w base (.slice (poAt ps i).x (poAt ps i).n (poAt ps i).c) (poAt ps i).ls
 rest : ∀ i, k ≤ i → i < ps.length → LS w (poAt ps i).x (poAt ps i).n (poAt ps i).ls ∧ (poAt ps i).n ≤ (poAt ps i).c ∧ (poAt ps i).n ≤ 1048576 ∧ (∀ q, (poAt ps i).x = some q → 0 < (poAt ps i).n → q.block < base)
 apart : ∀ i j, i < k → j < k → i ≠ j → ∀ b, (Value.slice (poAt ps i).x (poAt ps i).n (poAt ps i).c).ownBlock = some b → (Value.slice (poAt ps j).x (poAt ps j).n (poAt ps j).c).ownBlock ≠ some b
def sH (p q : Po) : Prop := p.id = q.id ∧ p.up = q.up ∧ p.a = q.a ∧ p.l = q.l ∧ p.mn = q.mn ∧ p.mx = q.mx ∧ p.us = q.us ∧ p.co = q.co ∧ p.n = q.n ∧ p.ls = q.ls
def cD (ps qs : List Po) : Prop := ps.length = qs.length ∧ ∀ i, i < ps.length → sH (poAt ps i) (poAt qs i)
theorem sH.refl (p : Po) : sH p p := ⟨rfl, rfl, rfl, rfl, rfl, rfl, rfl, rfl, rfl, rfl⟩
theorem cD.refl (ps : List Po) : cD ps ps := ⟨rfl, fun _ _ => sH.refl _⟩
theorem dR.bk (h : dR w base v ps ps.length) (hs : ∀ i, i < ps.length → (poAt ps i).n ≤ 1048576) : ∃ x c, v = .slice x ps.length c ∧ Bk w x ps.length c ps := by
 obtain ⟨x, c, hv, h1, h2, h3, h4⟩ := h.row.mem
 exact ⟨x, c, hv, ⟨rfl, h4, fun i hi => by
  obtain ⟨g1, g2, g3, -⟩ := (h.own i hi).ls
  exact ⟨g3, hs i hi, g1⟩⟩, h1, h2⟩
theorem dR.later (h : dR w base v ps k) (hb : Below w.heap.size w w') : dR w' base v ps k :=
 ⟨h.row.later hb, fun i hi => (h.own i hi).later hb, fun i hi hi2 => by
  obtain ⟨g1, g2⟩ := h.rest i hi hi2
  exact ⟨g1.later hb, g2⟩, h.apart⟩
abbrev gR (t : Int) (v : Value) : Obj := .cells #[.int .i64 t, v] 25
theorem Q5 (h : V.heap[b]? = some (gR t v)) : ((V.setCell ⟨b, 0, none⟩ (.int .i64 t')).setCell ⟨b, 1, none⟩ v').heap[b]? = some (gR t' v') := by
 have h1 := heap_setCell_same V b 0 _ 25 (.int .i64 t') h
 have h2 := heap_setCell_same _ b 1 _ 25 v' h1
 simpa using h2
def KO (t : Int) (ps : List Po) (w : World) (e : Ending) (w' : World) : Prop :=
 ∃ v qs, e = .returned (.agg #[.int .i64 t, v]) ∧ cD ps qs ∧ dR w' w.heap.size v qs qs.length ∧ Below w.heap.size w w'
theorem dR.start {base x n c v ps} (hk : Bk w x n c ps) (hb : Below w.heap.size w w') (h : dP w' base v ps) (hw2 : w.heap.size ≤ base) : dR w' base v ps 0 where
 row := h
 own := fun i hi => by omega
 rest := fun i _ hi => by
  obtain ⟨g1, g2, g3⟩ := hk.ps.leases i (by rw [← hk.ps.len]; exact hi)
  refine ⟨g3.later hb, g1, g2, fun q hq h0 => ?_⟩
  obtain ⟨b, o, hx, c0, -⟩ := g3.cells 0 h0
  rw [hq] at hx
  cases hx
  exact Nat.lt_of_lt_of_le (block_lt_of_cell c0) hw2
 apart := fun i j hi => by omega
theorem LS.set {ls : List Le} (h : LS w x n ls) (hx : ∀ q, x = some q → 0 < n → q.block ≠ g) : LS (w.setCell ⟨g, o, none⟩ v) x n ls where
 len := h.len
 cells := fun i hi => by
  obtain ⟨b, of, he, c0, c1, c2, c3, c4⟩ := h.cells i hi
  have hne : b ≠ g := hx _ he (by omega)
  exact ⟨b, of, he, (bC hne).trans c0, (bC hne).trans c1, (bC hne).trans c2, (bC hne).trans c3, (bC hne).trans c4⟩
theorem dP.block (h : dP w base (.slice (some ⟨g, 0, none⟩) n cap) ps) : base ≤ g ∧ ∃ cur, w.heap[g]? = some (.cells cur 59) := pH h
theorem dR.step (h : dR W base (.slice (some ⟨g, 0, none⟩) n cap) qs k) (hk : k < qs.length) (hb : Below W.heap.size W W1) (ho : cJ W1 W.heap.size (.slice x' (poAt qs k).ls.length c') (poAt qs k).ls) (hwb : base ≤ W.heap.size) :
  dR (W1.setCell ⟨g, k * 9 + 8, none⟩ (.slice x' (poAt qs k).ls.length c')) base (.slice (some ⟨g, 0, none⟩) n cap) (qs.set k (aT (poAt qs k) x' (poAt qs k).ls.length c' (poAt qs k).ls)) (k + 1) := by
 have hr := h.row.later hb
 obtain ⟨hbg, cur, hg⟩ := hr.block
 have hall : ∀ i, i < k + 1 → cJ W1 base (.slice (poAt (qs.set k (aT (poAt qs k) x' (poAt qs k).ls.length c' (poAt qs k).ls)) i).x (poAt (qs.set k (aT (poAt qs k) x' (poAt qs k).ls.length c' (poAt qs k).ls)) i).n (poAt (qs.set k (aT (poAt qs k) x' (poAt qs k).ls.length c' (poAt qs k).ls)) i).c) (poAt (qs.set k (aT (poAt qs k) x' (poAt qs k).ls.length c' (poAt qs k).ls)) i).ls := fun i hi => by
  rw [cY hk]
  by_cases e : k = i
  ·rw [if_pos e]; exact ho.low hwb
  ·rw [if_neg e]; exact (h.own i (by omega)).later hb
 refine ⟨hr.set k hk x' _ c' _, fun i hi => (hall i hi).kept (aH _ _ _ _) (fun q hq e => by subst e; exact (hall i hi).ne hg (by decide) hq), fun i hi hi2 => ?_, fun i j hi hj hij b hbi hbj => ?_⟩
 ·rw [List.length_set] at hi2
  rw [cY hk, if_neg (by omega)]
  obtain ⟨g1, g2, g3, g4⟩ := h.rest i (by omega) hi2
  exact ⟨(g1.later hb).set (fun q hq h0 => by have := g4 q hq h0; omega), g2, g3, g4⟩
 ·rw [cY hk] at hbi hbj
  by_cases e : k = i
  ·rw [if_pos e] at hbi
   rw [if_neg (by omega)] at hbj
   have h1 := ho.lt b hbi
   have h2 := (h.own j (by omega)).lt b hbj
   omega
  ·rw [if_neg e] at hbi
   by_cases e2 : k = j
   ·rw [if_pos e2] at hbj
    have h1 := ho.lt b hbj
    have h2 := (h.own i (by omega)).lt b hbi
    omega
   ·rw [if_neg e2] at hbj
    exact h.apart i j (by omega) (by omega) hij b hbi hbj
theorem dR.low (h : dR w base v ps ps.length) (hb : base' ≤ base) : dR w base' v ps ps.length :=
 ⟨h.row.low hb, fun i hi => (h.own i hi).low hb, fun i hi hi2 => by omega, h.apart⟩
theorem dR.put (h : dR w base v ps ps.length) (hb : b < base) : dR (w.setCell ⟨b, o, none⟩ u) base v ps ps.length :=
 ⟨h.row.kept (aH _ _ _ _) (fun k hk => by have := h.row.lt k hk; omega), fun i hi => (h.own i hi).kept (aH _ _ _ _) (fun k hk => by have := (h.own i hi).lt k hk; omega), fun i hi hi2 => by omega, h.apart⟩
theorem cD.set (h : cD ps qs) (hk : k < qs.length) (hn : (poAt qs k).ls.length = (poAt qs k).n) : cD ps (qs.set k (aT (poAt qs k) x (poAt qs k).ls.length c (poAt qs k).ls)) := by
 refine ⟨by rw [List.length_set]; exact h.1, fun i hi => ?_⟩
 have hs := h.2 i hi
 rw [cY hk]
 by_cases e : k = i
 ·subst e
  rw [if_pos rfl]
  obtain ⟨a1, a2, a3, a4, a5, a6, a7, a8, a9, a10⟩ := hs
  exact ⟨a1, a2, a3, a4, a5, a6, a7, a8, a9.trans hn.symm, a10⟩
 ·rw [if_neg e]; exact hs
theorem dZ (t : Int) (x : Option Addr) (n c : Nat) (ps : List Po) (w : World) (hk : Bk w x n c ps) (hn : n ≤ 64) :
  Calls Tryz.prog 41 #[.agg #[.int .i64 t, .slice x n c]] w (KO t ps w) := by
 go_enter Tryz.func41, Tryz.ntmps41
 go_upto_region 1 with fail
 obtain ⟨w0, hw0⟩ : ∃ w0, w0 = (w.alloc (gR t (.slice x n c))).alloc (gR 0 (.slice none 0 0)) := ⟨_, rfl⟩
 rw [← hw0]
 have hB0 : Below w.heap.size w w0 := by rw [hw0]; exact cC w _ _
 have hb0 : w0.heap[w.heap.size]? = some (gR t (.slice x n c)) := by rw [hw0]; exact aF _ (aB _ rfl)
 have hr0 : w0.heap[w.heap.size + 1]? = some (gR 0 (.slice none 0 0)) := by rw [hw0]; exact aB _ (by simp)
 clear hw0
 have hsz : w.heap.size + 1 < w0.heap.size := (zG hr0)
 obtain ⟨kb, -⟩ := aE hb0
 have k0 : w0.cell? ⟨w.heap.size, 0, none⟩ = some (.int .i64 t) := kb 0
 have k1 : w0.cell? ⟨w.heap.size, 1, none⟩ = some (.slice x n c) := kb 1
 clear kb
 have hcl := fun W h => HB x n c ps W h (by omega)
 go_cut [3] (fun p wc => ∃ nb v, p = .pointer (some ⟨nb, 0, none⟩) ∧ w0.heap.size ≤ nb ∧ dP wc w0.heap.size v ps ∧ wc.heap[nb]? = some (gR t v) ∧ Below w0.heap.size w0 wc)
 case first =>
  go_region_held3 (fun w' => w'.cell? ⟨w.heap.size, 0, none⟩ = some (.int .i64 t) ∧ w'.cell? ⟨w.heap.size, 1, none⟩ = some (.slice x n c)) (first | (exact ⟨(aG hb1 (by first | exact k0 | exact aG (bl1 _ _).drew k0)), (aG hb1 (by first | exact k1 | exact aG (bl1 _ _).drew k1))⟩) | (exact ⟨aG (bl1 _ _) (aG hb1 (by first | exact k0 | exact aG (bl1 _ _).drew k0)), aG (bl1 _ _) (aG hb1 (by first | exact k1 | exact aG (bl1 _ _).drew k1))⟩) | (exact ⟨aG (bl1 _ _) k0, aG (bl1 _ _) k1⟩) | (exact ⟨((bC (by omega)).trans ((bC (by omega)).trans (aG hb1 (by first | exact k0 | exact aG (bl1 _ _).drew k0)))), ((bC (by omega)).trans ((bC (by omega)).trans (aG hb1 (by first | exact k1 | exact aG (bl1 _ _).drew k1))))⟩) | (go_keep; done)) (first | (go_at_call 77; refine (hcl _ (by first | exact hk.ps.later hB0.drew | exact hk.ps.later ((hB0.drew.alloc hB0.size _)) | exact hk.ps.later ((hB0.alloc hB0.size _).drew))).mono ?_; rintro e w1 ⟨v1, rfl, hO1, hb1⟩; obtain ⟨x1, c1, rfl, h11, h12, h13, h14⟩ := hO1.mem; try (have hx : w1.heap[w0.heap.size]? = some (gR 0 (.slice none 0 0)) := aA hb1 (aB (W := w0) _ rfl); have q0 : w1.cell? ⟨w0.heap.size, 0, none⟩ = some (.int .i64 0) := (aE hx).1 0; have q1 : w1.cell? ⟨w0.heap.size, 1, none⟩ = some (.slice none 0 0) := (aE hx).1 1; have f0 := (aE hx).2 0; have f1 := (aE hx).2 1)) | fail)
  all_goals go_wp2
  all_goals go_meet
  case rel => exact ⟨_, _, rfl, hb1.size, hO1.later (bl1 _ _), aB _ rfl, Below.alloc (B := w0.heap.size) (a := w0) ⟨hb1.os, hb1.tape, hb1.output, hb1.size, hb1.block⟩ hb1.size _⟩
  case rel => exact ⟨_, _, rfl, zE, dP.low (base := w0.heap.size + 1) ((dP.kept (base := w0.heap.size + 1) (by simpa using hO1) (aH _ _ _ _) (fun q hq e => by subst e; exact hO1.ne hx (by decide) hq)).kept (aH _ _ _ _) (fun q hq e => by subst e; exact hO1.ne hx (by decide) hq)) (by omega), Q5 hx, ((Below.trans (bl1 w0 (gR 0 (.slice none 0 0))) (Below.mono (B := w0.heap.size + 1) ⟨hb1.os, hb1.tape, hb1.output, hb1.size, fun k hk => hb1.block k (by simpa using hk)⟩ (by omega))).setCell (zE) _).setCell (zE) _⟩
 case rest =>
  obtain ⟨nb, v, rfl, hnb, hO, hbx, hBc⟩ := hcut
  have hk0 : dR wc w0.heap.size v ps 0 := dR.start hk (hB0.trans (hBc.mono hB0.size)) hO hB0.size
  obtain ⟨xv, cv, rfl, hv1, hv2, hv3, hv4⟩ := hO.mem
  have e1 := aX hbx 1 rfl
  go_wp2
  clear e1
  go_loopw [14] (fun i wr => ∃ (q : Nat) (qs : List Po), q ≤ ps.length ∧ i = .int .i64 q ∧ cD ps qs ∧ dR wr w0.heap.size (.slice xv ps.length cv) qs q ∧ wr.heap[nb]? = some (gR t (.slice xv ps.length cv)) ∧ Below w0.heap.size w0 wr) (fun i _ => ps.length - (intOf i).toNat)
  case atStart => exact ⟨0, ps, by omega, rfl, cD.refl _, hk0, hbx, hBc⟩
  case round =>
   obtain ⟨q, qs, hq, rfl, hs, hQ, hbr, hBr⟩ := hrel
   obtain ⟨e0, e1⟩ := aR hbr rfl rfl
   by_cases hlt : q < ps.length
   ·have hlq : q < qs.length := by rw [← hs.1]; exact hlt
    have hlt' := hlt
    obtain ⟨x2, c2, he2, -, -, -, hm⟩ := hQ.row.mem
    simp only [Value.slice.injEq] at he2
    obtain ⟨rfl, -, rfl⟩ := he2
    obtain ⟨b2, o2, he3, -, -, -, -, -, -, -, -, c8⟩ := hm q hlq
    rcases hQ.row.2 with ⟨hv, -⟩ | ⟨g, cap, cur, hv, hg1, hg2, -⟩
    ·rw [he3] at hv; simp at hv
    simp only [Value.slice.injEq] at hv
    obtain ⟨hx3, -, rfl⟩ := hv
    rw [hx3] at he3
    simp only [Option.some.injEq, Addr.mk.injEq] at he3
    obtain ⟨rfl, rfl, -⟩ := he3
    subst hx3
    obtain ⟨hLS, hnc, hnb2, -⟩ := hQ.rest q (zE) hlq
    have hcl := fun W h => HA (poAt qs q).x (poAt qs q).n (poAt qs q).c (poAt qs q).ls W h hnb2
    go_wp2_with fail
    have c8' : wr.cell? ⟨g, q * 9 + 8, none⟩ = some (.slice (poAt qs q).x (poAt qs q).n (poAt qs q).c) := by simpa using c8
    go_region_with (go_at_call 78; refine (hcl _ (by first | exact hLS | exact hLS.later (zD).drew)).mono ?_; rintro e w1 ⟨v1, rfl, hO1, hb1⟩; obtain ⟨x1, c1, rfl, h11, h12, h13, h14⟩ := hO1.mem; have hb2 : Below wr.heap.size wr w1 := ⟨hb1.os, hb1.tape, hb1.output, hb1.size, hb1.block⟩; have d1 := aG hb2 e1; have d8 := aG hb2 c8'; have df : w1.frozen? ⟨g, q * 9 + 8, none⟩ = false := (hQ.row.later hb2).frozen _)
    all_goals have hne : nb ≠ g := fun e => by rw [e] at hbr; rw [hbr] at hg2; simp at hg2
    all_goals have hst := hQ.step (x' := x1) (c' := c1) hlq hb2 hO1 hBr.size
    all_goals have hh : (w1.setCell ⟨g, q * 9 + 8, none⟩ (.slice x1 (poAt qs q).ls.length c1)).heap[nb]? = some (gR t (.slice (some ⟨g, 0, none⟩) ps.length cv)) := (zB hne).trans (aA hb2 hbr)
    all_goals have hB3 := (hBr.trans (hb2.mono hBr.size)).setCell (p := ⟨g, q * 9 + 8, none⟩) hg1 (.slice x1 (poAt qs q).ls.length c1)
    all_goals clear d1 d8 df
    all_goals go_wp2
    all_goals go_roundw
    all_goals first | exact ⟨q + 1, _, hlt', by go_num, hs.set hlq hLS.len, hst, hh, hB3⟩ | (simp [intOf]; omega)
   ·obtain rfl : q = ps.length := by omega
    have hrr : wr.heap[w.heap.size + 1]? = some (gR 0 (.slice none 0 0)) := (hBr.block _ hsz).trans hr0
    obtain ⟨r0, r1⟩ := aR hrr rfl rfl
    obtain ⟨z0, z1⟩ := cA hrr
    go_wp2
    refine bodyPost_ret (v := .agg #[.int .i64 t, .slice xv ps.length cv]) (by simp [results, Tryz.results41, go_sem, r0, r1]) rfl ?_
    have hQ2 : dR wr w0.heap.size (.slice xv ps.length cv) qs qs.length := by rw [← hs.1]; exact hQ
    exact ⟨_, qs, rfl, hs, ((hQ2.put hsz).put hsz).low hB0.size, ((hB0.trans (hBr.mono hB0.size)).setCell (by simp) _).setCell (by simp) _⟩
theorem CZ (p r : Le) (v : Int) (hv : D9 p.a r.a v) (bb kk : Nat) (w : World) (hby : w.cell? ⟨bb, 0, none⟩ = some (.func (.func 130) #[] #[])) :
  Calls Tryz.prog 175 #[.agg #[.int .i64 p.a, .int .i64 p.l, .int .i64 p.kd, .int .i64 p.ow, .int .i64 p.un], .agg #[.int .i64 r.a, .int .i64 r.l, .int .i64 r.kd, .int .i64 r.ow, .int .i64 r.un], .slice (some ⟨bb, 0, none⟩) 1 kk] w fun e w' => e = .returned (.int .i64 v) ∧ Below w.heap.size w w' := KK.1 VE.1 p r v hv bb kk w hby
def NT (e : Le) (n : Nat) (ps : List Le) (w : World) (r : Ending) (w' : World) : Prop :=
 ∃ v, r = .returned v ∧ Below w.heap.size w w' ∧ ∃ i, i ≤ n ∧ (∀ j, j < i → ¬ e.a < (aO ps j).a) ∧ (i < n → e.a < (aO ps i).a) ∧ cJ w' w.heap.size v (ps.take i ++ [e] ++ ps.drop i)
theorem NU (e : Le) (x : Option Addr) (n c : Nat) (ps : List Le) (bf k : Nat) (w : World) (hp : LS w x n ps) (hn : n ≤ 32) (hnc : n ≤ c) (hc63 : c ≤ 9223372036854775807) (hx : (x = none ∧ c = 0) ∨ ∃ b o, x = some ⟨b, o, none⟩)
  (hby : w.cell? ⟨bf, 0, none⟩ = some (.func (.func 130) #[] #[])) :
  Calls Tryz.prog 129 #[.slice x n c, .agg #[.int .i64 e.a, .int .i64 e.l, .int .i64 e.kd, .int .i64 e.ow, .int .i64 e.un], .slice (some ⟨bf, 0, none⟩) 1 k] w (NT e n ps w) := by
 have hB2 := cC w (.cells #[.int .i64 e.a, .int .i64 e.l, .int .i64 e.kd, .int .i64 e.ow, .int .i64 e.un] 138) (.cells #[.slice (some ⟨bf, 0, none⟩) 1 k] 226)
 refine (EM.1 _ _ Q4 e x n c bf 1 k (flatL ps) (fun i => decide (e.a < (aO ps i).a)) w hp.rw (pO [e]) hn hnc hc63 hx (iX _ _ x n c ps _ _ (hp.later hB2) (by omega) (fun i hi W hW => ?_) jB.1.2)).mono ?_
 ·obtain ⟨v, hv, hd⟩ := rA e.a (aO ps i).a
  exact (jB.1.1 e (aO ps i) v w.heap.size (w.heap.size + 1) bf 1 k W (fun i => (hW.cell (p := ⟨w.heap.size, i, none⟩) (by show w.heap.size < _; simp; omega)).trans (by simp)) (cell_later hW (by simp)) fun W9 h9 => CZ e _ v hv bf k W9 (cell_later h9 (cell_later hW (cell_later hB2 hby)))).mono fun _ _ h => ⟨h.1.trans (congrArg (fun t => Ending.returned (.bool t)) hd.symm), h.2⟩
 ·rintro r w1 ⟨v, rfl, hb, i, hi, hlow, hup, ho⟩
  exact ⟨v, rfl, hb, i, hi, fun j hj => of_decide_eq_false (hlow j hj), fun h => of_decide_eq_true (hup h), kW flatL gZ uA hp.len hi ho⟩
def oF (p : Po) (z : Int) : Option Int := if p.n = 32 then none else tR p.a p.l p.n (lp p.ls) z
def eG (p : Po) (z : Int) : Int := if z < p.mn ∨ p.mx < z then 7 else match oF p z with
 | none => 8
 | some _ => 0
def eH (p : Po) (z : Int) : Int × Int := if z < p.mn ∨ p.mx < z then (0, 0) else match oF p z with
 | none => (0, 0)
 | some x => (x, z)
def yB (p : Po) (z : Int) (w : World) (e : Ending) (w' : World) : Prop :=
 e = .returned (.tuple #[.agg #[.int .i64 (eH p z).1, .int .i64 (eH p z).2], .int .i64 (eG p z)]) ∧ Below w.heap.size w w'
theorem EU (p : Po) (z : Int) (w : World) (hp : LS w p.x p.n p.ls) (hn : p.n ≤ 1048576) :
  Calls Tryz.prog 128 #[.agg #[.int .i64 p.id, .int .i64 p.up, .int .i64 p.a, .int .i64 p.l, .int .i64 p.mn, .int .i64 p.mx, .int .i64 p.us, .int .i64 p.co, .slice p.x p.n p.c], .int .i64 z] w (yB p z w) := by
 obtain ⟨id, up, a, l, mn, mx, us, co, x, n, c, ls⟩ := p
 simp only at hp hn ⊢
 have hB := cC w (.cells #[.int .i64 id, .int .i64 up, .int .i64 a, .int .i64 l, .int .i64 mn, .int .i64 mx, .int .i64 us, .int .i64 co, .slice x n c] 59) (.cells #[.int .i64 0, .int .i64 0] 49)
 by_cases hz : z < mn ∨ mx < z
 ·have he : eG ⟨id, up, a, l, mn, mx, us, co, x, n, c, ls⟩ z = 7 := if_pos hz
  have ho : eH ⟨id, up, a, l, mn, mx, us, co, x, n, c, ls⟩ z = (0, 0) := if_pos hz
  by_cases h1 : z < mn
  ·go_enter Tryz.func128, Tryz.ntmps128
   go_wp2
   refine bodyPost_ret (v := .tuple #[.agg #[.int .i64 0, .int .i64 0], .int .i64 7]) (by simp [results, Tryz.results128, go_sem]) rfl ⟨by rw [he, ho], ?_⟩
   first | exact (hB.setCell (p := ⟨w.heap.size + 1, 0, none⟩) (Nat.le_succ _) _).setCell (p := ⟨w.heap.size + 1, 1, none⟩) (Nat.le_succ _) _ | exact hB
  ·have h2 : mx < z := by omega
   go_enter Tryz.func128, Tryz.ntmps128
   go_wp2
   refine bodyPost_ret (v := .tuple #[.agg #[.int .i64 0, .int .i64 0], .int .i64 7]) (by simp [results, Tryz.results128, go_sem]) rfl ⟨by rw [he, ho], ?_⟩
   first | exact (hB.setCell (p := ⟨w.heap.size + 1, 0, none⟩) (Nat.le_succ _) _).setCell (p := ⟨w.heap.size + 1, 1, none⟩) (Nat.le_succ _) _ | exact hB
 ·have h1 : ¬ z < mn := fun h => hz (.inl h)
  have h2 : ¬ mx < z := fun h => hz (.inr h)
  have he : eG ⟨id, up, a, l, mn, mx, us, co, x, n, c, ls⟩ z = _ := if_neg hz
  have ho : eH ⟨id, up, a, l, mn, mx, us, co, x, n, c, ls⟩ z = _ := if_neg hz
  go_enter Tryz.func128, Tryz.ntmps128
  go_wp2_with fail
  refine (oC ⟨id, up, a, l, mn, mx, us, co, x, n, c, ls⟩ _ (hp.later hB) hn).mono ?_
  rintro e w1 ⟨x1, c1, rfl, hb1, hps1⟩
  go_wp2_with fail
  refine (QU a l x1 n c1 (lp ls) z w1 (fun _ => hps1)).mono ?_
  rintro e w2 ⟨rfl, hb2⟩
  have hB2 := hB.trans ((hb1.trans (hb2.mono hb1.size)).mono (by simp; omega))
  have hx8 : w2.heap[w.heap.size]? = some (.cells #[.int .i64 id, .int .i64 up, .int .i64 a, .int .i64 l, .int .i64 mn, .int .i64 mx, .int .i64 us, .int .i64 co, .slice x n c] 59) := aA hb2 (aA hb1 (aF _ (aB _ rfl)))
  have hx9 : w2.heap[w.heap.size + 1]? = some (.cells #[.int .i64 0, .int .i64 0] 49) := aA hb2 (aA hb1 (aB _ (by simp)))
  clear hb1 hb2 hps1
  cases hf : tR a l n (lp ls) z with
  | none =>
   have hq : oF ⟨id, up, a, l, mn, mx, us, co, x, n, c, ls⟩ z = none := by unfold oF; split; rfl; exact hf
   rw [hq] at he ho
   simp only [S6]
   go_upto_region 4 with fail
   obtain ⟨w3, hw3⟩ : ∃ w3, w3 = w2.alloc (.cells #[.int .i64 0, .int .i64 0] 49) := ⟨_, rfl⟩
   rw [← hw3]
   have hB3 : Below w.heap.size w w3 := by rw [hw3]; exact hB2.alloc hB2.size _
   have hy8 : w3.heap[w.heap.size]? = some (.cells #[.int .i64 id, .int .i64 up, .int .i64 a, .int .i64 l, .int .i64 mn, .int .i64 mx, .int .i64 us, .int .i64 co, .slice x n c] 59) := by rw [hw3]; exact aF _ hx8
   have hy9 : w3.heap[w.heap.size + 1]? = some (.cells #[.int .i64 0, .int .i64 0] 49) := by rw [hw3]; exact aF _ hx9
   have hyn : w3.heap[w2.heap.size]? = some (.cells #[.int .i64 0, .int .i64 0] 49) := by rw [hw3]; exact aB _ rfl
   clear hw3
   have d8 := aX hy8 8 rfl
   obtain ⟨r0, r1⟩ := aR hy9 rfl rfl
   obtain ⟨z0, z1⟩ := cA hy9
   obtain ⟨q0, q1⟩ := aR hyn rfl rfl
   go_wp2
   refine bodyPost_ret (v := .tuple #[.agg #[.int .i64 0, .int .i64 0], .int .i64 8]) (by simp [results, Tryz.results128, go_sem, r0, r1]) rfl ⟨by rw [he, ho], ?_⟩
   exact (hB3.setCell (p := ⟨w.heap.size + 1, 0, none⟩) (Nat.le_succ _) _).setCell (p := ⟨w.heap.size + 1, 1, none⟩) (Nat.le_succ _) _
  | some y =>
   simp only [S6]
   by_cases h32 : n = 32
   ·have hq : oF ⟨id, up, a, l, mn, mx, us, co, x, n, c, ls⟩ z = none := if_pos h32
    rw [hq] at he ho
    subst h32
    go_upto_region 4 with fail
    obtain ⟨w3, hw3⟩ : ∃ w3, w3 = w2.alloc (.cells #[.int .i64 y, .int .i64 z] 49) := ⟨_, rfl⟩
    rw [← hw3]
    have hB3 : Below w.heap.size w w3 := by rw [hw3]; exact hB2.alloc hB2.size _
    have hy8 : w3.heap[w.heap.size]? = some (.cells #[.int .i64 id, .int .i64 up, .int .i64 a, .int .i64 l, .int .i64 mn, .int .i64 mx, .int .i64 us, .int .i64 co, .slice x 32 c] 59) := by rw [hw3]; exact aF _ hx8
    have hy9 : w3.heap[w.heap.size + 1]? = some (.cells #[.int .i64 0, .int .i64 0] 49) := by rw [hw3]; exact aF _ hx9
    have hyn : w3.heap[w2.heap.size]? = some (.cells #[.int .i64 y, .int .i64 z] 49) := by rw [hw3]; exact aB _ rfl
    clear hw3
    have d8 := aX hy8 8 rfl
    obtain ⟨r0, r1⟩ := aR hy9 rfl rfl
    obtain ⟨z0, z1⟩ := cA hy9
    obtain ⟨q0, q1⟩ := aR hyn rfl rfl
    go_wp2
    refine bodyPost_ret (v := .tuple #[.agg #[.int .i64 0, .int .i64 0], .int .i64 8]) (by simp [results, Tryz.results128, go_sem, r0, r1]) rfl ⟨by rw [he, ho], ?_⟩
    exact (hB3.setCell (p := ⟨w.heap.size + 1, 0, none⟩) (Nat.le_succ _) _).setCell (p := ⟨w.heap.size + 1, 1, none⟩) (Nat.le_succ _) _
   ·have hq : oF ⟨id, up, a, l, mn, mx, us, co, x, n, c, ls⟩ z = some y := (if_neg h32).trans hf
    rw [hq] at he ho
    have h33 : ¬ (n : Int) = 32 := by omega
    go_upto_region 4 with fail
    obtain ⟨w3, hw3⟩ : ∃ w3, w3 = w2.alloc (.cells #[.int .i64 y, .int .i64 z] 49) := ⟨_, rfl⟩
    rw [← hw3]
    have hB3 : Below w.heap.size w w3 := by rw [hw3]; exact hB2.alloc hB2.size _
    have hy8 : w3.heap[w.heap.size]? = some (.cells #[.int .i64 id, .int .i64 up, .int .i64 a, .int .i64 l, .int .i64 mn, .int .i64 mx, .int .i64 us, .int .i64 co, .slice x n c] 59) := by rw [hw3]; exact aF _ hx8
    have hy9 : w3.heap[w.heap.size + 1]? = some (.cells #[.int .i64 0, .int .i64 0] 49) := by rw [hw3]; exact aF _ hx9
    have hyn : w3.heap[w2.heap.size]? = some (.cells #[.int .i64 y, .int .i64 z] 49) := by rw [hw3]; exact aB _ rfl
    clear hw3
    have d8 := aX hy8 8 rfl
    obtain ⟨r0, r1⟩ := aR hy9 rfl rfl
    obtain ⟨z0, z1⟩ := cA hy9
    obtain ⟨q0, q1⟩ := aR hyn rfl rfl
    go_wp2
    refine bodyPost_ret (v := .tuple #[.agg #[.int .i64 y, .int .i64 z], .int .i64 0]) (by simp [results, Tryz.results128, go_sem, r0, r1]) rfl ⟨by rw [he, ho], ?_⟩
    exact (hB3.setCell (p := ⟨w.heap.size + 1, 0, none⟩) (Nat.le_succ _) _).setCell (p := ⟨w.heap.size + 1, 1, none⟩) (Nat.le_succ _) _
theorem dR.swap {m : Nat} {ls : List Le} (h : dR W base (.slice (some ⟨g, 0, none⟩) n cap) qs qs.length) (hk : i < qs.length) (hb : Below W.heap.size W W1) (ho : cJ W1 W.heap.size (.slice x' m c') ls) (hwb : base ≤ W.heap.size) :
  dR (W1.setCell ⟨g, i * 9 + 8, none⟩ (.slice x' m c')) base (.slice (some ⟨g, 0, none⟩) n cap) (qs.set i (aT (poAt qs i) x' m c' ls)) (qs.set i (aT (poAt qs i) x' m c' ls)).length := by
 have hr := h.row.later hb
 obtain ⟨hbg, cur, hg⟩ := hr.block
 have hall : ∀ j, j < qs.length → cJ W1 base (.slice (poAt (qs.set i (aT (poAt qs i) x' m c' ls)) j).x (poAt (qs.set i (aT (poAt qs i) x' m c' ls)) j).n (poAt (qs.set i (aT (poAt qs i) x' m c' ls)) j).c) (poAt (qs.set i (aT (poAt qs i) x' m c' ls)) j).ls := fun j hj => by
  rw [cY hk]
  by_cases e : i = j
  ·rw [if_pos e]; exact ho.low hwb
  ·rw [if_neg e]; exact (h.own j hj).later hb
 have hlen : (qs.set i (aT (poAt qs i) x' m c' ls)).length = qs.length := List.length_set
 refine ⟨hr.set i hk x' _ c' _, fun j hj => (hall j (by omega)).kept (aH _ _ _ _) (fun q hq e => by subst e; exact (hall j (by omega)).ne hg (by decide) hq), fun j hj hj2 => by omega, fun j k hj hk2 hij b hbi hbj => ?_⟩
 rw [cY hk] at hbi hbj
 by_cases e : i = j
 ·rw [if_pos e] at hbi
  rw [if_neg (by omega)] at hbj
  have h1 := ho.lt b hbi
  have h2 := (h.own k (by omega)).lt b hbj
  omega
 ·rw [if_neg e] at hbi
  by_cases e2 : i = k
  ·rw [if_pos e2] at hbj
   have h1 := ho.lt b hbj
   have h2 := (h.own j (by omega)).lt b hbi
   omega
  ·rw [if_neg e2] at hbj
   exact h.apart j k (by omega) (by omega) hij b hbi hbj
def gC (e : Le) (ls ls' : List Le) : Prop := ∃ i, i ≤ ls.length ∧ (∀ j, j < i → ¬ e.a < (aO ls j).a) ∧ (i < ls.length → e.a < (aO ls i).a) ∧ ls' = ls.take i ++ [e] ++ ls.drop i
theorem gC.len {ls : List Le} (h : gC e ls ls') : ls'.length = ls.length + 1 := by
 obtain ⟨i, hi, -, -, rfl⟩ := h
 simp
 omega
def Q6 (e : Le) (base g n cap : Nat) (qs : List Po) (i : Nat) (w : World) (r : Ending) (w' : World) : Prop :=
 r = .returned (.tuple #[]) ∧ ∃ x' c' ls', gC e (poAt qs i).ls ls' ∧ dR w' base (.slice (some ⟨g, 0, none⟩) n cap) (qs.set i (aT (poAt qs i) x' ls'.length c' ls')) (qs.set i (aT (poAt qs i) x' ls'.length c' ls')).length ∧ w.grownBy w' (some g)
theorem sI (e : Le) (base g n cap : Nat) (qs : List Po) (i : Nat) (w : World) (h : dR w base (.slice (some ⟨g, 0, none⟩) n cap) qs qs.length) (hi : i < qs.length) (hn : (poAt qs i).n ≤ 32) (hwb : base ≤ w.heap.size) :
  Calls Tryz.prog 86 #[.pointer (some ⟨g, i * 9, none⟩), .agg #[.int .i64 e.a, .int .i64 e.l, .int .i64 e.kd, .int .i64 e.ow, .int .i64 e.un]] w (Q6 e base g n cap qs i w) := by
 obtain ⟨hbg, cur, hg⟩ := h.row.block
 obtain ⟨xv, cv, he2, -, -, -, hm⟩ := h.row.mem
 obtain ⟨b2, o2, he3, -, -, -, -, -, -, -, -, c8⟩ := hm i hi
 simp only [Value.slice.injEq] at he2
 obtain ⟨hx2, -, -⟩ := he2
 rw [← hx2] at he3
 simp only [Option.some.injEq, Addr.mk.injEq] at he3
 obtain ⟨rfl, rfl, -⟩ := he3
 clear hx2 hm
 have hO := h.own i hi
 obtain ⟨hLS, hll, hnc, hc63⟩ := hO.ls
 have hx : ((poAt qs i).x = none ∧ (poAt qs i).c = 0) ∨ ∃ b o, (poAt qs i).x = some ⟨b, o, none⟩ := by
  rcases hO.2 with ⟨hv, -⟩ | ⟨g2, cap2, cur2, hv, -⟩
  ·simp only [Value.slice.injEq] at hv; exact .inl ⟨hv.1, hv.2.2⟩
  ·simp only [Value.slice.injEq] at hv; exact .inr ⟨_, _, hv.1⟩
 go_enter Tryz.func86, Tryz.ntmps86
 go_upto_region 1 with fail
 obtain ⟨w0, hw0⟩ : ∃ w0, w0 = w.alloc (.cells #[.int .i64 e.a, .int .i64 e.l, .int .i64 e.kd, .int .i64 e.ow, .int .i64 e.un] 138) := ⟨_, rfl⟩
 rw [← hw0]
 have hB0 : Below w.heap.size w w0 := by rw [hw0]; exact bl1 w _
 have hb0 : w0.heap[w.heap.size]? = some (.cells #[.int .i64 e.a, .int .i64 e.l, .int .i64 e.kd, .int .i64 e.ow, .int .i64 e.un] 138) := by rw [hw0]; exact aB _ rfl
 clear hw0
 have c8' : w.cell? ⟨g, i * 9 + 8, none⟩ = some (.slice (poAt qs i).x (poAt qs i).n (poAt qs i).c) := by simpa using c8
 have d8 : w0.cell? ⟨g, i * 9 + 8, none⟩ = some (.slice (poAt qs i).x (poAt qs i).n (poAt qs i).c) := aG hB0 c8'
 have a8 : ∀ o, (w0.alloc o).cell? ⟨g, i * 9 + 8, none⟩ = some (.slice (poAt qs i).x (poAt qs i).n (poAt qs i).c) := fun o => aG (bl1 w0 o) d8
 have d0 := aX hb0 0 rfl
 have a0 : ∀ o, (w0.alloc o).cell? ⟨w.heap.size, 0, none⟩ = some (.int .i64 e.a) := fun o => aG (bl1 w0 o) d0
 have d1 := aX hb0 1 rfl
 have a1 : ∀ o, (w0.alloc o).cell? ⟨w.heap.size, 1, none⟩ = some (.int .i64 e.l) := fun o => aG (bl1 w0 o) d1
 have d2 := aX hb0 2 rfl
 have a2 : ∀ o, (w0.alloc o).cell? ⟨w.heap.size, 2, none⟩ = some (.int .i64 e.kd) := fun o => aG (bl1 w0 o) d2
 have d3 := aX hb0 3 rfl
 have a3 : ∀ o, (w0.alloc o).cell? ⟨w.heap.size, 3, none⟩ = some (.int .i64 e.ow) := fun o => aG (bl1 w0 o) d3
 have d4 := aX hb0 4 rfl
 have a4 : ∀ o, (w0.alloc o).cell? ⟨w.heap.size, 4, none⟩ = some (.int .i64 e.un) := fun o => aG (bl1 w0 o) d4
 have hput := NU e (poAt qs i).x (poAt qs i).n (poAt qs i).c (poAt qs i).ls w0.heap.size 1 (w0.alloc (.cells #[.func (.func 130) #[] #[]] 192)).drew ((hLS.later hB0).later (bl1 w0 _).drew) hn hnc hc63 hx (by simp)
 have hgo : ∀ w1, Below (w0.alloc (.cells #[.func (.func 130) #[] #[]] 192)).drew.heap.size (w0.alloc (.cells #[.func (.func 130) #[] #[]] 192)).drew w1 → Below w.heap.size w w1 := fun w1 hb1 =>
  (hB0.trans ((bl1 w0 _).mono hB0.size)).trans (Below.mono (B := w0.heap.size + 1) ⟨hb1.os, hb1.tape, hb1.output, hb1.size, fun k hk => hb1.block k (by simpa using hk)⟩ (by have := hB0.size; omega))
 go_region_with (go_at_call 129; refine hput.mono ?_; rintro e' w1 ⟨v1, rfl, hb1, i1, hi1, hlow, hup, hO1⟩; obtain ⟨ls', hls⟩ : ∃ ls', Hid (ls' = (poAt qs i).ls.take i1 ++ [e] ++ (poAt qs i).ls.drop i1) := ⟨_, rfl⟩; rw [← hls.out] at hO1; obtain ⟨x1, c1, rfl, h11, h12, h13, h14⟩ := hO1.mem; have hb2 : Below w.heap.size w w1 := hgo w1 hb1; have f8 := aG hb2 c8'; have df : w1.frozen? ⟨g, i * 9 + 8, none⟩ = false := (h.row.later hb2).frozen _)
 all_goals have hp2 : gC e (poAt qs i).ls ls' := ⟨i1, by rw [hll]; exact hi1, fun j hj => by have := hlow j hj; omega, fun hq => hup (by rw [← hll]; exact hq), hls.out⟩
 all_goals have hO2 : cJ w1 w.heap.size (.slice x1 ls'.length c1) ls' := hO1.low (by have := hB0.size; simp; omega)
 all_goals have hsw := h.swap hi hb2 hO2 hwb
 all_goals refine bodyPost_end (results_none Tryz.results86 _ _ _) rfl ?_
 all_goals exact ⟨rfl, x1, c1, ls', hp2, hsw, hb2.os, hb2.tape, hb2.output, by have := hb2.size; simpa using this, fun k hk hne => (zB (fun e => hne (by rw [e]))).trans (hb2.block k hk)⟩
def NV (e : Po) (n : Nat) (ps : List Po) (w : World) (r : Ending) (w' : World) : Prop :=
 ∃ v, r = .returned v ∧ Below w.heap.size w w' ∧ ∃ i, i ≤ n ∧ (∀ j, j < i → ¬ e.id < (poAt ps j).id) ∧ (i < n → e.id < (poAt ps i).id) ∧ dP w' w.heap.size v (ps.take i ++ [e] ++ ps.drop i)
theorem NW (e : Po) (x : Option Addr) (n c : Nat) (ps : List Po) (bf k : Nat) (w : World) (hp : nW w x n ps) (hn : n ≤ 32) (hnc : n ≤ c) (hc63 : c ≤ 9223372036854775807) (hx : (x = none ∧ c = 0) ∨ ∃ b o, x = some ⟨b, o, none⟩)
  (hby : w.cell? ⟨bf, 0, none⟩ = some (.func (.func 67) #[] #[])) :
  Calls Tryz.prog 127 #[.slice x n c, .agg #[.int .i64 e.id, .int .i64 e.up, .int .i64 e.a, .int .i64 e.l, .int .i64 e.mn, .int .i64 e.mx, .int .i64 e.us, .int .i64 e.co, .slice e.x e.n e.c], .slice (some ⟨bf, 0, none⟩) 1 k] w (NV e n ps w) := by
 have hB2 := cC w (.cells #[.int .i64 e.id, .int .i64 e.up, .int .i64 e.a, .int .i64 e.l, .int .i64 e.mn, .int .i64 e.mx, .int .i64 e.us, .int .i64 e.co, .slice e.x e.n e.c] 59) (.cells #[.slice (some ⟨bf, 0, none⟩) 1 k] 182)
 refine (EM.2.1 _ _ TK e x n c bf 1 k (flatP ps) (fun i => decide (e.id < (poAt ps i).id)) w hp.rw (pP [e]) hn hnc hc63 hx (nA _ _ x n c ps _ _ (hp.later hB2) (by omega) (fun i hi W hW => ?_) jB.2.1.2)).mono ?_
 ·obtain ⟨v, hv, hd⟩ := rA e.id (poAt ps i).id
  exact (jB.2.1.1 e (poAt ps i) v w.heap.size (w.heap.size + 1) bf 1 k W (fun i => (hW.cell (p := ⟨w.heap.size, i, none⟩) (by show w.heap.size < _; simp; omega)).trans (by simp)) (cell_later hW (by simp)) fun W9 h9 => sD e _ v hv bf k W9 (cell_later h9 (cell_later hW (cell_later hB2 hby)))).mono fun _ _ h => ⟨h.1.trans (congrArg (fun t => Ending.returned (.bool t)) hd.symm), h.2⟩
 ·rintro r w1 ⟨v, rfl, hb, i, hi, hlow, hup, ho⟩
  exact ⟨v, rfl, hb, i, hi, fun j hj => of_decide_eq_false (hlow j hj), fun h => of_decide_eq_true (hup h), kW flatP eQ BN hp.len hi ho⟩
structure TB (w W : World) (t : Int) (v : Value) : Prop where
 hb : W.heap[w.heap.size]? = some (gR t v)
 hs : W.heap[w.heap.size + 1]? = some (gR 0 (.slice none 0 0))
 hr : W.heap[w.heap.size + 2]? = some (.cells #[.int .i64 0, .int .i64 0] 49)
 below : Below w.heap.size w W
theorem TB.later (h : TB w W t v) (hb : Below W.heap.size W W') : TB w W' t v :=
 ⟨aA hb h.hb, aA hb h.hs, aA hb h.hr, h.below.trans (hb.mono h.below.size)⟩
theorem TB.fin (h : TB w W t v) (a b c d : Value) : Below w.heap.size w ((((W.setCell ⟨w.heap.size + 1, 0, none⟩ a).setCell ⟨w.heap.size + 1, 1, none⟩ b).setCell ⟨w.heap.size + 2, 0, none⟩ c).setCell ⟨w.heap.size + 2, 1, none⟩ d) :=
 (((h.below.setCell (p := ⟨w.heap.size + 1, 0, none⟩) (Nat.le_succ _) _).setCell (p := ⟨w.heap.size + 1, 1, none⟩) (Nat.le_succ _) _).setCell (p := ⟨w.heap.size + 2, 0, none⟩) (zA) _).setCell (p := ⟨w.heap.size + 2, 1, none⟩) (zA) _
theorem sJ (h : aV t ps = 0) : ps.length ≤ 8 := by
 unfold aV at h
 by_cases h8 : 8 < ps.length
 ·rw [if_pos h8] at h; cases h
 ·omega
theorem yC (h : eG p z = 0) : p.n ≤ 31 := by
 unfold eG at h
 split at h
 ·cases h
 ·cases hq : oF p z with
  | none => rw [hq] at h; cases h
  | some y =>
   unfold oF at hq
   split at hq
   ·cases hq
   ·rename_i h32
    unfold tR at hq
    split at hq
    ·rename_i he
     unfold tQ at he
     split at he
     ·rename_i hc
      have := (iG hc).1
      omega
     ·rename_i hc
      exact absurd he hc
    ·cases hq
theorem fU {o : Obj} (hg : W.grownBy W' (some g)) (h : W.heap[k]? = some o) (hne : k ≠ g) : W'.heap[k]? = some o :=
 (hg.block k (zG h) (fun e => hne (by simpa using e))).trans h
theorem lT {t u : TypeId} (hg : W.heap[g]? = some (.cells cs t)) (hk : W.heap[k]? = some (.cells ds u)) (ht : t ≠ u) : k ≠ g := fun e => by
 rw [e, hg] at hk
 simp only [Option.some.injEq, Obj.cells.injEq] at hk
 exact ht hk.2.1
theorem TB.grown (h : TB w W t v) (hg : W.grownBy W' (some g)) (hc : W.heap[g]? = some (.cells cs 59)) (hw : w.heap.size ≤ g) : TB w W' t v :=
 ⟨fU hg h.hb (lT hc h.hb (by decide)), fU hg h.hs (lT hc h.hs (by decide)), fU hg h.hr (lT hc h.hr (by decide)), h.below.grown hg h.below.size (fun k e => by cases e; exact hw)⟩
def nB (p : Po) (z : Int) : Int := if z = 0 then p.us else z
def cZ (t : Int) (ps : List Po) (id z ow : Int) : Int :=
 if aV t ps ≠ 0 then aV t ps else if aP ps id < 0 then 5 else if dE ow 1 65536 = false then 3 else eG (poAt ps (aP ps id).toNat) (nB (poAt ps (aP ps id).toNat) z)
def jX (t : Int) (ps : List Po) (id z ow : Int) (w : World) (r : Ending) (w' : World) : Prop :=
 ∃ v rs t' a l, r = .returned (.tuple #[.agg #[.int .i64 t', v], .agg #[.int .i64 a, .int .i64 l], .int .i64 (cZ t ps id z ow)]) ∧ Below w.heap.size w w' ∧ dR w' w.heap.size v rs rs.length ∧
  (cZ t ps id z ow ≠ 0 → t' = 0 ∧ rs = [] ∧ a = 0 ∧ l = 0) ∧
  (cZ t ps id z ow = 0 → t' = t ∧ (a, l) = eH (poAt ps (aP ps id).toNat) (nB (poAt ps (aP ps id).toNat) z) ∧
   ∃ qs x' c' ls', cD ps qs ∧ gC ⟨a, l, 1, ow, 0⟩ (poAt ps (aP ps id).toNat).ls ls' ∧ rs = qs.set (aP ps id).toNat (aT (poAt qs (aP ps id).toNat) x' ls'.length c' ls'))
theorem dR.nil (w : World) (base : Nat) : dR w base (.slice none 0 0) [] 0 :=
 ⟨World.ownsRow_nil _ _ _ _, fun i hi => by omega, fun i _ hi => by simp at hi, fun i j hi => by omega⟩
theorem jX.err {id ow E : Int} (hE : cZ t ps id z ow = E ∧ E ≠ 0) (hb : Below w.heap.size w w') :
  jX t ps id z ow w (.returned (.tuple #[.agg #[.int .i64 0, .slice none 0 0], .agg #[.int .i64 0, .int .i64 0], .int .i64 E])) w' :=
 ⟨_, [], 0, 0, 0, by rw [hE.1], hb, dR.nil _ _, fun _ => ⟨rfl, rfl, rfl, rfl⟩, fun h => absurd (hE.1.symm.trans h) hE.2⟩
theorem EV (t : Int) (x : Option Addr) (n c : Nat) (ps : List Po) (id z ow : Int) (w : World) (hk : Bk w x n c ps) :
  Calls Tryz.prog 95 #[.agg #[.int .i64 t, .slice x n c], .int .i64 id, .int .i64 z, .int .i64 ow] w (jX t ps id z ow w) := by
 have hpl : Hid (ps.length = n) := hk.ps.len
 go_enter Tryz.func95, Tryz.ntmps95
 go_upto_region 1 with fail
 obtain ⟨w0, hw0⟩ : ∃ w0, w0 = ((w.alloc (gR t (.slice x n c))).alloc (gR 0 (.slice none 0 0))).alloc (.cells #[.int .i64 0, .int .i64 0] 49) := ⟨_, rfl⟩
 rw [← hw0]
 have hT0 : TB w w0 t (.slice x n c) := by
  rw [hw0]
  exact ⟨aF _ (aF _ (aB _ rfl)), aF _ (aB _ (by simp)), aB _ (by simp), (cC w _ _).alloc (by simp; omega) _⟩
 clear hw0
 obtain ⟨b0, b1⟩ := aR hT0.hb rfl rfl
 obtain ⟨s0, s1⟩ := aR hT0.hs rfl rfl
 obtain ⟨r0, r1⟩ := aR hT0.hr rfl rfl
 obtain ⟨zs0, zs1⟩ := cA hT0.hs
 obtain ⟨zr0, zr1⟩ := cA hT0.hr
 have hck := fN t x n c ps w0 (hk.later hT0.below)
 by_cases hc0 : aV t ps = 0
 ·rw [hc0] at hck
  go_wp2_with fail
  refine hck.mono ?_
  rintro e w1 ⟨rfl, hb1⟩
  have hT1 := hT0.later hb1
  have hn8 : n ≤ 8 := by rw [← hpl.out]; exact sJ hc0
  have hk1 := hk.later hT1.below
  have hpc := pplace_any t id x n c ps w1 hk1.ps (by omega)
  clear b0 b1 s0 s1 r0 r1 zs0 zs1 zr0 zr1 hck hb1
  obtain ⟨b0, b1⟩ := aR hT1.hb rfl rfl
  obtain ⟨s0, s1⟩ := aR hT1.hs rfl rfl
  obtain ⟨r0, r1⟩ := aR hT1.hr rfl rfl
  obtain ⟨zs0, zs1⟩ := cA hT1.hs
  obtain ⟨zr0, zr1⟩ := cA hT1.hr
  by_cases hat : aP ps id < 0
  ·have hne : cZ t ps id z ow = 5 ∧ (5 : Int) ≠ 0 := ⟨by unfold cZ; rw [if_neg (by simp [hc0]), if_pos hat], by decide⟩
   go_wp2_with fail
   refine hpc.mono ?_
   rintro e w2 ⟨rfl, hb2⟩
   have hT2 := hT1.later hb2
   clear b0 b1 s0 s1 r0 r1 zs0 zs1 zr0 zr1 hb2
   obtain ⟨b0, b1⟩ := aR hT2.hb rfl rfl
   obtain ⟨s0, s1⟩ := aR hT2.hs rfl rfl
   obtain ⟨r0, r1⟩ := aR hT2.hr rfl rfl
   obtain ⟨zs0, zs1⟩ := cA hT2.hs
   obtain ⟨zr0, zr1⟩ := cA hT2.hr
   go_wp2
   refine bodyPost_ret (v := .tuple #[.agg #[.int .i64 0, .slice none 0 0], .agg #[.int .i64 0, .int .i64 0], .int .i64 5]) (by simp [results, Tryz.results95, go_sem, s0, s1, r0, r1]) rfl ?_
   exact jX.err hne (hT2.fin _ _ _ _)
  ·have hE1 : cZ t ps id z ow = if dE ow 1 65536 = false then 3 else eG (poAt ps (aP ps id).toNat) (nB (poAt ps (aP ps id).toNat) z) := by unfold cZ; rw [if_neg (by simp [hc0]), if_neg hat]
   obtain ⟨i, hi, hati, -⟩ := aQ hat
   rw [hpl.out] at hi
   have hto : (aP ps id).toNat = i := by rw [hati]; rfl
   rw [hto] at hE1
   rw [hati] at hpc
   go_wp2_with fail
   refine hpc.mono ?_
   rintro e w2 ⟨rfl, hb2⟩
   have hT2 := hT1.later hb2
   have hneg : ¬ ((i : Int) < 0) := by omega
   clear b0 b1 s0 s1 r0 r1 zs0 zs1 zr0 zr1 hb2
   obtain ⟨b0, b1⟩ := aR hT2.hb rfl rfl
   obtain ⟨s0, s1⟩ := aR hT2.hs rfl rfl
   obtain ⟨r0, r1⟩ := aR hT2.hr rfl rfl
   obtain ⟨zs0, zs1⟩ := cA hT2.hs
   obtain ⟨zr0, zr1⟩ := cA hT2.hr
   cases how : dE ow 1 65536 with
   | false =>
    have hne : cZ t ps id z ow = 3 ∧ (3 : Int) ≠ 0 := ⟨by rw [hE1, if_pos how], by decide⟩
    go_wp2_with fail
    refine (isId_is ow false how _).mono ?_
    rintro e w3 ⟨rfl, rfl⟩
    go_wp2
    refine bodyPost_ret (v := .tuple #[.agg #[.int .i64 0, .slice none 0 0], .agg #[.int .i64 0, .int .i64 0], .int .i64 3]) (by simp [results, Tryz.results95, go_sem, s0, s1, r0, r1]) rfl ?_
    exact jX.err hne (hT2.fin _ _ _ _)
   | true =>
    rw [if_neg (by simp [how])] at hE1
    go_wp2_with fail
    refine (isId_is ow true how _).mono ?_
    rintro e w2 ⟨rfl, rfl⟩
    have hk2 := hk.later hT2.below
    obtain ⟨b, o, rfl, c0, c1, c2, c3, c4, c5, c6, c7, c8⟩ := hk2.ps.cells i hi
    obtain ⟨hlc, hlm, hLS⟩ := hk2.ps.leases i hi
    have hin : (i : Int) < n := by omega
    obtain ⟨zz, hzz⟩ : ∃ zz, Hid (zz = nB (poAt ps i) z) := ⟨_, rfl⟩
    rw [← hzz.out] at hE1
    go_upto_if 38 with fail
    go_cut [2] (fun s wc => s = .int .i64 zz ∧ wc = w2)
    case first =>
     by_cases hz : z = 0
     ·have hz2 : (poAt ps i).us = zz := by rw [hzz.out]; unfold nB; rw [if_pos hz]
      subst hz
      go_wp2
      go_meet
      case rel => exact ⟨by first | rfl | rw [hz2], rfl⟩
     ·have hz2 : z = zz := by rw [hzz.out]; unfold nB; rw [if_neg hz]
      go_wp2
      go_meet
      case rel => exact ⟨by first | rfl | rw [← hz2], rfl⟩
    case rest =>
     obtain ⟨rfl, rfl⟩ := hcut
     have hpf := EU (poAt ps i) zz wc hLS hlm
     by_cases hpe : eG (poAt ps i) zz = 0
     ·have hE0 : cZ t ps id z ow = 0 := hE1.trans hpe
      have hl31 := yC hpe
      unfold yB at hpf
      rw [hpe] at hpf
      obtain ⟨pA, hpA⟩ : ∃ pA, Hid (pA = (eH (poAt ps i) zz).1) := ⟨_, rfl⟩
      obtain ⟨pL, hpL⟩ : ∃ pL, Hid (pL = (eH (poAt ps i) zz).2) := ⟨_, rfl⟩
      rw [← hpA.out, ← hpL.out] at hpf
      go_wp2_with fail
      refine hpf.mono ?_
      rintro e w3 ⟨rfl, hb3⟩
      have hT3 := hT2.later hb3
      clear b0 b1 s0 s1 r0 r1 zs0 zs1 zr0 zr1 hb3 c0 c1 c2 c3 c4 c5 c6 c7 c8
      go_upto_region 12 with fail
      obtain ⟨w4, hw4⟩ : ∃ w4, w4 = w3.alloc (.cells #[.int .i64 pA, .int .i64 pL] 49) := ⟨_, rfl⟩
      rw [← hw4]
      have hT4 : TB w w4 t (.slice (some ⟨b, o, none⟩) n c) := by rw [hw4]; exact hT3.later (bl1 _ _)
      have hsz3 : w.heap.size + 2 < w3.heap.size := (zG hT3.hr)
      have hp4 : w4.heap[w3.heap.size]? = some (.cells #[.int .i64 pA, .int .i64 pL] 49) := by rw [hw4]; exact aB _ rfl
      clear hw4 hT3
      obtain ⟨b0, b1⟩ := aR hT4.hb rfl rfl
      go_wp2_with fail
      refine (dZ t (some ⟨b, o, none⟩) n c ps w4 (hk.later hT4.below) (by omega)).mono ?_
      rintro e w5 ⟨v5, qs, rfl, hs, hOB, hb5⟩
      have hql : i < qs.length := by rw [← hs.1, hpl.out]; exact hi
      rcases hOB.row.2 with ⟨-, h0⟩ | ⟨g, cap, cur, rfl, hg1, hg2, -⟩
      ·omega
      clear b0 b1
      go_upto_region 15 with fail
      obtain ⟨w6, hw6⟩ : ∃ w6, w6 = w5.alloc (gR t (.slice (some ⟨g, 0, none⟩) qs.length cap)) := ⟨_, rfl⟩
      rw [← hw6]
      have hT6 : TB w w6 t (.slice (some ⟨b, o, none⟩) n c) := by rw [hw6]; exact (hT4.later hb5).later (bl1 _ _)
      have hp6 : w6.heap[w3.heap.size]? = some (.cells #[.int .i64 pA, .int .i64 pL] 49) := by rw [hw6]; exact aF _ (aA hb5 hp4)
      have hn6 : w6.heap[w5.heap.size]? = some (gR t (.slice (some ⟨g, 0, none⟩) qs.length cap)) := by rw [hw6]; exact aB _ rfl
      have hg6 : w6.heap[g]? = some (.cells cur 59) := by rw [hw6]; exact aF _ hg2
      have hOB6 : dR w6.drew w4.heap.size (.slice (some ⟨g, 0, none⟩) qs.length cap) qs qs.length := by
       rw [hw6]
       exact hOB.later (bl1 _ _).drew
      have hs6 : w4.heap.size ≤ w6.drew.heap.size := by rw [hw6]; have := hb5.size; simp; omega
      clear hw6 hOB hb5 hg2 hp4
      have hsp := hs.2 i (by rw [hpl.out]; exact hi)
      have hqn : (poAt qs i).n ≤ 32 := by rw [← hsp.2.2.2.2.2.2.2.2.1]; omega
      have hql2 : (i : Int) < qs.length := by omega
      obtain ⟨m0, m1⟩ := aR hn6 rfl rfl
      obtain ⟨p0, p1⟩ := aR hp6 rfl rfl
      have hadd := sI ⟨pA, pL, 1, ow, 0⟩ w4.heap.size g qs.length cap qs i w6.drew hOB6 hql hqn hs6
      go_region_with (go_at_call 86; refine hadd.mono ?_; rintro e w7 ⟨rfl, x', c', ls', hput, hOB7, hg7⟩)
      all_goals have hgd : w6.grownBy w7 (some g) := ⟨hg7.os, hg7.tape, hg7.output, hg7.size, hg7.block⟩
      all_goals have hT7 := hT6.grown hgd hg6 (Nat.le_trans hT4.below.size hg1)
      all_goals have hp7 := fU hgd hp6 (lT hg6 hp6 (by decide))
      all_goals have hn7 := fU hgd hn6 (lT hg6 hn6 (by decide))
      all_goals clear m0 m1 p0 p1 hadd
      all_goals obtain ⟨m0, m1⟩ := aR hn7 rfl rfl
      all_goals obtain ⟨p0, p1⟩ := aR hp7 rfl rfl
      all_goals have n2 : ¬ w3.heap.size = w.heap.size + 1 + 1 := by omega
      all_goals have hsz : w.heap.size + 2 < w4.heap.size := (zG hT4.hr)
      all_goals obtain ⟨b0, b1⟩ := aR hT7.hb rfl rfl
      all_goals obtain ⟨s0, s1⟩ := aR hT7.hs rfl rfl
      all_goals obtain ⟨r0, r1⟩ := aR hT7.hr rfl rfl
      all_goals obtain ⟨zs0, zs1⟩ := cA hT7.hs
      all_goals obtain ⟨zr0, zr1⟩ := cA hT7.hr
      all_goals go_wp2_with fail
      all_goals go_region_with fail
      all_goals go_wp2
      all_goals refine bodyPost_ret (v := .tuple #[.agg #[.int .i64 t, .slice (some ⟨g, 0, none⟩) qs.length cap], .agg #[.int .i64 pA, .int .i64 pL], .int .i64 0]) (by simp [results, Tryz.results95, go_sem, s0, s1, r0, r1]) rfl ?_
      all_goals have hsz1 : w.heap.size + 1 < w4.heap.size := by omega
      all_goals have hfin := (hT7.fin (.int .i64 t) (.slice (some ⟨g, 0, none⟩) qs.length cap) (.int .i64 pA) (.int .i64 pL)).drew
      all_goals have hob := (((((hOB7.put (o := 0) (u := .int .i64 t) hsz1).put (o := 1) (u := .slice (some ⟨g, 0, none⟩) qs.length cap) hsz1).put (o := 0) (u := .int .i64 pA) hsz).put (o := 1) (u := .int .i64 pL) hsz).later (zD).drew).low hT4.below.size
      all_goals have hput2 : gC ⟨pA, pL, 1, ow, 0⟩ (poAt ps i).ls ls' := by rw [hsp.2.2.2.2.2.2.2.2.2]; exact hput
      all_goals exact ⟨_, qs.set i (aT (poAt qs i) x' ls'.length c' ls'), t, pA, pL, by rw [hE0], hfin, hob, fun h => absurd hE0 h, fun _ => ⟨rfl, by rw [hto, ← hzz.out, hpA.out, hpL.out], qs, x', c', ls', hs, by rw [hto]; exact hput2, by rw [hto]⟩⟩
     ·have hne : cZ t ps id z ow = eG (poAt ps i) zz ∧ eG (poAt ps i) zz ≠ 0 := ⟨hE1, hpe⟩
      go_wp2_with fail
      refine hpf.mono ?_
      rintro e w3 ⟨rfl, hb3⟩
      have hT3 := hT2.later hb3
      clear b0 b1 s0 s1 r0 r1 zs0 zs1 zr0 zr1 hb3 c0 c1 c2 c3 c4 c5 c6 c7 c8
      go_upto_region 12 with fail
      obtain ⟨w4, hw4⟩ : ∃ w4, w4 = w3.alloc (.cells #[.int .i64 (eH (poAt ps i) zz).1, .int .i64 (eH (poAt ps i) zz).2] 49) := ⟨_, rfl⟩
      rw [← hw4]
      have hT4 : TB w w4 t (.slice (some ⟨b, o, none⟩) n c) := by rw [hw4]; exact hT3.later (bl1 _ _)
      clear hw4 hT3
      obtain ⟨b0, b1⟩ := aR hT4.hb rfl rfl
      obtain ⟨s0, s1⟩ := aR hT4.hs rfl rfl
      obtain ⟨r0, r1⟩ := aR hT4.hr rfl rfl
      obtain ⟨zs0, zs1⟩ := cA hT4.hs
      obtain ⟨zr0, zr1⟩ := cA hT4.hr
      go_wp2
      refine bodyPost_ret (v := .tuple #[.agg #[.int .i64 0, .slice none 0 0], .agg #[.int .i64 0, .int .i64 0], .int .i64 (eG (poAt ps i) zz)]) (by simp [results, Tryz.results95, go_sem, s0, s1, r0, r1]) rfl ?_
      exact jX.err hne (hT4.fin _ _ _ _)
 ·have hne : cZ t ps id z ow = aV t ps ∧ aV t ps ≠ 0 := ⟨if_pos hc0, hc0⟩
  go_wp2_with fail
  refine hck.mono ?_
  rintro e w1 ⟨rfl, hb1⟩
  have hT1 := hT0.later hb1
  clear b0 b1 s0 s1 r0 r1 zs0 zs1 zr0 zr1 hck hb1
  obtain ⟨b0, b1⟩ := aR hT1.hb rfl rfl
  obtain ⟨s0, s1⟩ := aR hT1.hs rfl rfl
  obtain ⟨r0, r1⟩ := aR hT1.hr rfl rfl
  obtain ⟨zs0, zs1⟩ := cA hT1.hs
  obtain ⟨zr0, zr1⟩ := cA hT1.hr
  go_wp2
  refine bodyPost_ret (v := .tuple #[.agg #[.int .i64 0, .slice none 0 0], .agg #[.int .i64 0, .int .i64 0], .int .i64 (aV t ps)]) (by simp [results, Tryz.results95, go_sem, s0, s1, r0, r1]) rfl ?_
  exact jX.err hne (hT1.fin _ _ _ _)
theorem oG {e : Po} (hi : i ≤ qs.length) (j : Nat) : poAt (qs.take i ++ [e] ++ qs.drop i) j = if j < i then poAt qs j else if j = i then e else poAt qs (j - 1) := by
 have hl : (qs.take i).length = i := by rw [List.length_take]; omega
 unfold poAt
 simp only [zF, List.append_assoc]
 by_cases h1 : j < i
 ·rw [if_pos h1, List.getElem?_append_left (by omega), List.getElem?_take_of_lt h1]
 ·rw [if_neg h1, List.getElem?_append_right (by omega), hl]
  by_cases h2 : j = i
  ·subst h2; simp
  ·rw [if_neg h2, show j - i = (j - i - 1) + 1 by omega]
   simp only [List.singleton_append, List.getElem?_cons_succ, List.getElem?_drop]
   rw [show i + (j - i - 1) = j - 1 by omega]
theorem dR.ins {e : Po} (h : dR W base v qs qs.length) (hi : i ≤ qs.length) (hb : Below W.heap.size W W') (h1 : e.x = none) (h2 : e.n = 0) (h3 : e.c = 0) (h4 : e.ls = []) (hr : dP W' base v' (qs.take i ++ [e] ++ qs.drop i)) :
  dR W' base v' (qs.take i ++ [e] ++ qs.drop i) (qs.take i ++ [e] ++ qs.drop i).length := by
 have hl : (qs.take i ++ [e] ++ qs.drop i).length = qs.length + 1 := by simp; omega
 have heo : (Value.slice e.x e.n e.c).ownBlock = none := by rw [h1, h2, h3]; rfl
 refine ⟨hr, fun j hj => ?_, fun j hj hj2 => by omega, fun j k hj hk hjk b hbj hbk => ?_⟩
 ·rw [oG hi]
  by_cases c1 : j < i
  ·rw [if_pos c1]; exact (h.own j (by omega)).later hb
  ·rw [if_neg c1]
   by_cases c2 : j = i
   ·rw [if_pos c2, h1, h2, h3, h4]; exact World.ownsRow_nil _ _ _ _
   ·rw [if_neg c2]; exact (h.own (j - 1) (by omega)).later hb
 ·rw [oG hi] at hbj hbk
  by_cases c1 : j < i
  ·rw [if_pos c1] at hbj
   by_cases d1 : k < i
   ·rw [if_pos d1] at hbk; exact h.apart j k (by omega) (by omega) hjk b hbj hbk
   ·rw [if_neg d1] at hbk
    by_cases d2 : k = i
    ·rw [if_pos d2, heo] at hbk; cases hbk
    ·rw [if_neg d2] at hbk; exact h.apart j (k - 1) (by omega) (by omega) (by omega) b hbj hbk
  ·rw [if_neg c1] at hbj
   by_cases c2 : j = i
   ·rw [if_pos c2, heo] at hbj; cases hbj
   ·rw [if_neg c2] at hbj
    by_cases d1 : k < i
    ·rw [if_pos d1] at hbk; exact h.apart (j - 1) k (by omega) (by omega) (by omega) b hbj hbk
    ·rw [if_neg d1] at hbk
     by_cases d2 : k = i
     ·rw [if_pos d2, heo] at hbk; cases hbk
     ·rw [if_neg d2] at hbk; exact h.apart (j - 1) (k - 1) (by omega) (by omega) (by omega) b hbj hbk
theorem dR.putBox {t : TypeId} (h : dR w base v ps ps.length) (hb : w.heap[b]? = some (.cells cs t)) (h1 : t ≠ 59) (h2 : t ≠ 138) : dR (w.setCell ⟨b, o, none⟩ u) base v ps ps.length :=
 ⟨h.row.kept (aH _ _ _ _) (fun k hk e => by subst e; exact h.row.ne hb h1 hk), fun i hi => (h.own i hi).kept (aH _ _ _ _) (fun k hk e => by subst e; exact (h.own i hi).ne hb h2 hk), fun i hi hi2 => by omega, h.apart⟩
def iN (e : Po) (qs rs : List Po) : Prop := ∃ i, i ≤ qs.length ∧ (∀ j, j < i → ¬ e.id < (poAt qs j).id) ∧ (i < qs.length → e.id < (poAt qs i).id) ∧ rs = qs.take i ++ [e] ++ qs.drop i
def NX (t : Int) (ps : List Po) (e : Po) (w : World) (r : Ending) (w' : World) : Prop :=
 ∃ v qs rs, r = .returned (.agg #[.int .i64 t, v]) ∧ Below w.heap.size w w' ∧ cD ps qs ∧ iN e qs rs ∧ dR w' w.heap.size v rs rs.length
theorem sK (t : Int) (x : Option Addr) (n c : Nat) (ps : List Po) (e : Po) (w : World) (hk : Bk w x n c ps) (hn : n ≤ 8) (h1 : e.x = none) (h2 : e.n = 0) (h3 : e.c = 0) (h4 : e.ls = []) :
  Calls Tryz.prog 84 #[.agg #[.int .i64 t, .slice x n c], .agg #[.int .i64 e.id, .int .i64 e.up, .int .i64 e.a, .int .i64 e.l, .int .i64 e.mn, .int .i64 e.mx, .int .i64 e.us, .int .i64 e.co, .slice none 0 0]] w (NX t ps e w) := by
 have hpl : Hid (ps.length = n) := hk.ps.len
 go_enter Tryz.func84, Tryz.ntmps84
 go_upto_region 1 with fail
 obtain ⟨w0, hw0⟩ : ∃ w0, w0 = ((w.alloc (gR t (.slice x n c))).alloc (.cells #[.int .i64 e.id, .int .i64 e.up, .int .i64 e.a, .int .i64 e.l, .int .i64 e.mn, .int .i64 e.mx, .int .i64 e.us, .int .i64 e.co, .slice none 0 0] 59)).alloc (gR 0 (.slice none 0 0)) := ⟨_, rfl⟩
 rw [← hw0]
 have hB0 : Below w.heap.size w w0 := by rw [hw0]; exact (cC w _ _).alloc (by simp; omega) _
 have hx0 : w0.heap[w.heap.size]? = some (gR t (.slice x n c)) := by rw [hw0]; exact aF _ (aF _ (aB _ rfl))
 have hx1 : w0.heap[w.heap.size + 1]? = some (.cells #[.int .i64 e.id, .int .i64 e.up, .int .i64 e.a, .int .i64 e.l, .int .i64 e.mn, .int .i64 e.mx, .int .i64 e.us, .int .i64 e.co, .slice none 0 0] 59) := by rw [hw0]; exact aF _ (aB _ (by simp))
 have hx2 : w0.heap[w.heap.size + 2]? = some (gR 0 (.slice none 0 0)) := by rw [hw0]; exact aB _ (by simp)
 clear hw0
 have hsz : w.heap.size + 2 < w0.heap.size := (zG hx2)
 obtain ⟨b0, b1⟩ := aR hx0 rfl rfl
 go_wp2_with fail
 refine (dZ t x n c ps w0 (hk.later hB0) (by omega)).mono ?_
 rintro r w1 ⟨v1, qs, rfl, hs, hOB, hb1⟩
 obtain ⟨xq, cq, rfl, hbk⟩ := hOB.bk (fun i hi => by rw [← (hs.2 i (by rw [hs.1]; exact hi)).2.2.2.2.2.2.2.2.1]; exact (hk.ps.leases i (by rw [← hpl.out, hs.1]; exact hi)).2.1)
 have hxq : (xq = none ∧ cq = 0) ∨ ∃ b o, xq = some ⟨b, o, none⟩ := by
  rcases hOB.row.2 with ⟨hv, -⟩ | ⟨g2, cap2, cur2, hv, -⟩
  ·simp only [Value.slice.injEq] at hv; exact .inl ⟨hv.1, hv.2.2⟩
  ·simp only [Value.slice.injEq] at hv; exact .inr ⟨_, _, hv.1⟩
 have hql : Hid (qs.length = n) := by unfold Hid; rw [← hs.1]; exact hpl.out
 clear b0 b1
 go_upto_region 2 with fail
 obtain ⟨w2, hw2⟩ : ∃ w2, w2 = w1.alloc (gR t (.slice xq qs.length cq)) := ⟨_, rfl⟩
 rw [← hw2]
 have hb12 : Below w1.heap.size w1 w2 := by rw [hw2]; exact bl1 _ _
 have hb2 : Below w0.heap.size w0 w2 := hb1.trans (hb12.mono hb1.size)
 have hn2 : w2.heap[w1.heap.size]? = some (gR t (.slice xq qs.length cq)) := by rw [hw2]; exact aB _ rfl
 clear hw2
 have hp2 := aA hb2 hx1
 have hr2 := aA hb2 hx2
 have n1 := aX hn2 1 rfl
 obtain ⟨p0, p1, p2, p3, p4, p5, p6, p7, p8⟩ := WV hp2 rfl rfl rfl rfl rfl rfl rfl rfl rfl
 have hput := fun W (hW : Below w2.heap.size w2 W) hby => NW e xq qs.length cq qs w2.heap.size 1 W ((hbk.later hb12).later hW).ps (by rw [hql.out]; omega) hbk.nc hbk.cm hxq hby
 rw [h1, h2, h3] at hput
 go_wp2_with fail
 refine (hput _ (bl1 w2 _) (by simp)).mono ?_
 rintro r w3 ⟨v3, rfl, hb3, i, hi, hlow, hup, hO3⟩
 obtain ⟨rs, hrs⟩ : ∃ rs, Hid (rs = qs.take i ++ [e] ++ qs.drop i) := ⟨_, rfl⟩
 have hb23 : Below w2.heap.size w2 w3 := (bl1 w2 _).trans (hb3.mono (by simp))
 have hb13 : Below w1.heap.size w1 w3 := hb12.trans (hb23.mono hb12.size)
 have hins := hOB.ins hi hb13 h1 h2 h3 h4 (hO3.low (by have := hb2.size; simp; omega))
 rw [← hrs.out] at hO3 hins
 obtain ⟨x3, c3, rfl, -⟩ := hO3.mem
 have hn3 := aA hb23 hn2
 have hr3 := aA hb23 hr2
 have hB3 : Below w.heap.size w w3 := hB0.trans ((hb1.trans (hb13.mono hb1.size)).mono hB0.size)
 have hs1 : w.heap.size + 2 < w1.heap.size := Nat.lt_of_lt_of_le hsz hb1.size
 clear hb3 hb23 hput n1
 have m0 := aX hn3 0 rfl
 have m1 := aX hn3 1 rfl
 have zm := (aE hn3).2 1
 obtain ⟨s0, s1⟩ := aR hr3 rfl rfl
 obtain ⟨zs0, zs1⟩ := cA hr3
 go_wp2
 refine bodyPost_ret (v := .agg #[.int .i64 t, .slice x3 rs.length c3]) (by simp [results, Tryz.results84, go_sem, s0, s1]) rfl ?_
 have hfin := ((hB3.setCell (p := ⟨w1.heap.size, 1, none⟩) (by show w.heap.size ≤ w1.heap.size; omega) (.slice x3 rs.length c3)).setCell (p := ⟨w.heap.size + 2, 0, none⟩) (zA) (.int .i64 t)).setCell (p := ⟨w.heap.size + 2, 1, none⟩) (zA) (.slice x3 rs.length c3)
 have hob := (((hins.putBox (o := 1) (u := .slice x3 rs.length c3) hn3 (by decide) (by decide)).put (o := 0) (u := .int .i64 t) hsz).put (o := 1) (u := .slice x3 rs.length c3) hsz).low hB0.size
 exact ⟨_, qs, rs, rfl, hfin, hs, ⟨i, hi, fun j hj => by have := hlow j hj; omega, hup, hrs.out⟩, hob⟩
end Go.Proofs.YtndpilfpejfloaaGreat
