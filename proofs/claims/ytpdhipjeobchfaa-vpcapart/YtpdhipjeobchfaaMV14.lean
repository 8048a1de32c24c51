/- What slices.Index at prefixes, and SamePrefixes of package parcelwayref, come to. -/
import Derived.Test.YtpdhipjeobchfaaMV04
import Derived.Laws.StructEq
import Derived.Test.YtpdhipjeobchfaaMV13
import Derived.Deep.RegionHeld3
import Derived.Test.YtpdhipjeobchfaaMV12
import Derived.Deep.DeepCutAuto
import Derived.Lib.AppendZerosOnto
import Derived.Lib.AppendZeros
namespace Go.Proofs.Ytpdhipjeobchfaa
open Go.RowKit

theorem prefix_struct : Try.prog.underlying 39 = some (.struct (Try.prog.fieldsOf 39)) := by kernel_rfl
theorem prefix_held : Try.prog.stoodInHeld 39 = false := by kernel_rfl
theorem eq_prefix (a l c m : Int) (w : World) : (binOp .eql 39 (.agg #[.int .i64 a, .int .i64 l]) (.agg #[.int .i64 c, .int .i64 m])).run Try.prog w = .ok (.bool (decide (a = c) && decide (l = m))) w := by
  rw [run_eql_struct, show (10000 : Nat) = 9999 + 1 from rfl, run_equalIn_agg w 9999 _ _ _ prefix_struct prefix_held]
  simp only [Program.fieldsOf, Try.underlying39]
  go_simp
  by_cases h1 : a = c <;> by_cases h2 : l = m <;> simp [h1, h2]
theorem neq_prefix (a l c m : Int) (w : World) : (binOp .neq 39 (.agg #[.int .i64 a, .int .i64 l]) (.agg #[.int .i64 c, .int .i64 m])).run Try.prog w = .ok (.bool (!(decide (a = c) && decide (l = m)))) w := by
  rw [run_neq_struct, show (10000 : Nat) = 9999 + 1 from rfl, run_equalIn_agg w 9999 _ _ _ prefix_struct prefix_held]
  simp only [Program.fieldsOf, Try.underlying39]
  go_simp
  by_cases h1 : a = c <;> by_cases h2 : l = m <;> simp [h1, h2]

theorem prefix_guard : Try.prog.eqGuardType Try.prog.depth 39 = false := by kernel_rfl
theorem guard_prefix (op : BinOp) (x y : Operand) (p q : Array Value) (w : World) : (eqGuard op 39 x y (.agg p) (.agg q)).run Try.prog w = .ok () w := by
  have h := prefix_guard
  unfold eqGuard
  cases op <;> simp [go_sem, h]
theorem quiet_eql {ops : Array Oper} {C : World → Prop} {Q : Act → Prop} {A : Act} {o : Oper} {rest : List Oper} (x y : Operand) (t : TypeId) (a l c m : Int) (hop : o.op = .binOp .eql 39 x y t) (hg : o.guard = none)
    (hx : A.eval x = .agg #[.int .i64 a, .int .i64 l]) (hy : A.eval y = .agg #[.int .i64 c, .int .i64 m]) (h : wpQuiet Try.prog ops C Q rest (A.put o.dst (.bool (decide (a = c) && decide (l = m))))) : wpQuiet Try.prog ops C Q (o :: rest) A := by
  unfold wpQuiet
  rw [if_pos (by simp [Region.wanted, hg])]
  refine ⟨_, fun w _ => ?_, h⟩
  unfold Oper.quietAt execOp
  rw [hop]
  simp only [hx, hy, Sem.run_bind, guard_prefix, eq_prefix, Result.andThen_ok, Sem.run_pure]
  exact ⟨rfl, rfl⟩
theorem quiet_neq {ops : Array Oper} {C : World → Prop} {Q : Act → Prop} {A : Act} {o : Oper} {rest : List Oper} (x y : Operand) (t : TypeId) (a l c m : Int) (hop : o.op = .binOp .neq 39 x y t) (hg : o.guard = none)
    (hx : A.eval x = .agg #[.int .i64 a, .int .i64 l]) (hy : A.eval y = .agg #[.int .i64 c, .int .i64 m]) (h : wpQuiet Try.prog ops C Q rest (A.put o.dst (.bool (!(decide (a = c) && decide (l = m)))))) : wpQuiet Try.prog ops C Q (o :: rest) A := by
  unfold wpQuiet
  rw [if_pos (by simp [Region.wanted, hg])]
  refine ⟨_, fun w _ => ?_, h⟩
  unfold Oper.quietAt execOp
  rw [hop]
  simp only [hx, hy, Sem.run_bind, guard_prefix, neq_prefix, Result.andThen_ok, Sem.run_pure]
  exact ⟨rfl, rfl⟩

def eqAt (ps : List (Int × Int)) (a l : Int) (i : Nat) : Bool := decide (a = at0 ps i) && decide (l = at1 ps i)

theorem same_of {ps qs : List (Int × Int)} {n : Nat} (h1 : ps.length = n) (h2 : qs.length = n) (h : ∀ j, j < n → at0 ps j = at0 qs j ∧ at1 ps j = at1 qs j) : ps = qs := by
  refine List.ext_getElem (by omega) fun i hi hj => ?_
  have := h i (by omega)
  simp only [at0, at1, List.getD_eq_getElem?_getD, List.getElem?_eq_getElem hi, List.getElem?_eq_getElem hj, Option.getD_some] at this
  exact Prod.ext this.1 this.2

end Go.Proofs.Ytpdhipjeobchfaa
/- The closures of vpc.Drop. -/
namespace Go.Proofs.Ytpdhipjeobchfaa
open Go.RowKit Go.Shelf

set_option maxRecDepth 20000 in
set_option maxHeartbeats 800000 in
theorem drop1_any (c m : Int) (p : Rg) (b : Nat) (w : World) (h0 : w.cell? ⟨b, 0, none⟩ = some (.int .i64 c)) (h1 : w.cell? ⟨b, 1, none⟩ = some (.int .i64 m)) :
    Calls Try.prog 59 #[.agg #[.int .i64 p.a, .int .i64 p.l, .int .i64 p.p], .pointer (some ⟨b, 0, none⟩)] w fun e w' => e = .returned (.bool (decide (p.a = c) && decide (p.l = m))) ∧ Below w.heap.size w w' := by
  have k0 : ∀ q, (w.alloc q).cell? ⟨b, 0, none⟩ = some (.int .i64 c) := fun q => cell_later (bl1 w q) h0
  have k1 : ∀ q, (w.alloc q).cell? ⟨b, 1, none⟩ = some (.int .i64 m) := fun q => cell_later (bl1 w q) h1
  have he := fun W => eq_prefix p.a p.l c m W
  have hg := fun x y W => guard_prefix .eql x y #[.int .i64 p.a, .int .i64 p.l] #[.int .i64 c, .int .i64 m] W
  go_enter Try.func59, Try.ntmps59
  go_wp2
  go_ret
  exact ⟨rfl, bl1 w _⟩
theorem call_drop1 (args : Array Value) (W : World) : (callFunc 59 args).run Try.prog W = .ok (.enter 59 args) W := by simp [go_sem]
set_option maxRecDepth 20000 in
set_option maxHeartbeats 800000 in
theorem drop2_any (c m : Int) (p : Sb) (b : Nat) (w : World) (h0 : w.cell? ⟨b, 0, none⟩ = some (.int .i64 c)) (h1 : w.cell? ⟨b, 1, none⟩ = some (.int .i64 m)) :
    Calls Try.prog 60 #[.agg #[.int .i64 p.id, .int .i64 p.a, .int .i64 p.l, .slice p.x p.n p.c], .pointer (some ⟨b, 0, none⟩)] w fun e w' => e = .returned (.bool (ins p.a p.l c m)) ∧ Below w.heap.size w w' := by
  have k0 : ∀ q, (w.alloc q).cell? ⟨b, 0, none⟩ = some (.int .i64 c) := fun q => cell_later (bl1 w q) h0
  have k1 : ∀ q, (w.alloc q).cell? ⟨b, 1, none⟩ = some (.int .i64 m) := fun q => cell_later (bl1 w q) h1
  go_enter Try.func60, Try.ntmps60
  go_wp2_with (go_at_call 61; refine (inside_any _ _ _ _ _).mono ?_; rintro e w1 ⟨rfl, hb1⟩)
  go_ret
  exact ⟨rfl, (bl1 w _).trans (hb1.mono (by simp))⟩
theorem call_drop2 (args : Array Value) (W : World) : (callFunc 60 args).run Try.prog W = .ok (.enter 60 args) W := by simp [go_sem]
/-- Is the i-th range that prefix? -/
def rpB (rs : List Rg) (c m : Int) (i : Nat) : Bool := decide ((rgAt rs i).a = c) && decide ((rgAt rs i).l = m)
/-- Is the i-th subnet inside of that prefix? -/
def siB (ss : List Sb) (c m : Int) (i : Nat) : Bool := ins (sbAt ss i).a (sbAt ss i).l c m
theorem dropIx_is (c m : Int) (b : Nat) (x : Option Addr) (n k : Nat) (rs : List Rg) (t : Int) (h : fstAt n (rpB rs c m) = t) (w : World) (hp : RS w x n rs) (hn : n ≤ 9223372036854775807) (h0 : w.cell? ⟨b, 0, none⟩ = some (.int .i64 c)) (h1 : w.cell? ⟨b, 1, none⟩ = some (.int .i64 m)) :
    Calls Try.prog 58 #[.slice x n k, .func (.func 59) #[] #[.pointer (some ⟨b, 0, none⟩)]] w fun e w' => e = .returned (.int .i64 t) ∧ Below w.heap.size w w' := by
  refine (indexFuncRg_big 59 #[.pointer (some ⟨b, 0, none⟩)] x n k rs (rpB rs c m) w hp hn (fun i _ W hW => drop1_any c m (rgAt rs i) b W (cell_later hW h0) (cell_later hW h1)) call_drop1).mono ?_
  rintro e w' ⟨⟨r, rfl, hr⟩, hb⟩
  exact ⟨by rw [fstAt_of hr, h], hb⟩
theorem dropAny_is (c m : Int) (b : Nat) (x : Option Addr) (n k : Nat) (ss : List Sb) (t : Bool) (h : anyAt n (siB ss c m) = t) (w : World) (hp : SS w x n ss) (hn : n ≤ 1048576) (h0 : w.cell? ⟨b, 0, none⟩ = some (.int .i64 c)) (h1 : w.cell? ⟨b, 1, none⟩ = some (.int .i64 m)) :
    Calls Try.prog 41 #[.slice x n k, .func (.func 60) #[] #[.pointer (some ⟨b, 0, none⟩)]] w fun e w' => e = .returned (.bool t) ∧ Below w.heap.size w w' := by
  subst h
  exact containsFuncSb_any 60 #[.pointer (some ⟨b, 0, none⟩)] x n k ss (siB ss c m) w hp hn (fun i _ W hW => drop2_any c m (sbAt ss i) b W (cell_later hW h0) (cell_later hW h1)) call_drop2
end Go.Proofs.Ytpdhipjeobchfaa
/- Drop of package vpc. -/
namespace Go.Proofs.Ytpdhipjeobchfaa
open Go.RowKit Go.Shelf

theorem drew_cell (W : World) (a : Addr) : W.drew.cell? a = W.cell? a := rfl
def dropE (vid : Int) (rn : Nat) (rs : List Rg) (sn : Nat) (ss : List Sb) (c m : Int) : Int :=
  if chkV vid rn rs sn ss ≠ 0 then chkV vid rn rs sn ss else if fstAt rn (rpB rs c m) < 0 then 5 else if anyAt sn (siB ss c m) = true then 9 else 0
def DropPost (vid : Int) (rn : Nat) (rs : List Rg) (sn : Nat) (ss : List Sb) (c m : Int) (w : World) (e : Ending) (w' : World) : Prop :=
  ∃ V r, e = .returned (.tuple #[V, .agg #[.int .i64 (Rg.a r), .int .i64 r.l, .int .i64 r.p], .int .i64 (dropE vid rn rs sn ss c m)]) ∧ Below w.heap.size w w' ∧ (dropE vid rn rs sn ss c m ≠ 0 → V = .agg #[.int .i64 0, .slice none 0 0, .slice none 0 0] ∧ r = ⟨0, 0, 0⟩) ∧
    (dropE vid rn rs sn ss c m = 0 → ∃ ts i, sameSs ss ts ∧ i < rn ∧ rpB rs c m i = true ∧ (∀ j, j < i → rpB rs c m j = false) ∧ r = rgAt rs i ∧ NV w' vid V (rs.take i ++ rs.drop (i + 1)) ts)
theorem DropPost.err {vid : Int} {rn : Nat} {rs : List Rg} {sn : Nat} {ss : List Sb} {c m : Int} {E : Int} {w w' : World} (hE : dropE vid rn rs sn ss c m = E ∧ E ≠ 0) (hb : Below w.heap.size w w') :
    DropPost vid rn rs sn ss c m w (.returned (.tuple #[.agg #[.int .i64 0, .slice none 0 0, .slice none 0 0], .agg #[.int .i64 0, .int .i64 0, .int .i64 0], .int .i64 E])) w' :=
  ⟨_, ⟨0, 0, 0⟩, by rw [hE.1], hb, fun _ => ⟨rfl, rfl⟩, fun h => absurd (hE.1.symm.trans h) hE.2⟩
structure TD (w W : World) (vid : Int) (rx : Option Addr) (rn rc : Nat) (sx : Option Addr) (sn sc : Nat) (c m : Int) : Prop where
  hb : W.heap[w.heap.size]? = some (.cells #[.int .i64 vid, .slice rx rn rc, .slice sx sn sc] 25)
  hp : W.heap[w.heap.size + 1]? = some (.cells #[.int .i64 c, .int .i64 m] 39)
  hs : W.heap[w.heap.size + 2]? = some (.cells #[.int .i64 0, .slice none 0 0, .slice none 0 0] 25)
  hg : W.heap[w.heap.size + 3]? = some (.cells #[.int .i64 0, .int .i64 0, .int .i64 0] 60)
  below : Below w.heap.size w W
theorem TD.later {w W W' : World} {vid : Int} {rx : Option Addr} {rn rc : Nat} {sx : Option Addr} {sn sc : Nat} {c m : Int} (h : TD w W vid rx rn rc sx sn sc c m) (hb : Below W.heap.size W W') : TD w W' vid rx rn rc sx sn sc c m :=
  ⟨heap_later hb h.hb, heap_later hb h.hp, heap_later hb h.hs, heap_later hb h.hg, h.below.trans (hb.mono h.below.size)⟩

set_option maxRecDepth 100000 in
set_option maxHeartbeats 3200000 in
theorem vdrop_any (vid : Int) (rx : Option Addr) (rn rc : Nat) (rs : List Rg) (sx : Option Addr) (sn sc : Nat) (ss : List Sb) (c m : Int) (w : World) (hv : Vp w rx rn rc rs sx sn sc ss) (hrn : rn ≤ 9223372036854775807) (hsn : sn ≤ 9223372036854775807) (hrc : rc ≤ 9223372036854775807) :
    Calls Try.prog 28 #[.agg #[.int .i64 vid, .slice rx rn rc, .slice sx sn sc], .agg #[.int .i64 c, .int .i64 m]] w (DropPost vid rn rs sn ss c m w) := by
  have hrl : Hid (rs.length = rn) := hv.ranges.len
  have hsl : Hid (ss.length = sn) := hv.subs.len
  go_enter Try.func28, Try.ntmps28
  go_upto_region 1 with fail
  obtain ⟨w0, hw0⟩ : ∃ w0, w0 = (((w.alloc (vpB vid (.slice rx rn rc) (.slice sx sn sc))).alloc (.cells #[.int .i64 c, .int .i64 m] 39)).alloc (vpB 0 (.slice none 0 0) (.slice none 0 0))).alloc (.cells #[.int .i64 0, .int .i64 0, .int .i64 0] 60) := ⟨_, rfl⟩
  rw [← hw0]
  have hT0 : TD w w0 vid rx rn rc sx sn sc c m := by
    rw [hw0]
    exact ⟨heap_old _ (heap_old _ (heap_old _ (heap_new _ rfl))), heap_old _ (heap_old _ (heap_new _ (by simp))), heap_old _ (heap_new _ (by simp)), heap_new _ (by simp), ((bl2 w _ _).alloc (by simp; omega) _).alloc (by simp; omega) _⟩
  clear hw0
  have b0 : w0.cell? ⟨w.heap.size, 0, none⟩ = some (.int .i64 vid) := (box_cells hT0.hb).1 0
  have b1 : w0.cell? ⟨w.heap.size, 1, none⟩ = some (.slice rx rn rc) := (box_cells hT0.hb).1 1
  have b2 : w0.cell? ⟨w.heap.size, 2, none⟩ = some (.slice sx sn sc) := (box_cells hT0.hb).1 2
  have p0 : w0.cell? ⟨w.heap.size + 1, 0, none⟩ = some (.int .i64 c) := (box_cells hT0.hp).1 0
  have p1 : w0.cell? ⟨w.heap.size + 1, 1, none⟩ = some (.int .i64 m) := (box_cells hT0.hp).1 1
  have s0 : w0.cell? ⟨w.heap.size + 2, 0, none⟩ = some (.int .i64 0) := (box_cells hT0.hs).1 0
  have zs0 : w0.frozen? ⟨w.heap.size + 2, 0, none⟩ = false := (box_cells hT0.hs).2 0
  have s1 : w0.cell? ⟨w.heap.size + 2, 1, none⟩ = some (.slice none 0 0) := (box_cells hT0.hs).1 1
  have zs1 : w0.frozen? ⟨w.heap.size + 2, 1, none⟩ = false := (box_cells hT0.hs).2 1
  have s2 : w0.cell? ⟨w.heap.size + 2, 2, none⟩ = some (.slice none 0 0) := (box_cells hT0.hs).1 2
  have zs2 : w0.frozen? ⟨w.heap.size + 2, 2, none⟩ = false := (box_cells hT0.hs).2 2
  have g0 : w0.cell? ⟨w.heap.size + 3, 0, none⟩ = some (.int .i64 0) := (box_cells hT0.hg).1 0
  have zg0 : w0.frozen? ⟨w.heap.size + 3, 0, none⟩ = false := (box_cells hT0.hg).2 0
  have g1 : w0.cell? ⟨w.heap.size + 3, 1, none⟩ = some (.int .i64 0) := (box_cells hT0.hg).1 1
  have zg1 : w0.frozen? ⟨w.heap.size + 3, 1, none⟩ = false := (box_cells hT0.hg).2 1
  have g2 : w0.cell? ⟨w.heap.size + 3, 2, none⟩ = some (.int .i64 0) := (box_cells hT0.hg).1 2
  have zg2 : w0.frozen? ⟨w.heap.size + 3, 2, none⟩ = false := (box_cells hT0.hg).2 2
  have hck := checkV_any vid rx rn rc rs sx sn sc ss w0 (hv.later hT0.below) hrn hsn hrc
  by_cases hc0 : chkV vid rn rs sn ss = 0
  · rw [hc0] at hck
    obtain ⟨f1, f2, f3, f4⟩ := chkV_few hc0
    have hE1 : Hid (dropE vid rn rs sn ss c m = if fstAt rn (rpB rs c m) < 0 then 5 else if anyAt sn (siB ss c m) = true then 9 else 0) := if_neg (c := chkV vid rn rs sn ss ≠ 0) (by simp [hc0])
    clear hc0
    go_wp2_with fail
    refine (hck).mono ?_
    rintro e w1 ⟨rfl, hbw1⟩
    have hT1 := hT0.later hbw1
    clear b0 b1 b2 p0 p1 s0 zs0 s1 zs1 s2 zs2 g0 zg0 g1 zg1 g2 zg2
    have b0 : w1.cell? ⟨w.heap.size, 0, none⟩ = some (.int .i64 vid) := (box_cells hT1.hb).1 0
    have b1 : w1.cell? ⟨w.heap.size, 1, none⟩ = some (.slice rx rn rc) := (box_cells hT1.hb).1 1
    have b2 : w1.cell? ⟨w.heap.size, 2, none⟩ = some (.slice sx sn sc) := (box_cells hT1.hb).1 2
    have p0 : w1.cell? ⟨w.heap.size + 1, 0, none⟩ = some (.int .i64 c) := (box_cells hT1.hp).1 0
    have p1 : w1.cell? ⟨w.heap.size + 1, 1, none⟩ = some (.int .i64 m) := (box_cells hT1.hp).1 1
    have s0 : w1.cell? ⟨w.heap.size + 2, 0, none⟩ = some (.int .i64 0) := (box_cells hT1.hs).1 0
    have zs0 : w1.frozen? ⟨w.heap.size + 2, 0, none⟩ = false := (box_cells hT1.hs).2 0
    have s1 : w1.cell? ⟨w.heap.size + 2, 1, none⟩ = some (.slice none 0 0) := (box_cells hT1.hs).1 1
    have zs1 : w1.frozen? ⟨w.heap.size + 2, 1, none⟩ = false := (box_cells hT1.hs).2 1
    have s2 : w1.cell? ⟨w.heap.size + 2, 2, none⟩ = some (.slice none 0 0) := (box_cells hT1.hs).1 2
    have zs2 : w1.frozen? ⟨w.heap.size + 2, 2, none⟩ = false := (box_cells hT1.hs).2 2
    have g0 : w1.cell? ⟨w.heap.size + 3, 0, none⟩ = some (.int .i64 0) := (box_cells hT1.hg).1 0
    have zg0 : w1.frozen? ⟨w.heap.size + 3, 0, none⟩ = false := (box_cells hT1.hg).2 0
    have g1 : w1.cell? ⟨w.heap.size + 3, 1, none⟩ = some (.int .i64 0) := (box_cells hT1.hg).1 1
    have zg1 : w1.frozen? ⟨w.heap.size + 3, 1, none⟩ = false := (box_cells hT1.hg).2 1
    have g2 : w1.cell? ⟨w.heap.size + 3, 2, none⟩ = some (.int .i64 0) := (box_cells hT1.hg).1 2
    have zg2 : w1.frozen? ⟨w.heap.size + 3, 2, none⟩ = false := (box_cells hT1.hg).2 2
    have hsp := fun t h => dropIx_is c m (w.heap.size + 1) rx rn rc rs t h w1 (hv.later hT1.below).ranges hrn p0 p1
    rcases fstAt_cases rn (rpB rs c m) with ⟨i, hi, hf, hno, hfp⟩ | ⟨-, hfp⟩
    · have hsp' := hsp _ hfp
      clear hsp
      have hE2 : Hid (dropE vid rn rs sn ss c m = if anyAt sn (siB ss c m) = true then 9 else 0) := by
        have := hE1.out
        rw [hfp] at this
        rw [if_neg (by omega)] at this
        exact this
      clear hfp hE1
      have hHf : Hid (rpB rs c m i = true ∧ ∀ j, j < i → rpB rs c m j = false) := ⟨hf, hno⟩
      clear hf hno
      have hi' : Hid (i < rn) := hi
      obtain ⟨b, o, rfl, r0, r1, r2⟩ := hv.ranges.cells i hi
      have hbw : Hid (b < w.heap.size) := block_lt_of_cell r0
      go_wp2_with fail
      refine (hsp').mono ?_
      rintro e w2 ⟨rfl, hbw2⟩
      have hT2 := hT1.later hbw2
      clear b0 b1 b2 p0 p1 s0 zs0 s1 zs1 s2 zs2 g0 zg0 g1 zg1 g2 zg2
      have b0 : w2.cell? ⟨w.heap.size, 0, none⟩ = some (.int .i64 vid) := (box_cells hT2.hb).1 0
      have b1 : w2.cell? ⟨w.heap.size, 1, none⟩ = some (.slice (some ⟨b, o, none⟩) rn rc) := (box_cells hT2.hb).1 1
      have b2 : w2.cell? ⟨w.heap.size, 2, none⟩ = some (.slice sx sn sc) := (box_cells hT2.hb).1 2
      have p0 : w2.cell? ⟨w.heap.size + 1, 0, none⟩ = some (.int .i64 c) := (box_cells hT2.hp).1 0
      have p1 : w2.cell? ⟨w.heap.size + 1, 1, none⟩ = some (.int .i64 m) := (box_cells hT2.hp).1 1
      have s0 : w2.cell? ⟨w.heap.size + 2, 0, none⟩ = some (.int .i64 0) := (box_cells hT2.hs).1 0
      have zs0 : w2.frozen? ⟨w.heap.size + 2, 0, none⟩ = false := (box_cells hT2.hs).2 0
      have s1 : w2.cell? ⟨w.heap.size + 2, 1, none⟩ = some (.slice none 0 0) := (box_cells hT2.hs).1 1
      have zs1 : w2.frozen? ⟨w.heap.size + 2, 1, none⟩ = false := (box_cells hT2.hs).2 1
      have s2 : w2.cell? ⟨w.heap.size + 2, 2, none⟩ = some (.slice none 0 0) := (box_cells hT2.hs).1 2
      have zs2 : w2.frozen? ⟨w.heap.size + 2, 2, none⟩ = false := (box_cells hT2.hs).2 2
      have g0 : w2.cell? ⟨w.heap.size + 3, 0, none⟩ = some (.int .i64 0) := (box_cells hT2.hg).1 0
      have zg0 : w2.frozen? ⟨w.heap.size + 3, 0, none⟩ = false := (box_cells hT2.hg).2 0
      have g1 : w2.cell? ⟨w.heap.size + 3, 1, none⟩ = some (.int .i64 0) := (box_cells hT2.hg).1 1
      have zg1 : w2.frozen? ⟨w.heap.size + 3, 1, none⟩ = false := (box_cells hT2.hg).2 1
      have g2 : w2.cell? ⟨w.heap.size + 3, 2, none⟩ = some (.int .i64 0) := (box_cells hT2.hg).1 2
      have zg2 : w2.frozen? ⟨w.heap.size + 3, 2, none⟩ = false := (box_cells hT2.hg).2 2
      have i0 : (0 : Int) ≤ i := by omega
      have i1 : (i : Int) < rn := by omega
      have hda := fun t h => dropAny_is c m (w.heap.size + 1) sx sn sc ss t h w2 (hv.later hT2.below).subs (by omega) p0 p1
      cases hany : anyAt sn (siB ss c m) with
      | true =>
        have hne : dropE vid rn rs sn ss c m = 9 ∧ (9 : Int) ≠ 0 := ⟨hE2.out.trans (if_pos hany), by decide⟩
        clear r0 r1 r2
        go_wp2_with fail
        refine (hda _ hany).mono ?_
        rintro e w3 ⟨rfl, hbw3⟩
        have hT3 := hT2.later hbw3
        clear b0 b1 b2 p0 p1 s0 zs0 s1 zs1 s2 zs2 g0 zg0 g1 zg1 g2 zg2
        have b0 : w3.cell? ⟨w.heap.size, 0, none⟩ = some (.int .i64 vid) := (box_cells hT3.hb).1 0
        have b1 : w3.cell? ⟨w.heap.size, 1, none⟩ = some (.slice (some ⟨b, o, none⟩) rn rc) := (box_cells hT3.hb).1 1
        have b2 : w3.cell? ⟨w.heap.size, 2, none⟩ = some (.slice sx sn sc) := (box_cells hT3.hb).1 2
        have p0 : w3.cell? ⟨w.heap.size + 1, 0, none⟩ = some (.int .i64 c) := (box_cells hT3.hp).1 0
        have p1 : w3.cell? ⟨w.heap.size + 1, 1, none⟩ = some (.int .i64 m) := (box_cells hT3.hp).1 1
        have s0 : w3.cell? ⟨w.heap.size + 2, 0, none⟩ = some (.int .i64 0) := (box_cells hT3.hs).1 0
        have zs0 : w3.frozen? ⟨w.heap.size + 2, 0, none⟩ = false := (box_cells hT3.hs).2 0
        have s1 : w3.cell? ⟨w.heap.size + 2, 1, none⟩ = some (.slice none 0 0) := (box_cells hT3.hs).1 1
        have zs1 : w3.frozen? ⟨w.heap.size + 2, 1, none⟩ = false := (box_cells hT3.hs).2 1
        have s2 : w3.cell? ⟨w.heap.size + 2, 2, none⟩ = some (.slice none 0 0) := (box_cells hT3.hs).1 2
        have zs2 : w3.frozen? ⟨w.heap.size + 2, 2, none⟩ = false := (box_cells hT3.hs).2 2
        have g0 : w3.cell? ⟨w.heap.size + 3, 0, none⟩ = some (.int .i64 0) := (box_cells hT3.hg).1 0
        have zg0 : w3.frozen? ⟨w.heap.size + 3, 0, none⟩ = false := (box_cells hT3.hg).2 0
        have g1 : w3.cell? ⟨w.heap.size + 3, 1, none⟩ = some (.int .i64 0) := (box_cells hT3.hg).1 1
        have zg1 : w3.frozen? ⟨w.heap.size + 3, 1, none⟩ = false := (box_cells hT3.hg).2 1
        have g2 : w3.cell? ⟨w.heap.size + 3, 2, none⟩ = some (.int .i64 0) := (box_cells hT3.hg).1 2
        have zg2 : w3.frozen? ⟨w.heap.size + 3, 2, none⟩ = false := (box_cells hT3.hg).2 2
        go_wp2
        refine bodyPost_ret (v := .tuple #[.agg #[.int .i64 0, .slice none 0 0, .slice none 0 0], .agg #[.int .i64 0, .int .i64 0, .int .i64 0], .int .i64 9]) (by simp [results, Try.results28, go_sem, s0, s1, s2, g0, g1, g2]) rfl ?_
        exact DropPost.err hne ((((((hT3.below.setCell (p := ⟨w.heap.size + 2, 0, none⟩) (Nat.le_add_right _ _) _).setCell (p := ⟨w.heap.size + 2, 1, none⟩) (Nat.le_add_right _ _) _).setCell (p := ⟨w.heap.size + 2, 2, none⟩) (Nat.le_add_right _ _) _).setCell (p := ⟨w.heap.size + 3, 0, none⟩) (Nat.le_add_right _ _) _).setCell (p := ⟨w.heap.size + 3, 1, none⟩) (Nat.le_add_right _ _) _).setCell (p := ⟨w.heap.size + 3, 2, none⟩) (Nat.le_add_right _ _) _)
      | false =>
        have hE0 : Hid (dropE vid rn rs sn ss c m = 0) := hE2.out.trans (if_neg (by simp [hany]))
        have hv3 := fun W (hW : Below w.heap.size w W) => freshVpc_any vid (some ⟨b, o, none⟩) rn rc rs sx sn sc ss W (hv.later hW) (by omega) (by omega) (fun i hi => by have := f3 i hi; omega) (fun i hi j hj => by have := f4 i hi j hj; omega)
        have r0' : Hid (w.cell? ⟨b, o + i * 3, none⟩ = some (.int .i64 (rgAt rs i).a)) := r0
        have r1' : Hid (w.cell? ⟨b, o + i * 3 + 1, none⟩ = some (.int .i64 (rgAt rs i).l)) := r1
        have r2' : Hid (w.cell? ⟨b, o + i * 3 + 2, none⟩ = some (.int .i64 (rgAt rs i).p)) := r2
        clear r0 r1 r2
        go_wp2_with fail
        refine (hda _ hany).mono ?_
        rintro e w3 ⟨rfl, hbw3⟩
        have hT3 := hT2.later hbw3
        clear b0 b1 b2 p0 p1 s0 zs0 s1 zs1 s2 zs2 g0 zg0 g1 zg1 g2 zg2
        have b0 : w3.cell? ⟨w.heap.size, 0, none⟩ = some (.int .i64 vid) := (box_cells hT3.hb).1 0
        have b1 : w3.cell? ⟨w.heap.size, 1, none⟩ = some (.slice (some ⟨b, o, none⟩) rn rc) := (box_cells hT3.hb).1 1
        have b2 : w3.cell? ⟨w.heap.size, 2, none⟩ = some (.slice sx sn sc) := (box_cells hT3.hb).1 2
        have p0 : w3.cell? ⟨w.heap.size + 1, 0, none⟩ = some (.int .i64 c) := (box_cells hT3.hp).1 0
        have p1 : w3.cell? ⟨w.heap.size + 1, 1, none⟩ = some (.int .i64 m) := (box_cells hT3.hp).1 1
        have s0 : w3.cell? ⟨w.heap.size + 2, 0, none⟩ = some (.int .i64 0) := (box_cells hT3.hs).1 0
        have zs0 : w3.frozen? ⟨w.heap.size + 2, 0, none⟩ = false := (box_cells hT3.hs).2 0
        have s1 : w3.cell? ⟨w.heap.size + 2, 1, none⟩ = some (.slice none 0 0) := (box_cells hT3.hs).1 1
        have zs1 : w3.frozen? ⟨w.heap.size + 2, 1, none⟩ = false := (box_cells hT3.hs).2 1
        have s2 : w3.cell? ⟨w.heap.size + 2, 2, none⟩ = some (.slice none 0 0) := (box_cells hT3.hs).1 2
        have zs2 : w3.frozen? ⟨w.heap.size + 2, 2, none⟩ = false := (box_cells hT3.hs).2 2
        have g0 : w3.cell? ⟨w.heap.size + 3, 0, none⟩ = some (.int .i64 0) := (box_cells hT3.hg).1 0
        have zg0 : w3.frozen? ⟨w.heap.size + 3, 0, none⟩ = false := (box_cells hT3.hg).2 0
        have g1 : w3.cell? ⟨w.heap.size + 3, 1, none⟩ = some (.int .i64 0) := (box_cells hT3.hg).1 1
        have zg1 : w3.frozen? ⟨w.heap.size + 3, 1, none⟩ = false := (box_cells hT3.hg).2 1
        have g2 : w3.cell? ⟨w.heap.size + 3, 2, none⟩ = some (.int .i64 0) := (box_cells hT3.hg).1 2
        have zg2 : w3.frozen? ⟨w.heap.size + 3, 2, none⟩ = false := (box_cells hT3.hg).2 2
        go_wp2_with fail
        refine (hv3 _ hT3.below).mono ?_
        rintro e w5 ⟨vR, vS, ts, rfl, hOR, hss, hOS, hb5⟩
        have hT5 := hT3.later hb5
        obtain ⟨xt, ct, rfl, -⟩ := hOS.subs
        obtain ⟨k, hk⟩ : ∃ k, rs.length = k + 1 := ⟨rs.length - 1, by have := hi'.out; have := hrl.out; omega⟩
        have hik : i ≤ k := by have := hi'.out; have := hrl.out; omega
        have hk64 : k ≤ 64 := by have := hrl.out; omega
        obtain ⟨g, cap, hg5, cur, hgh, hcap1, hcap2, hvR⟩ : ∃ g cap, w3.heap.size ≤ g ∧ ∃ cur, w5.heap[g]? = some (.cells cur 60) ∧ k + 1 ≤ cap ∧ cap ≤ 9223372036854775807 ∧ vR = .slice (some ⟨g, 0, none⟩) (k + 1) cap := by
          obtain ⟨x2, c2, hv2, h1, h2, -, -⟩ := hOR.mem
          rcases hOR.2 with ⟨hv', -⟩ | ⟨g, cap, cur, hv', hg1, hg2, -⟩
          · rw [hv'] at hv2; simp only [Value.slice.injEq] at hv2; omega
          · rw [hv'] at hv2
            simp only [Value.slice.injEq] at hv2
            obtain ⟨-, -, rfl⟩ := hv2
            exact ⟨g, cap, hg1, cur, hg2, by omega, h2, by rw [hv', hk]⟩
        subst hvR
        clear b0 b1 b2 p0 p1 s0 zs0 s1 zs1 s2 zs2 g0 zg0 g1 zg1 g2 zg2
        have hgl : g < w5.heap.size := (Array.getElem?_eq_some_iff.1 hgh).1
        go_upto_region 11 with fail
        obtain ⟨w6, hw6⟩ : ∃ w6, w6 = w5.alloc (vpB vid (.slice (some ⟨g, 0, none⟩) (k + 1) cap) (.slice xt ts.length ct)) := ⟨_, rfl⟩
        rw [← hw6]
        have hb56 : Below w5.heap.size w5 w6 := by rw [hw6]; exact bl1 _ _
        have hn6 : w6.heap[w5.heap.size]? = some (vpB vid (.slice (some ⟨g, 0, none⟩) (k + 1) cap) (.slice xt ts.length ct)) := by rw [hw6]; exact heap_new _ rfl
        clear hw6
        have hT6 := hT5.later hb56
        have hg6 := heap_later hb56 hgh
        have hOR6 := OwnR.later hOR hb56
        have hOS6 := OSs.later hOS hb56
        have n1 : w6.cell? ⟨w5.heap.size, 1, none⟩ = some (.slice (some ⟨g, 0, none⟩) (k + 1) cap) := (box_cells hn6).1 1
        have hdel := deleteR_any w3.heap.size g k cap i (i + 1) rs w6 hOR6 hk hik rfl hk64 hcap1 hcap2
        rw [show ((i + 1 : Nat) : Int) = (i : Int) + 1 by omega] at hdel
        go_wp2_with fail
        refine hdel.mono ?_
        rintro e w7 ⟨rfl, hO7, hg7⟩
        clear n1 hdel
        have hsz3 : w.heap.size + 3 < w3.heap.size := (Array.getElem?_eq_some_iff.1 hT3.hg).1
        have hn7 := grown_box hg7 (by omega) hn6
        have hb7 := grown_box hg7 (by omega) hT6.hb
        have hs7 := grown_box hg7 (by omega) hT6.hs
        have hr7 := grown_box hg7 (by omega) hT6.hg
        have hB7 := below_grownr hT6.below hg7 (fun q e => by cases e; omega)
        have hOS7 : OSs w7 w3.heap.size (.slice xt ts.length ct) ts ts.length := ⟨hOS6.row.kept hg7 (fun q hq e => by subst e; exact hOS6.row.ne hg6 (by decide) hq), fun j hj => (hOS6.own j hj).kept_of hg7 hg6 (by decide) (by decide), hOS6.apart⟩
        have m1 : w7.cell? ⟨w5.heap.size, 1, none⟩ = some (.slice (some ⟨g, 0, none⟩) (k + 1) cap) := (box_cells hn7).1 1
        have zm : w7.frozen? ⟨w5.heap.size, 1, none⟩ = false := (box_cells hn7).2 1
        go_upto_region 12 with fail
        clear m1 zm
        obtain ⟨w8, hw8⟩ : ∃ w8, w8 = w7.setCell ⟨w5.heap.size, 1, none⟩ (.slice (some ⟨g, 0, none⟩) k cap) := ⟨_, rfl⟩
        rw [← hw8]
        have hn8 : w8.heap[w5.heap.size]? = some (vpB vid (.slice (some ⟨g, 0, none⟩) k cap) (.slice xt ts.length ct)) := by
          rw [hw8]
          have := heap_setCell_same w7 w5.heap.size 1 _ _ (.slice (some ⟨g, 0, none⟩) k cap) hn7
          simpa using this
        have hz35 := hb5.size
        have hq1 : w.heap.size ≠ w5.heap.size := by omega
        have hq2 : w.heap.size + 2 ≠ w5.heap.size := by omega
        have hq3 : w.heap.size + 3 ≠ w5.heap.size := by omega
        have hb8 : w8.heap[w.heap.size]? = some (vpB vid (.slice (some ⟨b, o, none⟩) rn rc) (.slice sx sn sc)) := by rw [hw8]; exact (heap_setCell_other _ _ _ _ hq1).trans hb7
        have hs8 : w8.heap[w.heap.size + 2]? = some (vpB 0 (.slice none 0 0) (.slice none 0 0)) := by rw [hw8]; exact (heap_setCell_other _ _ _ _ hq2).trans hs7
        have hr8 : w8.heap[w.heap.size + 3]? = some (.cells #[.int .i64 0, .int .i64 0, .int .i64 0] 60) := by rw [hw8]; exact (heap_setCell_other _ _ _ _ hq3).trans hr7
        have hB8 : Below w.heap.size w w8 := by rw [hw8]; exact hB7.setCell (p := ⟨w5.heap.size, 1, none⟩) (by show w.heap.size ≤ w5.heap.size; omega) _
        have hO8 : OwnR w8 w3.heap.size (.slice (some ⟨g, 0, none⟩) k cap) (rs.take i ++ rs.drop (i + 1)) := by rw [hw8]; exact hO7.putBox hn7 (by decide)
        have hOS8 : OSs w8 w3.heap.size (.slice xt ts.length ct) ts ts.length := by rw [hw8]; exact hOS7.putBox hn7 (by decide) (by decide) (by decide)
        clear hw8
        have n0 : w8.cell? ⟨w5.heap.size, 0, none⟩ = some (.int .i64 vid) := (box_cells hn8).1 0
        have n1 : w8.cell? ⟨w5.heap.size, 1, none⟩ = some (.slice (some ⟨g, 0, none⟩) k cap) := (box_cells hn8).1 1
        have n2 : w8.cell? ⟨w5.heap.size, 2, none⟩ = some (.slice xt ts.length ct) := (box_cells hn8).1 2
        have b1 : w8.cell? ⟨w.heap.size, 1, none⟩ = some (.slice (some ⟨b, o, none⟩) rn rc) := (box_cells hb8).1 1
        have r0 := cell_later hB8 r0'.out
        have r1 := cell_later hB8 r1'.out
        have r2 := cell_later hB8 r2'.out
        have s0 : w8.cell? ⟨w.heap.size + 2, 0, none⟩ = some (.int .i64 0) := (box_cells hs8).1 0
        have s1 : w8.cell? ⟨w.heap.size + 2, 1, none⟩ = some (.slice none 0 0) := (box_cells hs8).1 1
        have s2 : w8.cell? ⟨w.heap.size + 2, 2, none⟩ = some (.slice none 0 0) := (box_cells hs8).1 2
        have zs0 : w8.frozen? ⟨w.heap.size + 2, 0, none⟩ = false := (box_cells hs8).2 0
        have zs1 : w8.frozen? ⟨w.heap.size + 2, 1, none⟩ = false := (box_cells hs8).2 1
        have zs2 : w8.frozen? ⟨w.heap.size + 2, 2, none⟩ = false := (box_cells hs8).2 2
        have g0 : w8.cell? ⟨w.heap.size + 3, 0, none⟩ = some (.int .i64 0) := (box_cells hr8).1 0
        have g1 : w8.cell? ⟨w.heap.size + 3, 1, none⟩ = some (.int .i64 0) := (box_cells hr8).1 1
        have g2 : w8.cell? ⟨w.heap.size + 3, 2, none⟩ = some (.int .i64 0) := (box_cells hr8).1 2
        have zg0 : w8.frozen? ⟨w.heap.size + 3, 0, none⟩ = false := (box_cells hr8).2 0
        have zg1 : w8.frozen? ⟨w.heap.size + 3, 1, none⟩ = false := (box_cells hr8).2 1
        have zg2 : w8.frozen? ⟨w.heap.size + 3, 2, none⟩ = false := (box_cells hr8).2 2
        have hbq := hbw.out
        go_region_held3 (fun w' => w'.cell? ⟨w5.heap.size, 0, none⟩ = some (.int .i64 vid) ∧ w'.cell? ⟨w5.heap.size, 1, none⟩ = some (.slice (some ⟨g, 0, none⟩) k cap) ∧ w'.cell? ⟨w5.heap.size, 2, none⟩ = some (.slice xt ts.length ct) ∧ w'.cell? ⟨w.heap.size, 1, none⟩ = some (.slice (some ⟨b, o, none⟩) rn rc) ∧ w'.cell? ⟨b, o + i * 3, none⟩ = some (.int .i64 (rgAt rs i).a) ∧ w'.cell? ⟨b, o + i * 3 + 1, none⟩ = some (.int .i64 (rgAt rs i).l) ∧ w'.cell? ⟨b, o + i * 3 + 2, none⟩ = some (.int .i64 (rgAt rs i).p)) (first | (refine ⟨?_, ?_, ?_, ?_, ?_, ?_, ?_⟩ <;> ((try rw [drew_cell]); (repeat rw [cell_set_ne (by omega)]); assumption))) (fail)
        all_goals go_wp2
        have hp2 : w.heap.size + 2 < w3.heap.size := by omega
        have hp3 : w.heap.size + 3 < w3.heap.size := by omega
        have hfin := Below.drew ((((((hB8.setCell (p := ⟨w.heap.size + 2, 0, none⟩) (Nat.le_add_right _ _) (.int .i64 vid)).setCell (p := ⟨w.heap.size + 2, 1, none⟩) (Nat.le_add_right _ _) (.slice (some ⟨g, 0, none⟩) k cap)).setCell (p := ⟨w.heap.size + 2, 2, none⟩) (Nat.le_add_right _ _) (.slice xt ts.length ct)).setCell (p := ⟨w.heap.size + 3, 0, none⟩) (Nat.le_add_right _ _) (.int .i64 (rgAt rs i).a)).setCell (p := ⟨w.heap.size + 3, 1, none⟩) (Nat.le_add_right _ _) (.int .i64 (rgAt rs i).l)).setCell (p := ⟨w.heap.size + 3, 2, none⟩) (Nat.le_add_right _ _) (.int .i64 (rgAt rs i).p))
        have hor := OwnR.drew ((((((hO8.put (o := 0) (u := (.int .i64 vid)) hp2).put (o := 1) (u := (.slice (some ⟨g, 0, none⟩) k cap)) hp2).put (o := 2) (u := (.slice xt ts.length ct)) hp2).put (o := 0) (u := (.int .i64 (rgAt rs i).a)) hp3).put (o := 1) (u := (.int .i64 (rgAt rs i).l)) hp3).put (o := 2) (u := (.int .i64 (rgAt rs i).p)) hp3)
        have hos := OSs.later ((((((hOS8.put (o := 0) (u := (.int .i64 vid)) hp2).put (o := 1) (u := (.slice (some ⟨g, 0, none⟩) k cap)) hp2).put (o := 2) (u := (.slice xt ts.length ct)) hp2).put (o := 0) (u := (.int .i64 (rgAt rs i).a)) hp3).put (o := 1) (u := (.int .i64 (rgAt rs i).l)) hp3).put (o := 2) (u := (.int .i64 (rgAt rs i).p)) hp3) (Below.refl _ _).drew
        refine bodyPost_ret (v := .tuple #[.agg #[.int .i64 vid, .slice (some ⟨g, 0, none⟩) k cap, .slice xt ts.length ct], .agg #[.int .i64 (rgAt rs i).a, .int .i64 (rgAt rs i).l, .int .i64 (rgAt rs i).p], .int .i64 0]) (by simp [results, Try.results28, go_sem, s0, s1, s2, g0, g1, g2]) rfl ?_
        exact ⟨_, rgAt rs i, by rw [hE0.out], hfin, fun h => absurd hE0.out h, fun _ => ⟨ts, i, hss, hi'.out, hHf.out.1, hHf.out.2, rfl, NV.of hor hos⟩⟩
    · have hsp' := hsp _ hfp
      have hne : dropE vid rn rs sn ss c m = 5 ∧ (5 : Int) ≠ 0 := ⟨hE1.out.trans (if_pos (by rw [hfp]; decide)), by decide⟩
      clear hfp hE1 hsp
      go_wp2_with fail
      refine (hsp').mono ?_
      rintro e w2 ⟨rfl, hbw2⟩
      have hT2 := hT1.later hbw2
      clear b0 b1 b2 p0 p1 s0 zs0 s1 zs1 s2 zs2 g0 zg0 g1 zg1 g2 zg2
      have b0 : w2.cell? ⟨w.heap.size, 0, none⟩ = some (.int .i64 vid) := (box_cells hT2.hb).1 0
      have b1 : w2.cell? ⟨w.heap.size, 1, none⟩ = some (.slice rx rn rc) := (box_cells hT2.hb).1 1
      have b2 : w2.cell? ⟨w.heap.size, 2, none⟩ = some (.slice sx sn sc) := (box_cells hT2.hb).1 2
      have p0 : w2.cell? ⟨w.heap.size + 1, 0, none⟩ = some (.int .i64 c) := (box_cells hT2.hp).1 0
      have p1 : w2.cell? ⟨w.heap.size + 1, 1, none⟩ = some (.int .i64 m) := (box_cells hT2.hp).1 1
      have s0 : w2.cell? ⟨w.heap.size + 2, 0, none⟩ = some (.int .i64 0) := (box_cells hT2.hs).1 0
      have zs0 : w2.frozen? ⟨w.heap.size + 2, 0, none⟩ = false := (box_cells hT2.hs).2 0
      have s1 : w2.cell? ⟨w.heap.size + 2, 1, none⟩ = some (.slice none 0 0) := (box_cells hT2.hs).1 1
      have zs1 : w2.frozen? ⟨w.heap.size + 2, 1, none⟩ = false := (box_cells hT2.hs).2 1
      have s2 : w2.cell? ⟨w.heap.size + 2, 2, none⟩ = some (.slice none 0 0) := (box_cells hT2.hs).1 2
      have zs2 : w2.frozen? ⟨w.heap.size + 2, 2, none⟩ = false := (box_cells hT2.hs).2 2
      have g0 : w2.cell? ⟨w.heap.size + 3, 0, none⟩ = some (.int .i64 0) := (box_cells hT2.hg).1 0
      have zg0 : w2.frozen? ⟨w.heap.size + 3, 0, none⟩ = false := (box_cells hT2.hg).2 0
      have g1 : w2.cell? ⟨w.heap.size + 3, 1, none⟩ = some (.int .i64 0) := (box_cells hT2.hg).1 1
      have zg1 : w2.frozen? ⟨w.heap.size + 3, 1, none⟩ = false := (box_cells hT2.hg).2 1
      have g2 : w2.cell? ⟨w.heap.size + 3, 2, none⟩ = some (.int .i64 0) := (box_cells hT2.hg).1 2
      have zg2 : w2.frozen? ⟨w.heap.size + 3, 2, none⟩ = false := (box_cells hT2.hg).2 2
      go_wp2
      refine bodyPost_ret (v := .tuple #[.agg #[.int .i64 0, .slice none 0 0, .slice none 0 0], .agg #[.int .i64 0, .int .i64 0, .int .i64 0], .int .i64 5]) (by simp [results, Try.results28, go_sem, s0, s1, s2, g0, g1, g2]) rfl ?_
      exact DropPost.err hne ((((((hT2.below.setCell (p := ⟨w.heap.size + 2, 0, none⟩) (Nat.le_add_right _ _) _).setCell (p := ⟨w.heap.size + 2, 1, none⟩) (Nat.le_add_right _ _) _).setCell (p := ⟨w.heap.size + 2, 2, none⟩) (Nat.le_add_right _ _) _).setCell (p := ⟨w.heap.size + 3, 0, none⟩) (Nat.le_add_right _ _) _).setCell (p := ⟨w.heap.size + 3, 1, none⟩) (Nat.le_add_right _ _) _).setCell (p := ⟨w.heap.size + 3, 2, none⟩) (Nat.le_add_right _ _) _)
  · have hne : dropE vid rn rs sn ss c m = chkV vid rn rs sn ss ∧ chkV vid rn rs sn ss ≠ 0 := ⟨if_pos hc0, hc0⟩
    go_wp2_with fail
    refine (hck).mono ?_
    rintro e w1 ⟨rfl, hbw1⟩
    have hT1 := hT0.later hbw1
    clear b0 b1 b2 p0 p1 s0 zs0 s1 zs1 s2 zs2 g0 zg0 g1 zg1 g2 zg2
    have b0 : w1.cell? ⟨w.heap.size, 0, none⟩ = some (.int .i64 vid) := (box_cells hT1.hb).1 0
    have b1 : w1.cell? ⟨w.heap.size, 1, none⟩ = some (.slice rx rn rc) := (box_cells hT1.hb).1 1
    have b2 : w1.cell? ⟨w.heap.size, 2, none⟩ = some (.slice sx sn sc) := (box_cells hT1.hb).1 2
    have p0 : w1.cell? ⟨w.heap.size + 1, 0, none⟩ = some (.int .i64 c) := (box_cells hT1.hp).1 0
    have p1 : w1.cell? ⟨w.heap.size + 1, 1, none⟩ = some (.int .i64 m) := (box_cells hT1.hp).1 1
    have s0 : w1.cell? ⟨w.heap.size + 2, 0, none⟩ = some (.int .i64 0) := (box_cells hT1.hs).1 0
    have zs0 : w1.frozen? ⟨w.heap.size + 2, 0, none⟩ = false := (box_cells hT1.hs).2 0
    have s1 : w1.cell? ⟨w.heap.size + 2, 1, none⟩ = some (.slice none 0 0) := (box_cells hT1.hs).1 1
    have zs1 : w1.frozen? ⟨w.heap.size + 2, 1, none⟩ = false := (box_cells hT1.hs).2 1
    have s2 : w1.cell? ⟨w.heap.size + 2, 2, none⟩ = some (.slice none 0 0) := (box_cells hT1.hs).1 2
    have zs2 : w1.frozen? ⟨w.heap.size + 2, 2, none⟩ = false := (box_cells hT1.hs).2 2
    have g0 : w1.cell? ⟨w.heap.size + 3, 0, none⟩ = some (.int .i64 0) := (box_cells hT1.hg).1 0
    have zg0 : w1.frozen? ⟨w.heap.size + 3, 0, none⟩ = false := (box_cells hT1.hg).2 0
    have g1 : w1.cell? ⟨w.heap.size + 3, 1, none⟩ = some (.int .i64 0) := (box_cells hT1.hg).1 1
    have zg1 : w1.frozen? ⟨w.heap.size + 3, 1, none⟩ = false := (box_cells hT1.hg).2 1
    have g2 : w1.cell? ⟨w.heap.size + 3, 2, none⟩ = some (.int .i64 0) := (box_cells hT1.hg).1 2
    have zg2 : w1.frozen? ⟨w.heap.size + 3, 2, none⟩ = false := (box_cells hT1.hg).2 2
    have hsp := dropIx_is c m (w.heap.size + 1) rx rn rc rs _ rfl w1 (hv.later hT1.below).ranges hrn p0 p1
    generalize fstAt rn (rpB rs c m) = fp at hsp
    go_wp2_with fail
    refine (hsp).mono ?_
    rintro e w2 ⟨rfl, hbw2⟩
    have hT2 := hT1.later hbw2
    clear b0 b1 b2 p0 p1 s0 zs0 s1 zs1 s2 zs2 g0 zg0 g1 zg1 g2 zg2
    have b0 : w2.cell? ⟨w.heap.size, 0, none⟩ = some (.int .i64 vid) := (box_cells hT2.hb).1 0
    have b1 : w2.cell? ⟨w.heap.size, 1, none⟩ = some (.slice rx rn rc) := (box_cells hT2.hb).1 1
    have b2 : w2.cell? ⟨w.heap.size, 2, none⟩ = some (.slice sx sn sc) := (box_cells hT2.hb).1 2
    have p0 : w2.cell? ⟨w.heap.size + 1, 0, none⟩ = some (.int .i64 c) := (box_cells hT2.hp).1 0
    have p1 : w2.cell? ⟨w.heap.size + 1, 1, none⟩ = some (.int .i64 m) := (box_cells hT2.hp).1 1
    have s0 : w2.cell? ⟨w.heap.size + 2, 0, none⟩ = some (.int .i64 0) := (box_cells hT2.hs).1 0
    have zs0 : w2.frozen? ⟨w.heap.size + 2, 0, none⟩ = false := (box_cells hT2.hs).2 0
    have s1 : w2.cell? ⟨w.heap.size + 2, 1, none⟩ = some (.slice none 0 0) := (box_cells hT2.hs).1 1
    have zs1 : w2.frozen? ⟨w.heap.size + 2, 1, none⟩ = false := (box_cells hT2.hs).2 1
    have s2 : w2.cell? ⟨w.heap.size + 2, 2, none⟩ = some (.slice none 0 0) := (box_cells hT2.hs).1 2
    have zs2 : w2.frozen? ⟨w.heap.size + 2, 2, none⟩ = false := (box_cells hT2.hs).2 2
    have g0 : w2.cell? ⟨w.heap.size + 3, 0, none⟩ = some (.int .i64 0) := (box_cells hT2.hg).1 0
    have zg0 : w2.frozen? ⟨w.heap.size + 3, 0, none⟩ = false := (box_cells hT2.hg).2 0
    have g1 : w2.cell? ⟨w.heap.size + 3, 1, none⟩ = some (.int .i64 0) := (box_cells hT2.hg).1 1
    have zg1 : w2.frozen? ⟨w.heap.size + 3, 1, none⟩ = false := (box_cells hT2.hg).2 1
    have g2 : w2.cell? ⟨w.heap.size + 3, 2, none⟩ = some (.int .i64 0) := (box_cells hT2.hg).1 2
    have zg2 : w2.frozen? ⟨w.heap.size + 3, 2, none⟩ = false := (box_cells hT2.hg).2 2
    go_wp2
    refine bodyPost_ret (v := .tuple #[.agg #[.int .i64 0, .slice none 0 0, .slice none 0 0], .agg #[.int .i64 0, .int .i64 0, .int .i64 0], .int .i64 (chkV vid rn rs sn ss)]) (by simp [results, Try.results28, go_sem, s0, s1, s2, g0, g1, g2]) rfl ?_
    exact DropPost.err hne ((((((hT2.below.setCell (p := ⟨w.heap.size + 2, 0, none⟩) (Nat.le_add_right _ _) _).setCell (p := ⟨w.heap.size + 2, 1, none⟩) (Nat.le_add_right _ _) _).setCell (p := ⟨w.heap.size + 2, 2, none⟩) (Nat.le_add_right _ _) _).setCell (p := ⟨w.heap.size + 3, 0, none⟩) (Nat.le_add_right _ _) _).setCell (p := ⟨w.heap.size + 3, 1, none⟩) (Nat.le_add_right _ _) _).setCell (p := ⟨w.heap.size + 3, 2, none⟩) (Nat.le_add_right _ _) _)
end Go.Proofs.Ytpdhipjeobchfaa
/- placeOf of package vpc. -/
namespace Go.Proofs.Ytpdhipjeobchfaa
open Go.RowKit Go.Shelf

def plE (vid : Int) (rn : Nat) (rs : List Rg) (sn : Nat) (ss : List Sb) (sub id : Int) : Int :=
  if chkV vid rn rs sn ss ≠ 0 then chkV vid rn rs sn ss else if fstAt sn (fun i => (sbAt ss i).id == sub) < 0 then 5 else if fstAt (sbAt ss (fstAt sn (fun i => (sbAt ss i).id == sub)).toNat).n (fun j => (fcAt (sbAt ss (fstAt sn (fun i => (sbAt ss i).id == sub)).toNat).fs j).id == id) < 0 then 5 else 0
/-- There the face stands. -/
structure FaceAt (sn : Nat) (ss : List Sb) (sub id : Int) (i j : Nat) : Prop where
  isn : i < sn
  sid : (sbAt ss i).id = sub
  sno : ∀ k, k < i → (sbAt ss k).id ≠ sub
  jn : j < (sbAt ss i).n
  fid : (fcAt (sbAt ss i).fs j).id = id
  fno : ∀ k, k < j → (fcAt (sbAt ss i).fs k).id ≠ id
def PlPost (vid : Int) (rn : Nat) (rs : List Rg) (sn : Nat) (ss : List Sb) (sub id : Int) (w : World) (e : Ending) (w' : World) : Prop :=
  ∃ i j : Nat, e = .returned (.tuple #[.int .i64 i, .int .i64 j, .int .i64 (plE vid rn rs sn ss sub id)]) ∧ Below w.heap.size w w' ∧ (plE vid rn rs sn ss sub id ≠ 0 → i = 0 ∧ j = 0) ∧ (plE vid rn rs sn ss sub id = 0 → chkV vid rn rs sn ss = 0 ∧ FaceAt sn ss sub id i j)
theorem PlPost.err {vid : Int} {rn : Nat} {rs : List Rg} {sn : Nat} {ss : List Sb} {sub id E : Int} {w w' : World} (hE : plE vid rn rs sn ss sub id = E ∧ E ≠ 0) (hb : Below w.heap.size w w') :
    PlPost vid rn rs sn ss sub id w (.returned (.tuple #[.int .i64 0, .int .i64 0, .int .i64 E])) w' :=
  ⟨0, 0, by rw [hE.1]; rfl, hb, fun _ => ⟨rfl, rfl⟩, fun h => absurd (hE.1.symm.trans h) hE.2⟩
structure TP (w W : World) (vid : Int) (rx : Option Addr) (rn rc : Nat) (sx : Option Addr) (sn sc : Nat) : Prop where
  hb : W.heap[w.heap.size]? = some (.cells #[.int .i64 vid, .slice rx rn rc, .slice sx sn sc] 25)
  below : Below w.heap.size w W
theorem TP.later {w W W' : World} {vid : Int} {rx : Option Addr} {rn rc : Nat} {sx : Option Addr} {sn sc : Nat} (h : TP w W vid rx rn rc sx sn sc) (hb : Below W.heap.size W W') : TP w W' vid rx rn rc sx sn sc :=
  ⟨heap_later hb h.hb, h.below.trans (hb.mono h.below.size)⟩

set_option maxRecDepth 100000 in
set_option maxHeartbeats 3200000 in
theorem placeOf_any (vid : Int) (rx : Option Addr) (rn rc : Nat) (rs : List Rg) (sx : Option Addr) (sn sc : Nat) (ss : List Sb) (sub id : Int) (w : World) (hv : Vp w rx rn rc rs sx sn sc ss) (hrn : rn ≤ 9223372036854775807) (hsn : sn ≤ 9223372036854775807) (hrc : rc ≤ 9223372036854775807) :
    Calls Try.prog 20 #[.agg #[.int .i64 vid, .slice rx rn rc, .slice sx sn sc], .int .i64 sub, .int .i64 id] w (PlPost vid rn rs sn ss sub id w) := by
  go_enter Try.func20, Try.ntmps20
  go_upto_region 1 with fail
  obtain ⟨w0, hw0⟩ : ∃ w0, w0 = w.alloc (vpB vid (.slice rx rn rc) (.slice sx sn sc)) := ⟨_, rfl⟩
  rw [← hw0]
  have hT0 : TP w w0 vid rx rn rc sx sn sc := by
    rw [hw0]
    exact ⟨heap_new _ rfl, bl1 w _⟩
  clear hw0
  have b0 : w0.cell? ⟨w.heap.size, 0, none⟩ = some (.int .i64 vid) := (box_cells hT0.hb).1 0
  have b1 : w0.cell? ⟨w.heap.size, 1, none⟩ = some (.slice rx rn rc) := (box_cells hT0.hb).1 1
  have b2 : w0.cell? ⟨w.heap.size, 2, none⟩ = some (.slice sx sn sc) := (box_cells hT0.hb).1 2
  have hck := checkV_any vid rx rn rc rs sx sn sc ss w0 (hv.later hT0.below) hrn hsn hrc
  by_cases hc0 : chkV vid rn rs sn ss = 0
  · rw [hc0] at hck
    obtain ⟨f1, f2, f3, f4⟩ := chkV_few hc0
    have hE1 : Hid (plE vid rn rs sn ss sub id = if fstAt sn (fun i => (sbAt ss i).id == sub) < 0 then 5 else if fstAt (sbAt ss (fstAt sn (fun i => (sbAt ss i).id == sub)).toNat).n (fun j => (fcAt (sbAt ss (fstAt sn (fun i => (sbAt ss i).id == sub)).toNat).fs j).id == id) < 0 then 5 else 0) := if_neg (c := chkV vid rn rs sn ss ≠ 0) (by simp [hc0])
    have hcz : Hid (chkV vid rn rs sn ss = 0) := hc0
    clear hc0
    go_wp2_with fail
    refine (hck).mono ?_
    rintro e w1 ⟨rfl, hbw1⟩
    have hT1 := hT0.later hbw1
    clear b0 b1 b2
    have b0 : w1.cell? ⟨w.heap.size, 0, none⟩ = some (.int .i64 vid) := (box_cells hT1.hb).1 0
    have b1 : w1.cell? ⟨w.heap.size, 1, none⟩ = some (.slice rx rn rc) := (box_cells hT1.hb).1 1
    have b2 : w1.cell? ⟨w.heap.size, 2, none⟩ = some (.slice sx sn sc) := (box_cells hT1.hb).1 2
    have hsp := fun t h => subPlace_is vid sub rx rn rc sx sn sc ss t h w1 (hv.later hT1.below).subs (by omega)
    rcases fstAt_cases sn (fun i => (sbAt ss i).id == sub) with ⟨i, hi, hf, hno, hfp⟩ | ⟨-, hfp⟩
    · have hsp' := hsp _ hfp
      clear hsp
      have hE2 : Hid (plE vid rn rs sn ss sub id = if fstAt (sbAt ss i).n (fun j => (fcAt (sbAt ss i).fs j).id == id) < 0 then 5 else 0) := by
        have := hE1.out
        rw [hfp] at this
        rw [if_neg (by omega)] at this
        unfold Hid
        simpa using this
      clear hfp hE1
      have hHf : Hid ((sbAt ss i).id = sub ∧ ∀ j, j < i → (sbAt ss j).id ≠ sub) := ⟨by simpa using hf, fun j hj => by simpa using hno j hj⟩
      clear hf hno
      have hi' : Hid (i < sn) := hi
      have hn8 := f3 i hi
      obtain ⟨b, o, rfl, c0, c1, c2, c3⟩ := hv.subs.cells i hi
      go_wp2_with fail
      refine (hsp').mono ?_
      rintro e w2 ⟨rfl, hbw2⟩
      have hT2 := hT1.later hbw2
      clear b0 b1 b2
      have b0 : w2.cell? ⟨w.heap.size, 0, none⟩ = some (.int .i64 vid) := (box_cells hT2.hb).1 0
      have b1 : w2.cell? ⟨w.heap.size, 1, none⟩ = some (.slice rx rn rc) := (box_cells hT2.hb).1 1
      have b2 : w2.cell? ⟨w.heap.size, 2, none⟩ = some (.slice (some ⟨b, o, none⟩) sn sc) := (box_cells hT2.hb).1 2
      have d0 := cell_later hT2.below c0
      have d1 := cell_later hT2.below c1
      have d2 := cell_later hT2.below c2
      have d3 := cell_later hT2.below c3
      clear c0 c1 c2 c3
      have i0 : (0 : Int) ≤ i := by omega
      have i1 : (i : Int) < sn := by omega
      have hfl := fun t h => facePlace_is (sbAt ss i) id t h w2 ((hv.later hT2.below).subs.faces i hi).2.2 (by omega)
      rcases fstAt_cases (sbAt ss i).n (fun j => (fcAt (sbAt ss i).fs j).id == id) with ⟨j, hj, hjf, hjno, hjp⟩ | ⟨-, hjp⟩
      · have hfl' := hfl _ hjp
        have hE0 : Hid (plE vid rn rs sn ss sub id = 0) := hE2.out.trans (if_neg (by rw [hjp]; omega))
        have hHj : Hid (FaceAt sn ss sub id i j) := ⟨hi, hHf.out.1, hHf.out.2, hj, by simpa using hjf, fun k hk => by simpa using hjno k hk⟩
        clear hjp hE2 hfl hjf hjno
        go_wp2_with fail
        refine (hfl').mono ?_
        rintro e w3 ⟨rfl, hbw3⟩
        have hT3 := hT2.later hbw3
        go_wp2
        refine bodyPost_ret (v := .tuple #[.int .i64 i, .int .i64 j, .int .i64 0]) (by simp [results, Try.results20, go_sem]) rfl ?_
        exact ⟨i, j, by rw [hE0.out], hT3.below, fun h => absurd hE0.out h, fun _ => ⟨hcz.out, hHj.out⟩⟩
      · have hfl' := hfl _ hjp
        have hne : plE vid rn rs sn ss sub id = 5 ∧ (5 : Int) ≠ 0 := ⟨hE2.out.trans (if_pos (by rw [hjp]; decide)), by decide⟩
        clear hjp hE2 hfl
        go_wp2_with fail
        refine (hfl').mono ?_
        rintro e w3 ⟨rfl, hbw3⟩
        have hT3 := hT2.later hbw3
        go_wp2
        refine bodyPost_ret (v := .tuple #[.int .i64 0, .int .i64 0, .int .i64 5]) (by simp [results, Try.results20, go_sem]) rfl ?_
        exact PlPost.err hne hT3.below
    · have hsp' := hsp _ hfp
      have hne : plE vid rn rs sn ss sub id = 5 ∧ (5 : Int) ≠ 0 := ⟨hE1.out.trans (if_pos (by rw [hfp]; decide)), by decide⟩
      clear hfp hE1 hsp
      go_wp2_with fail
      refine (hsp').mono ?_
      rintro e w2 ⟨rfl, hbw2⟩
      have hT2 := hT1.later hbw2
      clear b0 b1 b2
      have b0 : w2.cell? ⟨w.heap.size, 0, none⟩ = some (.int .i64 vid) := (box_cells hT2.hb).1 0
      have b1 : w2.cell? ⟨w.heap.size, 1, none⟩ = some (.slice rx rn rc) := (box_cells hT2.hb).1 1
      have b2 : w2.cell? ⟨w.heap.size, 2, none⟩ = some (.slice sx sn sc) := (box_cells hT2.hb).1 2
      go_wp2
      refine bodyPost_ret (v := .tuple #[.int .i64 0, .int .i64 0, .int .i64 5]) (by simp [results, Try.results20, go_sem]) rfl ?_
      exact PlPost.err hne hT2.below
  · have hne : plE vid rn rs sn ss sub id = chkV vid rn rs sn ss ∧ chkV vid rn rs sn ss ≠ 0 := ⟨if_pos hc0, hc0⟩
    go_wp2_with fail
    refine (hck).mono ?_
    rintro e w1 ⟨rfl, hbw1⟩
    have hT1 := hT0.later hbw1
    clear b0 b1 b2
    have b0 : w1.cell? ⟨w.heap.size, 0, none⟩ = some (.int .i64 vid) := (box_cells hT1.hb).1 0
    have b1 : w1.cell? ⟨w.heap.size, 1, none⟩ = some (.slice rx rn rc) := (box_cells hT1.hb).1 1
    have b2 : w1.cell? ⟨w.heap.size, 2, none⟩ = some (.slice sx sn sc) := (box_cells hT1.hb).1 2
    go_wp2
    refine bodyPost_ret (v := .tuple #[.int .i64 0, .int .i64 0, .int .i64 (chkV vid rn rs sn ss)]) (by simp [results, Try.results20, go_sem]) rfl ?_
    exact PlPost.err hne hT1.below
end Go.Proofs.Ytpdhipjeobchfaa
/- Unface of package vpc. -/
namespace Go.Proofs.Ytpdhipjeobchfaa
open Go.RowKit Go.Shelf

theorem fcAt_mem {fs : List Fc} {i : Nat} (h : i < fs.length) : fcAt fs i ∈ fs := by
  unfold fcAt
  rw [List.getD_eq_getElem?_getD, List.getElem?_eq_getElem h]
  exact List.getElem_mem h
/-- Faces of the call's own, by their elements. -/
theorem OFs.mk' {w : World} {base : Nat} {v : Value} {fs : List Fc} (h : OwnF w base v fs) (ho : ∀ f ∈ fs, OwnI w base (.slice f.x f.n f.c) f.ns) : OFs w base v fs fs.length :=
  ⟨h, fun i hi => ho _ (fcAt_mem hi), fun i hi hi2 => by omega⟩
theorem OFs.each {w : World} {base : Nat} {v : Value} {fs : List Fc} (h : OFs w base v fs fs.length) : ∀ f ∈ fs, OwnI w base (.slice f.x f.n f.c) f.ns := fun f hf => by
  obtain ⟨i, hi, rfl⟩ := List.getElem_of_mem hf
  have e : fcAt fs i = fs[i] := by unfold fcAt; rw [List.getD_eq_getElem?_getD, List.getElem?_eq_getElem hi]; rfl
  have := h.own i hi
  rw [e] at this
  exact this
/-- One subnet's row of faces changes in its own block: all rows stand, the changed one with what it holds now. -/
theorem OSs.cut {w w' : World} {base i gf kf cf : Nat} {v : Value} {ts : List Sb} {gs : List Fc} {cur : Array Value} (h : OSs w base v ts ts.length) (hi : i < ts.length) (hg : w.grownBy w' (some gf)) (hb : w.heap[gf]? = some (.cells cur 47))
    (hx : (Value.slice (sbAt ts i).x (sbAt ts i).n (sbAt ts i).c).ownBlock = some gf) (hO : OwnF w' base (.slice (some ⟨gf, 0, none⟩) kf cf) gs) (hsub : ∀ f ∈ gs, f ∈ (sbAt ts i).fs) :
    OFa w' base (ts.set i (withF (sbAt ts i) (some ⟨gf, 0, none⟩) kf cf gs)) := fun s hs => by
  have hI : ∀ k, k < ts.length → ∀ f ∈ (sbAt ts k).fs, OwnI w' base (.slice f.x f.n f.c) f.ns := fun k hk f hf => by
    have h1 := (h.own k hk).each f hf
    exact h1.kept hg (fun q hq e => by subst e; exact h1.ne hb (by decide) hq)
  obtain ⟨k, hk, rfl⟩ := List.getElem_of_mem hs
  have hk' : k < ts.length := by simpa using hk
  rw [List.getElem_set]
  by_cases e : i = k
  · rw [if_pos e]
    exact OFs.mk' hO (fun f hf => hI i hi f (hsub f hf))
  · rw [if_neg e]
    have e2 : sbAt ts k = ts[k] := by unfold sbAt; rw [List.getD_eq_getElem?_getD, List.getElem?_eq_getElem hk']; rfl
    rw [← e2]
    exact OFs.mk' ((h.own k hk').row.kept hg (fun q hq e3 => by subst e3; exact h.apart i k hi hk' e _ hx hq)) (hI k hk')
theorem cell_of_heap {w w' : World} {b o : Nat} (h : w'.heap[b]? = w.heap[b]?) : w'.cell? ⟨b, o, none⟩ = w.cell? ⟨b, o, none⟩ := by simp [World.cell?, h]
theorem unface_after {w6 w7 : World} {gf g bx base i k cf cap n : Nat} {vid : Int} {vR : Value} {ts : List Sb} {cur curf : Array Value} (hg7' : w6.drew.grownBy w7 (some gf)) (hn6 : w6.heap[bx]? = some (vpB vid vR (.slice (some ⟨g, 0, none⟩) n cap))) (hrow : OwnS w6 base (.slice (some ⟨g, 0, none⟩) n cap) ts)
    (hgf6 : w6.heap[gf]? = some (.cells curf 47)) (hg6 : w6.heap[g]? = some (.cells cur 42)) (hne1 : g ≠ gf) (hne2 : bx ≠ gf) (d3 : w6.cell? ⟨g, i * 4 + 3, none⟩ = some (.slice (some ⟨gf, 0, none⟩) (k + 1) cf)) :
    w6.grownBy w7 (some gf) ∧ w7.heap[bx]? = some (vpB vid vR (.slice (some ⟨g, 0, none⟩) n cap)) ∧ OwnS w7 base (.slice (some ⟨g, 0, none⟩) n cap) ts ∧ w7.cell? ⟨bx, 2, none⟩ = some (.slice (some ⟨g, 0, none⟩) n cap) ∧ w7.cell? ⟨g, i * 4 + 3, none⟩ = some (.slice (some ⟨gf, 0, none⟩) (k + 1) cf) ∧ w7.frozen? ⟨g, i * 4 + 3, none⟩ = false ∧ w7.heap[g]? = some (.cells cur 42) := by
  have hg7 : w6.grownBy w7 (some gf) := by
    obtain ⟨q1, q2, q3, q4, q5⟩ := hg7'
    exact ⟨q1, q2, q3, q4, q5⟩
  have hn7 := grown_box hg7 hne2 hn6
  have hrow7 := hrow.kept hg7 (fun q hq e => by subst e; exact hrow.ne hgf6 (by decide) hq)
  have hgg7 := grown_box hg7 hne1 hg6
  exact ⟨hg7, hn7, hrow7, (box_cells hn7).1 2, (cell_of_heap (hgg7.trans hg6.symm)).trans d3, hrow7.frozen _, hgg7⟩
def UnfaceR (vid : Int) (rs : List Rg) (sn : Nat) (ss : List Sb) (sub id : Int) (w : World) (V : Value) : Prop := ∃ ts i j x n c, FaceAt sn ss sub id i j ∧ sameSs ss ts ∧ n = ((sbAt ts i).fs.take j ++ (sbAt ts i).fs.drop (j + 1)).length ∧ NV w vid V rs (ts.set i (withF (sbAt ts i) x n c ((sbAt ts i).fs.take j ++ (sbAt ts i).fs.drop (j + 1))))

set_option maxRecDepth 100000 in
set_option maxHeartbeats 3200000 in
theorem vunface_any (vid : Int) (rx : Option Addr) (rn rc : Nat) (rs : List Rg) (sx : Option Addr) (sn sc : Nat) (ss : List Sb) (sub id : Int) (w : World) (hv : Vp w rx rn rc rs sx sn sc ss) (hrn : rn ≤ 9223372036854775807) (hsn : sn ≤ 9223372036854775807) (hrc : rc ≤ 9223372036854775807) :
    Calls Try.prog 8 #[.agg #[.int .i64 vid, .slice rx rn rc, .slice sx sn sc], .int .i64 sub, .int .i64 id] w (VPost (plE vid rn rs sn ss sub id) (UnfaceR vid rs sn ss sub id) w) := by
  have hrl : Hid (rs.length = rn) := hv.ranges.len
  have hsl : Hid (ss.length = sn) := hv.subs.len
  have hpl0 := fun W h => placeOf_any vid rx rn rc rs sx sn sc ss sub id W h hrn hsn hrc
  unfold PlPost at hpl0
  generalize plE vid rn rs sn ss sub id = E at hpl0 ⊢
  go_enter Try.func8, Try.ntmps8
  go_upto_region 1 with fail
  obtain ⟨w0, hw0⟩ : ∃ w0, w0 = (w.alloc (vpB vid (.slice rx rn rc) (.slice sx sn sc))).alloc (vpB 0 (.slice none 0 0) (.slice none 0 0)) := ⟨_, rfl⟩
  rw [← hw0]
  have hT0 : TN w w0 vid rx rn rc sx sn sc := by
    rw [hw0]
    exact ⟨heap_old _ (heap_new _ rfl), heap_new _ (by simp), bl2 w _ _⟩
  clear hw0
  have b0 : w0.cell? ⟨w.heap.size, 0, none⟩ = some (.int .i64 vid) := (box_cells hT0.hb).1 0
  have b1 : w0.cell? ⟨w.heap.size, 1, none⟩ = some (.slice rx rn rc) := (box_cells hT0.hb).1 1
  have b2 : w0.cell? ⟨w.heap.size, 2, none⟩ = some (.slice sx sn sc) := (box_cells hT0.hb).1 2
  have s0 : w0.cell? ⟨w.heap.size + 1, 0, none⟩ = some (.int .i64 0) := (box_cells hT0.hs).1 0
  have zs0 : w0.frozen? ⟨w.heap.size + 1, 0, none⟩ = false := (box_cells hT0.hs).2 0
  have s1 : w0.cell? ⟨w.heap.size + 1, 1, none⟩ = some (.slice none 0 0) := (box_cells hT0.hs).1 1
  have zs1 : w0.frozen? ⟨w.heap.size + 1, 1, none⟩ = false := (box_cells hT0.hs).2 1
  have s2 : w0.cell? ⟨w.heap.size + 1, 2, none⟩ = some (.slice none 0 0) := (box_cells hT0.hs).1 2
  have zs2 : w0.frozen? ⟨w.heap.size + 1, 2, none⟩ = false := (box_cells hT0.hs).2 2
  have hpl := hpl0 w0 (hv.later hT0.below)
  clear hpl0
  by_cases hE : E = 0
  · subst hE
    go_wp2_with fail
    refine hpl.mono ?_
    rintro e w1 ⟨i, j, rfl, hb1, -, hok⟩
    obtain ⟨hcz, hFA⟩ := hok (by trivial)
    obtain ⟨f1, f2, f3, f4⟩ := chkV_few hcz
    clear hcz hok hpl
    have hT1 := hT0.later hb1
    clear b0 b1 b2 s0 zs0 s1 zs1 s2 zs2
    have b0 : w1.cell? ⟨w.heap.size, 0, none⟩ = some (.int .i64 vid) := (box_cells hT1.hb).1 0
    have b1 : w1.cell? ⟨w.heap.size, 1, none⟩ = some (.slice rx rn rc) := (box_cells hT1.hb).1 1
    have b2 : w1.cell? ⟨w.heap.size, 2, none⟩ = some (.slice sx sn sc) := (box_cells hT1.hb).1 2
    have s0 : w1.cell? ⟨w.heap.size + 1, 0, none⟩ = some (.int .i64 0) := (box_cells hT1.hs).1 0
    have zs0 : w1.frozen? ⟨w.heap.size + 1, 0, none⟩ = false := (box_cells hT1.hs).2 0
    have s1 : w1.cell? ⟨w.heap.size + 1, 1, none⟩ = some (.slice none 0 0) := (box_cells hT1.hs).1 1
    have zs1 : w1.frozen? ⟨w.heap.size + 1, 1, none⟩ = false := (box_cells hT1.hs).2 1
    have s2 : w1.cell? ⟨w.heap.size + 1, 2, none⟩ = some (.slice none 0 0) := (box_cells hT1.hs).1 2
    have zs2 : w1.frozen? ⟨w.heap.size + 1, 2, none⟩ = false := (box_cells hT1.hs).2 2
    have hv3 := fun W (hW : Below w.heap.size w W) => freshVpc_any vid rx rn rc rs sx sn sc ss W (hv.later hW) (by omega) (by omega) (fun i hi => by have := f3 i hi; omega) (fun i hi j hj => by have := f4 i hi j hj; omega)
    go_wp2_with fail
    refine (hv3 _ hT1.below).mono ?_
    rintro e w5 ⟨vR, vS, ts, rfl, hOR, hss, hOS, hb5⟩
    clear hv3
    have hT5 := hT1.later hb5
    have htl : Hid (ts.length = sn) := by unfold Hid; rw [← hss.1]; exact hsl.out
    have hit : i < ts.length := by rw [htl.out]; exact hFA.isn
    have hsi := hss.2 i (by rw [hss.1]; exact hit)
    obtain ⟨hfS, hfl, hfc, hfm⟩ := (hOS.own i hit).fcs
    have hjn : j < (sbAt ts i).n := by rw [← hsi.2.2.2.1]; exact hFA.jn
    have hn8 : (sbAt ts i).n ≤ 8 := by rw [← hsi.2.2.2.1]; exact f3 i hFA.isn
    obtain ⟨xr, cr, rfl, -⟩ := hOR.rs
    obtain ⟨k, hk⟩ : ∃ k, Hid ((sbAt ts i).n = k + 1) := ⟨(sbAt ts i).n - 1, by unfold Hid; omega⟩
    have hjk : j ≤ k := by have := hk.out; omega
    obtain ⟨g, cap, hg5, cur, hgh, hvS⟩ : ∃ g cap, w1.heap.size ≤ g ∧ ∃ cur, w5.heap[g]? = some (.cells cur 42) ∧ vS = .slice (some ⟨g, 0, none⟩) ts.length cap := by
      obtain ⟨x2, c2, hv2, -⟩ := hOS.row.mem
      rcases hOS.row.2 with ⟨hv', -⟩ | ⟨g, cap, cur, hv', hg1, hg2, -⟩
      · rw [hv'] at hv2; simp only [Value.slice.injEq] at hv2; omega
      · exact ⟨g, cap, hg1, cur, hg2, hv'⟩
    subst hvS
    obtain ⟨gf, cf, hgf5, curf, hgfh, hcf1, hcf2, hvF⟩ : ∃ gf cf, w1.heap.size ≤ gf ∧ ∃ curf, w5.heap[gf]? = some (.cells curf 47) ∧ k + 1 ≤ cf ∧ cf ≤ 9223372036854775807 ∧ Hid (Value.slice (sbAt ts i).x (sbAt ts i).n (sbAt ts i).c = .slice (some ⟨gf, 0, none⟩) (k + 1) cf) := by
      have hkk := hk.out
      rcases (hOS.own i hit).row.2 with ⟨hv', -⟩ | ⟨gf, cf, curf, hv', hg1, hg2, -⟩
      · simp only [Value.slice.injEq] at hv'; omega
      · have h2 := hv'
        simp only [Value.slice.injEq] at h2
        exact ⟨gf, cf, hg1, curf, hg2, by omega, by omega, by unfold Hid; rw [hv', hfl, hkk]⟩
    have hgl : g < w5.heap.size := (Array.getElem?_eq_some_iff.1 hgh).1
    have hgfl : gf < w5.heap.size := (Array.getElem?_eq_some_iff.1 hgfh).1
    clear b0 b1 b2 s0 zs0 s1 zs1 s2 zs2
    go_upto_region 5 with fail
    obtain ⟨w6, hw6⟩ : ∃ w6, w6 = w5.alloc (vpB vid (.slice xr rs.length cr) (.slice (some ⟨g, 0, none⟩) ts.length cap)) := ⟨_, rfl⟩
    rw [← hw6]
    have hb56 : Below w5.heap.size w5 w6 := by rw [hw6]; exact bl1 _ _
    have hn6 : w6.heap[w5.heap.size]? = some (vpB vid (.slice xr rs.length cr) (.slice (some ⟨g, 0, none⟩) ts.length cap)) := by rw [hw6]; exact heap_new _ rfl
    clear hw6
    have hT6 := hT5.later hb56
    have hg6 := heap_later hb56 hgh
    have hgf6 := heap_later hb56 hgfh
    have hOR6 := OwnR.later hOR hb56
    have hOS6 := OSs.later hOS hb56
    have hOF6 := (hOS6.own i hit).row
    rw [hvF.out] at hOF6
    have hx6 : Hid ((Value.slice (sbAt ts i).x (sbAt ts i).n (sbAt ts i).c).ownBlock = some gf) := by unfold Hid; rw [hvF.out]; rfl
    have n2 : w6.cell? ⟨w5.heap.size, 2, none⟩ = some (.slice (some ⟨g, 0, none⟩) ts.length cap) := (box_cells hn6).1 2
    have d3 : w6.cell? ⟨g, i * 4 + 3, none⟩ = some (.slice (some ⟨gf, 0, none⟩) (k + 1) cf) := by
      obtain ⟨x2, c2, he2, -, -, -, hm'⟩ := hOS6.row.mem
      simp only [Value.slice.injEq] at he2
      obtain ⟨b2, o2, he3, -, -, -, c8⟩ := hm' i hit
      rw [← he2.1] at he3
      simp only [Option.some.injEq, Addr.mk.injEq] at he3
      obtain ⟨rfl, rfl, -⟩ := he3
      rw [hvF.out] at c8
      simpa using c8
    have i0 : (0 : Int) ≤ i := by omega
    have i1 : (i : Int) < ts.length := by omega
    have hne1 : g ≠ gf := fun e => by rw [e] at hg6; rw [hg6] at hgf6; simp at hgf6
    have hne2 : w5.heap.size ≠ gf := by omega
    have hfl' : Hid ((sbAt ts i).fs.length = k + 1) := by unfold Hid; rw [hfl, hk.out]
    have hdel := fun W h => deleteF_any w1.heap.size gf k cf j (j + 1) (sbAt ts i).fs W h hfl'.out hjk rfl (by have := hk.out; omega) hcf1 hcf2
    rw [show ((j + 1 : Nat) : Int) = (j : Int) + 1 by omega] at hdel
    have hk8 : k ≤ 64 := by have := hk.out; omega
    have hwr : IntKind.i64.wrap ((j : Int) + 1) = (j : Int) + 1 := by rw [IntKind.wrap_i64]; omega
    have hsz1 : w.heap.size + 1 < w1.heap.size := (Array.getElem?_eq_some_iff.1 hT1.hs).1
    have hq1 : w5.heap.size ≠ g := by omega
    have hq2 : w.heap.size + 1 ≠ g := by omega
    have hq3 : w.heap.size + 1 ≠ gf := by omega
    have hq4 : w.heap.size ≤ g := by omega
    have hq5 : w.heap.size ≤ gf := by omega
    have hgk : Hid (k = ((sbAt ts i).fs.take j ++ (sbAt ts i).fs.drop (j + 1)).length) := by
      unfold Hid
      rw [List.length_append, List.length_take, List.length_drop, hfl'.out]
      omega
    have hsub : ∀ f ∈ (sbAt ts i).fs.take j ++ (sbAt ts i).fs.drop (j + 1), f ∈ (sbAt ts i).fs := fun f hf => by
      rcases List.mem_append.1 hf with hf | hf
      · exact List.mem_of_mem_take hf
      · exact List.mem_of_mem_drop hf
    have hdel' := hdel w6.drew hOF6.drew
    clear hfS hfl hfc hfm hjn hn8 hsi hdel
    go_region_with (first | (go_at_call 24; refine hdel'.mono ?_; rintro e w7 ⟨rfl, hO7, hg7'⟩; obtain ⟨hg7, hn7, hrow7, e2, d7, df, hgg7⟩ := unface_after hg7' hn6 hOS6.row hgf6 hg6 hne1 hne2 d3) | fail)
    all_goals obtain ⟨w8, hw8⟩ : ∃ w8, w8 = w7.setCell ⟨g, i * 4 + 3, none⟩ (.slice (some ⟨gf, 0, none⟩) k cf) := ⟨_, rfl⟩
    all_goals rw [← hw8]
    all_goals have hn8 : w8.heap[w5.heap.size]? = some (vpB vid (.slice xr rs.length cr) (.slice (some ⟨g, 0, none⟩) ts.length cap)) := by rw [hw8]; exact (heap_setCell_other _ _ _ _ hq1).trans hn7
    all_goals have hs8 : w8.heap[w.heap.size + 1]? = some (vpB 0 (.slice none 0 0) (.slice none 0 0)) := by rw [hw8]; exact (heap_setCell_other _ _ _ _ hq2).trans (grown_box hg7 hq3 hT6.hs)
    all_goals have hB8 : Below w.heap.size w w8 := by rw [hw8]; exact (below_grownr hT6.below hg7 (fun q e => by cases e; exact hq5)).setCell (p := ⟨g, i * 4 + 3, none⟩) hq4 _
    all_goals have hOR8 : OwnR w8 w1.heap.size (.slice xr rs.length cr) rs := by rw [hw8]; exact (hOR6.kept hg7 (fun q hq e => by subst e; exact hOR6.ne hgf6 (by decide) hq)).putBox hgg7 (by decide)
    all_goals have hrow8 : OwnS w8 w1.heap.size (.slice (some ⟨g, 0, none⟩) ts.length cap) (ts.set i (withF (sbAt ts i) (some ⟨gf, 0, none⟩) k cf ((sbAt ts i).fs.take j ++ (sbAt ts i).fs.drop (j + 1)))) := by rw [hw8]; exact hrow7.set i hit _ _ _ _
    all_goals have hfa8 : OFa w8 w1.heap.size (ts.set i (withF (sbAt ts i) (some ⟨gf, 0, none⟩) k cf ((sbAt ts i).fs.take j ++ (sbAt ts i).fs.drop (j + 1)))) := by rw [hw8]; exact (hOS6.cut hit hg7 hgf6 hx6.out hO7 hsub).keptOf (set_grown _ _ _ _) hgg7 (by decide) (by decide)
    all_goals clear hw8 e2 d7 df
    all_goals have m0 : w8.cell? ⟨w5.heap.size, 0, none⟩ = some (.int .i64 vid) := (box_cells hn8).1 0
    all_goals have m1 : w8.cell? ⟨w5.heap.size, 1, none⟩ = some (.slice xr rs.length cr) := (box_cells hn8).1 1
    all_goals have m2 : w8.cell? ⟨w5.heap.size, 2, none⟩ = some (.slice (some ⟨g, 0, none⟩) ts.length cap) := (box_cells hn8).1 2
    all_goals have s0 : w8.cell? ⟨w.heap.size + 1, 0, none⟩ = some (.int .i64 0) := (box_cells hs8).1 0
    all_goals have s1 : w8.cell? ⟨w.heap.size + 1, 1, none⟩ = some (.slice none 0 0) := (box_cells hs8).1 1
    all_goals have s2 : w8.cell? ⟨w.heap.size + 1, 2, none⟩ = some (.slice none 0 0) := (box_cells hs8).1 2
    all_goals have zs0 : w8.frozen? ⟨w.heap.size + 1, 0, none⟩ = false := (box_cells hs8).2 0
    all_goals have zs1 : w8.frozen? ⟨w.heap.size + 1, 1, none⟩ = false := (box_cells hs8).2 1
    all_goals have zs2 : w8.frozen? ⟨w.heap.size + 1, 2, none⟩ = false := (box_cells hs8).2 2
    all_goals go_wp2
    all_goals refine bodyPost_ret (v := .tuple #[.agg #[.int .i64 vid, .slice xr rs.length cr, .slice (some ⟨g, 0, none⟩) ts.length cap], .int .i64 0]) (by simp [results, Try.results8, go_sem, s0, s1, s2]) rfl ?_
    all_goals exact VPost.ok rfl (((hB8.setCell (p := ⟨w.heap.size + 1, 0, none⟩) (Nat.le_add_right _ _) _).setCell (p := ⟨w.heap.size + 1, 1, none⟩) (Nat.le_add_right _ _) _).setCell (p := ⟨w.heap.size + 1, 2, none⟩) (Nat.le_add_right _ _) _) ⟨ts, i, j, _, k, _, hFA, hss, hgk.out, NV.mk (((hOR8.put hsz1).put hsz1).put hsz1) (((hrow8.put hsz1).put hsz1).put hsz1) (((hfa8.put hsz1).put hsz1).put hsz1).fcb⟩
  · go_wp2_with fail
    refine hpl.mono ?_
    rintro e w1 ⟨i, j, rfl, hb1, hzz, -⟩
    obtain ⟨rfl, rfl⟩ := hzz hE
    have hT1 := hT0.later hb1
    clear b0 b1 b2 s0 zs0 s1 zs1 s2 zs2
    have b0 : w1.cell? ⟨w.heap.size, 0, none⟩ = some (.int .i64 vid) := (box_cells hT1.hb).1 0
    have b1 : w1.cell? ⟨w.heap.size, 1, none⟩ = some (.slice rx rn rc) := (box_cells hT1.hb).1 1
    have b2 : w1.cell? ⟨w.heap.size, 2, none⟩ = some (.slice sx sn sc) := (box_cells hT1.hb).1 2
    have s0 : w1.cell? ⟨w.heap.size + 1, 0, none⟩ = some (.int .i64 0) := (box_cells hT1.hs).1 0
    have zs0 : w1.frozen? ⟨w.heap.size + 1, 0, none⟩ = false := (box_cells hT1.hs).2 0
    have s1 : w1.cell? ⟨w.heap.size + 1, 1, none⟩ = some (.slice none 0 0) := (box_cells hT1.hs).1 1
    have zs1 : w1.frozen? ⟨w.heap.size + 1, 1, none⟩ = false := (box_cells hT1.hs).2 1
    have s2 : w1.cell? ⟨w.heap.size + 1, 2, none⟩ = some (.slice none 0 0) := (box_cells hT1.hs).1 2
    have zs2 : w1.frozen? ⟨w.heap.size + 1, 2, none⟩ = false := (box_cells hT1.hs).2 2
    go_wp2
    refine bodyPost_ret (v := .tuple #[.agg #[.int .i64 0, .slice none 0 0, .slice none 0 0], .int .i64 E]) (by simp [results, Try.results8, go_sem, s0, s1, s2]) rfl ?_
    exact VPost.err ⟨rfl, hE⟩ (((hT1.below.setCell (p := ⟨w.heap.size + 1, 0, none⟩) (Nat.le_add_right _ _) _).setCell (p := ⟨w.heap.size + 1, 1, none⟩) (Nat.le_add_right _ _) _).setCell (p := ⟨w.heap.size + 1, 2, none⟩) (Nat.le_add_right _ _) _)
end Go.Proofs.Ytpdhipjeobchfaa
/- Group of package net. -/
namespace Go.Proofs.Ytpdhipjeobchfaa
open Go.RowKit Go.Shelf Go.Maps

/-- The Ids of those that are of one group with id. -/
def grpL (ls : List (Int × Int)) (vs : List Vn) (id : Int) : List Int := (idsOf vs).filter fun y => hdOf ls y == hdOf ls id
/-- What Group tells. -/
def grpE (n : Nat) (vs : List Vn) (ln : Nat) (ls : List (Int × Int)) (id : Int) : Int := if chkN n vs ln ls = 0 then (if vplace n vs id < 0 then 5 else 0) else chkN n vs ln ls
theorem ids_take {vs : List Vn} {k : Nat} (h : k < vs.length) : idsOf (vs.take (k + 1)) = idsOf (vs.take k) ++ [(vnAt vs k).id] := by
  unfold idsOf
  rw [List.take_add_one, List.getElem?_eq_getElem h, vnAt_get h, Option.toList_some, List.map_append]
  rfl
theorem own_ne_map {w : World} {base : Nat} {v : Value} {es : List Int} (h : OwnI w base v es) {P : Program} {k : TypeId} {R : Value → Option (DataW Unit × List MemPlace)} {b n : Nat} {D : DataW Unit} (hO : w.ownsMap P k R b n D) : some b ≠ v.ownBlock := by
  obtain ⟨em, clock, h0, -⟩ := hO
  rcases h.2 with ⟨rfl, -⟩ | ⟨g, cap, cur, rfl, -, h2, -⟩
  · simp [Value.ownBlock]
  · intro e
    simp only [Value.ownBlock, Option.some.injEq] at e
    rw [← e, h0] at h2
    cases h2

def GrpPost (n : Nat) (vs : List Vn) (ln : Nat) (ls : List (Int × Int)) (id : Int) (w : World) (e : Ending) (w' : World) : Prop := ∃ v, e = .returned (.tuple #[v, .int .i64 (grpE n vs ln ls id)]) ∧ OwnI w' w.heap.size v (if grpE n vs ln ls id = 0 then grpL ls vs id else []) ∧ Below w.heap.size w w'
end Go.Proofs.Ytpdhipjeobchfaa
/- vpcMany, inRange and inner of package parcelwayref. -/
namespace Go.Proofs.Ytpdhipjeobchfaa
open Go.RowKit Go.Shelf

abbrev vpO (vid : Int) (rx : Option Addr) (rn rc : Nat) (sx : Option Addr) (sn sc : Nat) : Obj := .cells #[.int .i64 vid, .slice rx rn rc, .slice sx sn sc] 25
theorem vmany_sub {rn sn : Nat} {ss : List Sb} {k : Nat} (hk : k < sn) (h : smanyB (sbAt ss k) = true) : vmanyB rn sn ss = true := by
  unfold vmanyB
  rw [any_yes (f := fun i => smanyB (sbAt ss i)) hk h]
  simp
theorem us_inner {a l y : Int} (hr : rt a l = true) : usB a l y = (hld a l y && (y != a) && (y != a + sp l - 1)) := by
  unfold usB hld
  rw [hr]
  generalize sp l = s
  rw [Bool.eq_iff_iff]
  simp only [Bool.and_eq_true, decide_eq_true_eq, bne_iff_ne, Bool.true_and, ne_eq]
  omega
end Go.Proofs.Ytpdhipjeobchfaa
/- facesFine of package parcelwayref. -/
namespace Go.Proofs.Ytpdhipjeobchfaa
open Go.RowKit Go.Shelf

/-- The i-th address of a face, those of the faces ahead being al. -/
def faAt (a l : Int) (al : List Int) (ns : List Int) (i : Nat) : Bool := usB a l (inAt ns i) && (i == 0 || decide (inAt ns (i - 1) < inAt ns i)) && !anyAt al.length (fun j => inAt al j == inAt ns i)
/-- The k-th face. -/
def ffHd (fs : List Fc) (k : Nat) : Bool := wth (fcAt fs k).id 1 65536 && (k == 0 || decide ((fcAt fs (k - 1)).id < (fcAt fs k).id)) && decide (0 < (fcAt fs k).n)
def ffAt (a l : Int) (fs : List Fc) (k : Nat) : Bool := ffHd fs k && (List.range (fcAt fs k).n).all (faAt a l (allNs (fs.take k)) (fcAt fs k).ns)
def ffB (a l : Int) (n : Nat) (fs : List Fc) : Bool := (List.range n).all (ffAt a l fs)
theorem ff_no {a l : Int} {n k : Nat} {fs : List Fc} (hk : k < n) (h : ffAt a l fs k = false) : ffB a l n fs = false := allR_no hk h
theorem ff_hd {a l : Int} {n k : Nat} {fs : List Fc} (hk : k < n) (h : ffHd fs k = false) : ffB a l n fs = false := ff_no hk (by unfold ffAt; rw [h]; rfl)
theorem ff_fa {a l : Int} {n k q : Nat} {fs : List Fc} (hk : k < n) (hq : q < (fcAt fs k).n) (h : faAt a l (allNs (fs.take k)) (fcAt fs k).ns q = false) : ffB a l n fs = false := ff_no hk (by unfold ffAt; rw [allR_no hq h]; simp)

end Go.Proofs.Ytpdhipjeobchfaa
/- What the reference asks of a network is what the program asks: mathematics. -/
namespace Go.Proofs.Ytpdhipjeobchfaa
open Go.RowKit Go.Shelf

theorem allR_iff {n : Nat} {f : Nat → Bool} : (List.range n).all f = true ↔ ∀ i, i < n → f i = true := by
  rw [List.all_eq_true]
  exact ⟨fun h i hi => h i (by simpa using hi), fun h i hi => h i (by simpa using hi)⟩
theorem anyAt_no {n : Nat} {f : Nat → Bool} : anyAt n f = false ↔ ∀ i, i < n → f i = false := by
  constructor
  · intro h i hi
    cases e : f i
    · rfl
    · rw [any_yes hi e] at h; cases h
  · exact any_no
theorem riseI_lt {ns : List Int} (h : riseIB ns = true) : ∀ (i j : Nat), i < j → j < ns.length → inAt ns i < inAt ns j
  | i, 0, hij, _ => by omega
  | i, j + 1, hij, hj => by
    have h1 : riseIAt ns (j + 1) = true := by
      unfold riseIB at h
      exact allR_iff.1 h (j + 1) hj
    unfold riseIAt at h1
    simp only [Nat.add_sub_cancel, Bool.or_eq_true, decide_eq_true_eq, beq_iff_eq] at h1
    have h2 : inAt ns j < inAt ns (j + 1) := by
      rcases h1 with h1 | h1
      · omega
      · exact h1
    by_cases e : i < j
    · have := riseI_lt h i j e (by omega)
      omega
    · obtain rfl : i = j := by omega
      exact h2
theorem rise_nodup {ns : List Int} (h : riseIB ns = true) : ns.Nodup := by
  unfold List.Nodup
  rw [List.pairwise_iff_getElem]
  intro i j hi hj hij e
  have := riseI_lt h i j hij hj
  rw [inAt_get hi, inAt_get hj] at this
  omega
theorem nodup_take {fs : List Fc} : ∀ k, k ≤ fs.length → ((allNs (fs.take k)).Nodup ↔ ∀ j, j < k → (fcAt fs j).ns.Nodup ∧ ∀ y ∈ (fcAt fs j).ns, y ∉ allNs (fs.take j))
  | 0, _ => by simp [allNs]
  | k + 1, hk => by
    rw [allNs_take (by omega), List.nodup_append, nodup_take k (by omega)]
    constructor
    · rintro ⟨h1, h2, h3⟩ j hj
      by_cases e : j < k
      · exact h1 j e
      · obtain rfl : j = k := by omega
        exact ⟨h2, fun y hy hm => h3 y hm y hy rfl⟩
    · intro h
      refine ⟨fun j hj => h j (by omega), (h k (by omega)).1, fun y hy z hz e => ?_⟩
      subst e
      exact (h k (by omega)).2 y hz hy
theorem not_mem_at {al : List Int} {y : Int} : anyAt al.length (fun j => inAt al j == y) = false ↔ y ∉ al := by
  rw [anyAt_no]
  constructor
  · intro h hm
    obtain ⟨j, hj, e⟩ := List.getElem_of_mem hm
    have := h j hj
    rw [inAt_get hj, e] at this
    simp at this
  · intro h j hj
    rw [inAt_get hj]
    cases e : (al[j] == y)
    · rfl
    · rw [beq_iff_eq] at e
      exact absurd (e ▸ List.getElem_mem hj) h
theorem mem_at {ns : List Int} {y : Int} : y ∈ ns ↔ ∃ i, i < ns.length ∧ inAt ns i = y := by
  constructor
  · intro h
    obtain ⟨i, hi, e⟩ := List.getElem_of_mem h
    exact ⟨i, hi, by rw [inAt_get hi]; exact e⟩
  · rintro ⟨i, hi, e⟩
    rw [inAt_get hi] at e
    exact e ▸ List.getElem_mem hi
theorem ff_eq {a l : Int} {n : Nat} {fs : List Fc} (hl : fs.length = n) (hns : ∀ k, k < n → (fcAt fs k).ns.length = (fcAt fs k).n) : ffB a l n fs = fcsB a l n fs := by
  rw [Bool.eq_iff_iff]
  have hd : (!dupB (allNs fs)) = true ↔ (allNs fs).Nodup := by unfold dupB; simp
  have hnd := nodup_take (fs := fs) n (by omega)
  rw [show fs.take n = fs by rw [← hl, List.take_length]] at hnd
  unfold fcsB
  rw [Bool.and_eq_true, Bool.and_eq_true, hd, hnd, allR_iff]
  unfold ffB riseFB
  rw [allR_iff, allR_iff, hl]
  constructor
  · intro h
    have hp : ∀ k, k < n → (wth (fcAt fs k).id 1 65536 = true ∧ (k = 0 ∨ (fcAt fs (k - 1)).id < (fcAt fs k).id) ∧ 0 < (fcAt fs k).n) ∧ ∀ i, i < (fcAt fs k).n → usB a l (inAt (fcAt fs k).ns i) = true ∧ (i = 0 ∨ inAt (fcAt fs k).ns (i - 1) < inAt (fcAt fs k).ns i) ∧ inAt (fcAt fs k).ns i ∉ allNs (fs.take k) := fun k hk => by
      have h1 := h k hk
      unfold ffAt ffHd at h1
      simp only [Bool.and_eq_true, Bool.or_eq_true, decide_eq_true_eq, beq_iff_eq, allR_iff] at h1
      refine ⟨⟨h1.1.1.1, h1.1.1.2, h1.1.2⟩, fun i hi => ?_⟩
      have h2 := h1.2 i hi
      unfold faAt at h2
      simp only [Bool.and_eq_true, Bool.or_eq_true, decide_eq_true_eq, beq_iff_eq, Bool.not_eq_true'] at h2
      exact ⟨h2.1.1, h2.1.2, not_mem_at.1 h2.2⟩
    have hr : ∀ k, k < n → riseIB (fcAt fs k).ns = true := fun k hk => by
      unfold riseIB
      rw [allR_iff, hns k hk]
      intro i hi
      unfold riseIAt
      simp only [Bool.or_eq_true, decide_eq_true_eq, beq_iff_eq]
      exact ((hp k hk).2 i hi).2.1
    refine ⟨⟨fun k hk => ?_, fun k hk => ?_⟩, fun k hk => ⟨rise_nodup (hr k hk), fun y hy => ?_⟩⟩
    · obtain ⟨⟨h1, -, h3⟩, h4⟩ := hp k hk
      unfold fcsAt adB
      simp only [Bool.and_eq_true, decide_eq_true_eq, Bool.not_eq_true']
      exact ⟨⟨h1, h3⟩, hr k hk, anyAt_no.2 fun i hi => by rw [(h4 i hi).1]; rfl⟩
    · unfold riseFAt
      simp only [Bool.or_eq_true, decide_eq_true_eq, beq_iff_eq]
      exact (hp k hk).1.2.1
    · obtain ⟨i, hi, rfl⟩ := mem_at.1 hy
      exact ((hp k hk).2 i (by rw [← hns k hk]; exact hi)).2.2
  · rintro ⟨⟨h1, h2⟩, h3⟩ k hk
    have hc := h1 k hk
    unfold fcsAt adB at hc
    simp only [Bool.and_eq_true, decide_eq_true_eq, Bool.not_eq_true'] at hc
    obtain ⟨⟨c1, c2⟩, c3, c4⟩ := hc
    have hf := h2 k hk
    unfold riseFAt at hf
    have hr := c3
    unfold riseIB at hr
    rw [allR_iff, hns k hk] at hr
    unfold ffAt ffHd
    simp only [Bool.and_eq_true, decide_eq_true_eq, allR_iff]
    refine ⟨⟨⟨c1, hf⟩, c2⟩, fun i hi => ?_⟩
    have hi2 := hr i hi
    unfold riseIAt at hi2
    unfold faAt
    simp only [Bool.and_eq_true, Bool.not_eq_true']
    refine ⟨⟨?_, hi2⟩, not_mem_at.2 ((h3 k hk).2 _ (mem_at.2 ⟨i, by rw [hns k hk]; exact hi, rfl⟩))⟩
    have := anyAt_no.1 c4 i hi
    simpa using this

/-- The i-th range, as the reference asks. -/
def rfAt (rs : List Rg) (i : Nat) : Bool := wth (rgAt rs i).p 1 65536 && rt (rgAt rs i).a (rgAt rs i).l && (i == 0 || (decide ((rgAt rs (i - 1)).a < (rgAt rs i).a) && !mts (rgAt rs (i - 1)).a (rgAt rs (i - 1)).l (rgAt rs i).a (rgAt rs i).l))
def rfB (n : Nat) (rs : List Rg) : Bool := (List.range n).all (rfAt rs)
theorem rf_eq {n : Nat} {rs : List Rg} (hl : rs.length = n) : rfB n rs = rgsB n rs := by
  rw [Bool.eq_iff_iff]
  unfold rfB rgsB riseRB
  rw [Bool.and_eq_true, allR_iff, allR_iff, allR_iff, hl]
  constructor
  · intro h
    have hp : ∀ i, i < n → wth (rgAt rs i).p 1 65536 = true ∧ rt (rgAt rs i).a (rgAt rs i).l = true ∧ (i = 0 ∨ ((rgAt rs (i - 1)).a < (rgAt rs i).a ∧ mts (rgAt rs (i - 1)).a (rgAt rs (i - 1)).l (rgAt rs i).a (rgAt rs i).l = false)) := fun i hi => by
      have h1 := h i hi
      unfold rfAt at h1
      simp only [Bool.and_eq_true, Bool.or_eq_true, decide_eq_true_eq, beq_iff_eq, Bool.not_eq_true'] at h1
      exact ⟨h1.1.1, h1.1.2, h1.2⟩
    have hs : ∀ i, i < n → 1 ≤ sp (rgAt rs i).l := fun i hi => by
      obtain ⟨h0, h1, -⟩ := rt_range (hp i hi).2.1
      exact (sp_range h0 h1).1
    have hgap : ∀ i j, j < i → i < n → (rgAt rs j).a + sp (rgAt rs j).l ≤ (rgAt rs i).a := fun i => by
      induction i with
      | zero => intro j hj; omega
      | succ i ih =>
        intro j hj hi
        have h1 : (rgAt rs i).a + sp (rgAt rs i).l ≤ (rgAt rs (i + 1)).a := by
          obtain ⟨-, hr2, h3⟩ := hp (i + 1) hi
          obtain ⟨-, hr1, -⟩ := hp i (by omega)
          rw [Nat.add_sub_cancel] at h3
          rcases h3 with h3 | ⟨h3, h4⟩
          · omega
          · by_cases e : (rgAt rs (i + 1)).a < (rgAt rs i).a + sp (rgAt rs i).l
            · have hs2 := hs (i + 1) hi
              rw [mts_of hr1 hr2 (by omega) e] at h4
              cases h4
            · omega
        by_cases e : j < i
        · have h2 := ih j e (by omega)
          have := hs i (by omega)
          omega
        · obtain rfl : j = i := by omega
          exact h1
    refine ⟨fun i hi => ?_, fun i hi => ?_⟩
    · unfold rgsAt rgB
      rw [(hp i hi).1, (hp i hi).2.1, anyAt_no.2 fun j hj => ?_]
      · rfl
      · unfold rmB
        cases e : mts (rgAt rs j).a (rgAt rs j).l (rgAt rs i).a (rgAt rs i).l
        · rfl
        · have h1 := mts_nums e
          have h2 := hgap i j hj hi
          omega
    · unfold riseRAt
      simp only [Bool.or_eq_true, decide_eq_true_eq, beq_iff_eq]
      rcases (hp i hi).2.2 with h1 | h1
      · exact .inl h1
      · exact .inr h1.1
  · rintro ⟨h1, h2⟩ i hi
    have hc := h1 i hi
    unfold rgsAt rgB at hc
    simp only [Bool.and_eq_true, Bool.not_eq_true'] at hc
    have hr := h2 i hi
    unfold riseRAt at hr
    simp only [Bool.or_eq_true, decide_eq_true_eq, beq_iff_eq] at hr
    unfold rfAt
    simp only [Bool.and_eq_true, Bool.or_eq_true, decide_eq_true_eq, beq_iff_eq, Bool.not_eq_true']
    refine ⟨⟨hc.1.2, hc.1.1⟩, ?_⟩
    rcases hr with hr | hr
    · exact .inl hr
    · by_cases e : i = 0
      · exact .inl e
      · exact .inr ⟨hr, anyAt_no.1 hc.2 (i - 1) (by omega)⟩
/-- The i-th subnet, as the reference asks. -/
def sfHd (rn : Nat) (rs : List Rg) (ss : List Sb) (i : Nat) : Bool := wth (sbAt ss i).id 1 65536 && anyAt rn (riB rs (sbAt ss i).a (sbAt ss i).l) && (i == 0 || decide ((sbAt ss (i - 1)).id < (sbAt ss i).id)) && ffB (sbAt ss i).a (sbAt ss i).l (sbAt ss i).n (sbAt ss i).fs
def sfAt (rn : Nat) (rs : List Rg) (ss : List Sb) (i : Nat) : Bool := sfHd rn rs ss i && !anyAt i (smB ss (sbAt ss i).a (sbAt ss i).l)
def sfB (rn : Nat) (rs : List Rg) (n : Nat) (ss : List Sb) : Bool := (List.range n).all (sfAt rn rs ss)
theorem sf_eq {rn : Nat} {rs : List Rg} {n : Nat} {ss : List Sb} (hl : ss.length = n) (hf : ∀ i, i < n → (sbAt ss i).fs.length = (sbAt ss i).n ∧ ∀ k, k < (sbAt ss i).n → (fcAt (sbAt ss i).fs k).ns.length = (fcAt (sbAt ss i).fs k).n) : sfB rn rs n ss = sbsB rn rs n ss := by
  rw [Bool.eq_iff_iff]
  unfold sfB sbsB riseSB
  rw [Bool.and_eq_true, allR_iff, allR_iff, allR_iff, hl]
  have he : ∀ i, i < n → (sfAt rn rs ss i = true ↔ sbsAt rn rs ss i = true ∧ riseSAt ss i = true) := fun i hi => by
    unfold sfAt sfHd sbsAt riseSAt subB
    rw [ff_eq (hf i hi).1 (hf i hi).2]
    simp only [Bool.and_eq_true]
    constructor
    · rintro ⟨⟨⟨⟨h1, h2⟩, h3⟩, h4⟩, h5⟩
      exact ⟨⟨⟨⟨h1, h2⟩, h5⟩, h4⟩, h3⟩
    · rintro ⟨⟨⟨⟨h1, h2⟩, h5⟩, h4⟩, h3⟩
      exact ⟨⟨⟨⟨h1, h2⟩, h3⟩, h4⟩, h5⟩
  constructor
  · intro h
    exact ⟨fun i hi => ((he i hi).1 (h i hi)).1, fun i hi => ((he i hi).1 (h i hi)).2⟩
  · rintro ⟨h1, h2⟩ i hi
    exact (he i hi).2 ⟨h1 i hi, h2 i hi⟩
end Go.Proofs.Ytpdhipjeobchfaa
/- CheckVpc of package parcelwayref. -/
namespace Go.Proofs.Ytpdhipjeobchfaa
open Go.RowKit Go.Shelf
theorem any_rt {rn : Nat} {rs : List Rg} {a l : Int} (h : anyAt rn (riB rs a l) = true) : rt a l = true := by
  obtain ⟨i, -, hi⟩ := anyAt_ex h
  unfold riB ins at hi
  simp only [Bool.and_eq_true] at hi
  exact hi.1.1.1
def CkPost (t : Int) (w : World) (e : Ending) (w' : World) : Prop := e = .returned (.int .i64 t) ∧ Below w.heap.size w w'
/-- What the reference tells. -/
def rchkV (vid : Int) (rn : Nat) (rs : List Rg) (sn : Nat) (ss : List Sb) : Int := if vmanyB rn sn ss then 2 else if wth vid 1 65536 && rfB rn rs && sfB rn rs sn ss then 0 else 1

end Go.Proofs.Ytpdhipjeobchfaa
/- CheckVpc of the reference answers as Check of package vpc. -/
namespace Go.Proofs.Ytpdhipjeobchfaa
open Go.RowKit Go.Shelf

theorem rchk_eq {w : World} {vid : Int} {rx : Option Addr} {rn rc : Nat} {rs : List Rg} {sx : Option Addr} {sn sc : Nat} {ss : List Sb} (hv : Vp w rx rn rc rs sx sn sc ss) : rchkV vid rn rs sn ss = chkV vid rn rs sn ss := by
  unfold rchkV chkV
  rw [rf_eq hv.ranges.len, sf_eq hv.subs.len (fun i hi => ⟨(hv.subs.faces i hi).2.2.len, fun k hk => ((hv.subs.faces i hi).2.2.addrs k hk).2.2.len⟩)]
end Go.Proofs.Ytpdhipjeobchfaa
/- Grow, Concat and Put at numbers. -/
namespace Go.Proofs.Ytpdhipjeobchfaa
open Go.RowKit Go.Shelf

/-- These lie one behind the other from there on. -/
def RunI (w : World) (x : Option Addr) (n : Nat) (es : List Int) : Prop := es.length = n ∧ (0 < n → x ≠ none) ∧ ∀ ad, x = some ad → ∀ j u, (flatI es)[j]? = some u → w.cell? (ad.add j) = some u
theorem RunI.later {w w' : World} {x : Option Addr} {n : Nat} {es : List Int} (h : RunI w x n es) (hb : Below w.heap.size w w') : RunI w' x n es :=
  ⟨h.1, h.2.1, fun ad hx j u hj => cell_later_add hb (h.2.2 ad hx j u hj)⟩
theorem RunI.empty (w : World) (x : Option Addr) : RunI w x 0 [] := ⟨rfl, fun h => by omega, fun _ _ j u hj => by simp [flatI] at hj⟩
theorem IS.run {w : World} {x : Option Addr} {n : Nat} {es : List Int} (h : IS w x n es) : RunI w x n es :=
  ⟨h.len, (fun h0 e => by obtain ⟨b, o, hx, -⟩ := h.cells 0 h0; rw [e] at hx; cases hx), fun ad hx => by subst hx; exact h.flat_cells⟩
theorem RunI.take {w : World} {x : Option Addr} {n i : Nat} {es : List Int} (h : RunI w x n es) (hi : i ≤ n) : RunI w x i (es.take i) := by
  refine ⟨by rw [List.length_take, h.1]; omega, fun h0 => h.2.1 (by omega), fun ad hx j u hj => h.2.2 ad hx j u ?_⟩
  conv => lhs; rw [← List.take_append_drop i es]
  rw [flatI_app, List.getElem?_append_left (List.getElem?_eq_some_iff.1 hj).1]
  exact hj
theorem RunI.drop {w : World} {b o n i c : Nat} {es : List Int} (h : RunI w (some ⟨b, o, none⟩) n es) (hi : i ≤ n) (hnc : n ≤ c) : RunI w (if c = i then some ⟨b, o, none⟩ else some ⟨b, o + i, none⟩) (n - i) (es.drop i) := by
  refine ⟨by rw [List.length_drop, h.1], fun _ => by split <;> simp, fun ad hx j u hj => ?_⟩
  have hlt : i < n := by
    by_cases e : i < n
    · exact e
    · rw [List.drop_eq_nil_of_le (by rw [h.1]; omega)] at hj
      simp [flatI] at hj
  rw [if_neg (by omega)] at hx
  cases hx
  have h2 := h.2.2 _ rfl (i + j) u (by
    conv => lhs; rw [← List.take_append_drop i es]
    have hm : (flatI (es.take i)).length = i := by rw [flatI_len, List.length_take, h.1, show min i n = i by omega]
    rw [flatI_app, List.getElem?_append_right (by rw [hm]; omega), hm, show i + j - i = j by omega]
    exact hj)
  rw [addr_add] at h2 ⊢
  rw [show o + i + j = o + (i + j) by omega]
  exact h2

set_option maxRecDepth 20000 in
set_option maxHeartbeats 800000 in
theorem growI_nil (n : Nat) (w : World) (h0 : 0 < n) (hn : n ≤ 1000) :
    Calls Try.prog 85 #[.slice none 0 0, .int .i64 n] w fun e w' => ∃ v, e = .returned v ∧ Below w.heap.size w w' ∧ OwnI w' w.heap.size v [] := by
  obtain ⟨i0, hi, hz0, hz1, hz2⟩ := info_I'
  have hold : (Builtin.firstCells i0.size 0 (.slice none 0 0)).run Try.prog w.drew = .ok ([] : List Value).toArray w.drew := run_firstCells_none w.drew i0.size 0 0 0
  have hrz : ∀ ty, (Builtin.append_ #[45, 3] ty #[.slice none 0 0, .int .i64 (n : Int)]).run Try.prog w = _ := fun ty =>
    Lib.run_append_grow_zeros w 45 3 ty 3 i0 _ .i64 .i64 under_I under_int hi hz0 none 0 0 [] hold n (by omega) (by omega) (by omega) (by omega) (by rw [hz2]; omega) (by rw [hz2]; exact growslice_fits (by omega) (by omega))
  have hG := grownCap_le_maxLen w (0 + n) 0 3 (by unfold maxLen; omega)
  have hGn := grownCap_ge w (0 + n) 0 3
  generalize grownCap w (0 + n) 0 3 = G at hrz hG hGn
  have h1 : ¬ ((n : Int) < 0) := by omega
  have h4 : (n : Int) > 0 := by omega
  have hG63 : G ≤ 9223372036854775807 := by unfold maxLen at hG; omega
  go_enter Try.func85, Try.ntmps85
  go_wp2_with (at_builtin; refine Lib.wpList_append_run _ rfl _ _ _ _ rfl _ _ rfl rfl _ _ (hrz _) ?_)
  go_ret
  refine ⟨_, rfl, (bl1 w _).drew, (World.ownsRow_made w _ G (Nat.le_refl _) hG ?_).drew⟩
  simp only [Array.size_append, size_zeroCells, List.size_toArray, List.length_cons, List.length_nil]
  omega
theorem growI_zero (w : World) :
    Calls Try.prog 85 #[.slice none 0 0, .int .i64 0] w fun e w' => e = .returned (.slice none 0 0) ∧ w' = w := by
  go_enter Try.func85, Try.ntmps85
  go_wp2
  go_ret
  exact ⟨rfl, rfl⟩
theorem growI_any (n : Nat) (w : World) (hn : n ≤ 1000) :
    Calls Try.prog 85 #[.slice none 0 0, .int .i64 n] w fun e w' => ∃ v, e = .returned v ∧ Below w.heap.size w w' ∧ OwnI w' w.heap.size v [] := by
  by_cases h : n = 0
  · subst h
    exact (growI_zero w).mono fun _ _ ⟨he, hw⟩ => ⟨_, he, by rw [hw]; exact Below.refl _ _, World.ownsRow_nil _ _ _ _⟩
  · exact growI_nil n w (by omega) hn
def catITo (ql : Nat → List Int) : Nat → List Int
  | 0 => []
  | j + 1 => catITo ql j ++ ql j

set_option maxRecDepth 20000 in
set_option maxHeartbeats 1600000 in
theorem concatI_any (B k k' : Nat) (xl : Nat → Option Addr) (nl cl : Nat → Nat) (ql : Nat → List Int) (w : World) (hk : k ≤ 3)
    (hc : ∀ j, j < k → w.cell? ⟨B, j, none⟩ = some (.slice (xl j) (nl j) (cl j))) (hp : ∀ j, j < k → RunI w (xl j) (nl j) (ql j)) (hn : ∀ j, j < k → nl j ≤ 64) (h0 : ∀ j, j < k → xl j = none → nl j = 0 ∧ cl j = 0) :
    Calls Try.prog 56 #[.slice (some ⟨B, 0, none⟩) k k'] w fun e w' => ∃ v, e = .returned v ∧ Below w.heap.size w w' ∧ OwnI w' w.heap.size v (catITo ql k) := by
  obtain ⟨i0, hi, hz0, hz1, hz2⟩ := info_I'
  have hlen : ∀ j, j ≤ k → (catITo ql j).length ≤ 64 * j := by
    intro j
    induction j with
    | zero => intro _; simp [catITo]
    | succ j ih =>
      intro hj
      have h1 := ih (by omega)
      have h2 := (hp j (by omega)).1
      have h3 := hn j (by omega)
      simp only [catITo, List.length_append]
      omega
  go_enter Try.func56, Try.ntmps56
  go_wp2
  go_loopw [11, 3] (fun i t wr => ∃ j : Nat, j ≤ k ∧ i = .int .i64 j ∧ t = .int .i64 ((catITo ql j).length : Nat) ∧ wr = w) (fun i _ _ => k - (intOf i).toNat)
  case atStart => exact ⟨0, by omega, rfl, rfl, rfl⟩
  case round =>
    obtain ⟨j, hj, rfl, rfl, hw⟩ := hrel
    have hw' := hw.symm
    subst hw'
    clear hw
    have hl := hlen j hj
    by_cases hlt : j < k
    · have hcj := hc j hlt
      have hl2 := hlen (j + 1) hlt
      have hpl := (hp j hlt).1
      have hnj := hn j hlt
      have hlt' := hlt
      have hcat : (catITo ql (j + 1)).length = (catITo ql j).length + nl j := by simp only [catITo, List.length_append, hpl]
      have hneg : ¬ (((catITo ql j).length : Int) + (nl j : Int) < 0) := by omega
      go_wp2
      go_roundw
      case rel => exact ⟨j + 1, hlt', by go_num, by rw [hcat]; go_num, trivial⟩
      case measure => simp [intOf]; omega
    · obtain rfl : j = k := by omega
      go_wp2_with fail
      refine (growI_any _ w (by omega)).mono ?_
      rintro e w1 ⟨v0, rfl, hb1, hown1⟩
      go_wp2
      go_loopw [27, 6] (fun i v wq => ∃ q : Nat, q ≤ j ∧ i = .int .i64 q ∧ Below w.heap.size w wq ∧ OwnI wq w.heap.size v (catITo ql q)) (fun i _ _ => j - (intOf i).toNat)
      case atStart => exact ⟨0, by omega, rfl, hb1, hown1⟩
      case round =>
        obtain ⟨q, hq, rfl, hB, hown⟩ := hrel
        by_cases hlt2 : q < j
        · have hcq := cell_later hB (hc q hlt2)
          have hpq := (hp q hlt2).later hB
          have hlq := hlen q hq
          have hnq := hn q hlt2
          have hlt3 := hlt2
          have hsz := hB.size
          cases hxq : xl q with
          | none =>
            obtain ⟨hn0, hc0⟩ := h0 q hlt2 hxq
            rw [hxq, hn0, hc0] at hcq
            have hq0 : ql q = [] := List.eq_nil_of_length_eq_zero (by rw [hpq.1]; exact hn0)
            go_wp2_with (at_builtin; refine wpList_append_own_none rfl _ _ 45 rfl w.heap.size 3 i0 1 under_I hi _ _ _ rfl hown rfl ?_)
            go_roundw
            case rel => exact ⟨q + 1, hlt3, by go_num, hB, by simp only [catITo, hq0, List.append_nil]; exact hown⟩
            case measure => simp [intOf]; omega
          | some ad =>
            rw [hxq] at hcq hpq
            go_wp2_with (at_builtin; refine Hid.out ?_)
            unfold Hid
            refine wpList_append_I rfl _ _ rfl w.heap.size _ _ rfl hown ad (nl q) (cl q) (ql q) rfl hpq.1 (hpq.2.2 ad rfl) (by omega) (by omega) ?_
            intro v' w2 hown2 hgrow'
            have hgrow : wr.grownBy w2 u6.ownBlock := hgrow'
            clear hgrow'
            have hB2 : Below w.heap.size w w2 := ⟨hgrow.os.trans hB.os, hgrow.tape.trans hB.tape, hgrow.output.trans hB.output, Nat.le_trans hsz hgrow.size, fun k hk => (hgrow.block k (by omega) (fun e => by have := (hown.lt _ e.symm).1; omega)).trans (hB.block k hk)⟩
            have hown3 : OwnI w2 w.heap.size v' (catITo ql (q + 1)) := hown2
            clear hown2
            go_wp2
            go_roundw
            case rel => exact ⟨q + 1, hlt3, by go_num, hB2, hown3⟩
            case measure => simp [intOf]; omega
        · obtain rfl : q = j := by omega
          go_wp2
          go_ret
          exact ⟨_, rfl, hB, hown⟩
set_option maxRecDepth 20000 in
set_option maxHeartbeats 800000 in
theorem put1I_any (p r : Int) (bp bb bf k : Nat) (w : World) (h10 : w.cell? ⟨bp, 0, none⟩ = some (.int .i64 p))
    (h2 : w.cell? ⟨bb, 0, none⟩ = some (.slice (some ⟨bf, 0, none⟩) 1 k)) (h3 : w.cell? ⟨bf, 0, none⟩ = some (.func (.func 23) #[] #[])) :
    Calls Try.prog 54 #[.int .i64 r, .pointer (some ⟨bp, 0, none⟩), .pointer (some ⟨bb, 0, none⟩)] w fun e w' => e = .returned (.bool (decide (p < r))) ∧ Below w.heap.size w w' := by
  have hv : ∃ v, Cmp p r v ∧ (decide (p < r) = decide (v < 0)) := by
    rcases Int.lt_trichotomy p r with h | h | h
    · exact ⟨-1, .inl ⟨h, rfl⟩, by simp [h]⟩
    · exact ⟨0, .inr (.inl ⟨h, rfl⟩), by simp [h]⟩
    · exact ⟨1, .inr (.inr ⟨h, rfl⟩), by simp; omega⟩
  obtain ⟨v, hv, hd⟩ := hv
  rw [hd]
  go_enter Try.func54, Try.ntmps54
  go_wp2_with (go_at_call 55; refine (compareI_is p r v hv bf k _ h3).mono ?_; rintro e w1 ⟨rfl, hb1⟩)
  go_ret
  exact ⟨rfl, hb1⟩
theorem call_put1I (args : Array Value) (W : World) : (callFunc 54 args).run Try.prog W = .ok (.enter 54 args) W := by simp [go_sem]

set_option maxHeartbeats 800000 in
theorem concatI3 (x1 x3 : Option Addr) (n1 c1 n3 c3 : Nat) (q1 q3 : List Int) (e : Int) (w : World) (h1 : RunI w x1 n1 q1) (h3 : RunI w x3 n3 q3) (b1 : n1 ≤ 64) (b3 : n3 ≤ 64) (z1 : x1 = none → n1 = 0 ∧ c1 = 0) (z3 : x3 = none → n3 = 0 ∧ c3 = 0) :
    Calls Try.prog 56 #[.slice (some ⟨w.heap.size + 1, 0, none⟩) 3 3] ((w.alloc (.cells #[.int .i64 e] 3)).alloc (.cells #[.slice x1 n1 c1, .slice (some ⟨w.heap.size, 0, none⟩) 1 1, .slice x3 n3 c3] 45)).drew fun r w' =>
      ∃ v, r = .returned v ∧ Below w.heap.size w w' ∧ OwnI w' (w.heap.size + 2) v (q1 ++ [e] ++ q3) := by
  obtain ⟨W, hW⟩ : ∃ W, W = ((w.alloc (.cells #[.int .i64 e] 3)).alloc (.cells #[.slice x1 n1 c1, .slice (some ⟨w.heap.size, 0, none⟩) 1 1, .slice x3 n3 c3] 45)).drew := ⟨_, rfl⟩
  have hB : Below w.heap.size w W := by rw [hW]; exact (bl2 w _ _).drew
  have g0 : W.heap[w.heap.size]? = some (.cells #[.int .i64 e] 3) := by rw [hW]; exact heap_old _ (heap_new _ rfl)
  have g1 : W.heap[w.heap.size + 1]? = some (.cells #[.slice x1 n1 c1, .slice (some ⟨w.heap.size, 0, none⟩) 1 1, .slice x3 n3 c3] 45) := by rw [hW]; exact heap_new _ (by simp)
  have hs : W.heap.size = w.heap.size + 2 := by rw [hW]; simp
  rw [← hW]
  clear hW
  have hp2 : RunI W (some ⟨w.heap.size, 0, none⟩) 1 [e] := ⟨rfl, fun _ => by simp, fun ad hx j u hj => by
    cases hx
    rw [addr_add, Nat.zero_add]
    simp only [flatI, List.map_cons, List.map_nil] at hj
    simpa [World.cell?, g0] using hj⟩
  have hcat : catITo (fun j => if j = 0 then q1 else if j = 1 then [e] else q3) 3 = q1 ++ [e] ++ q3 := by simp [catITo]
  refine (concatI_any (w.heap.size + 1) 3 3 (fun j => if j = 0 then x1 else if j = 1 then some ⟨w.heap.size, 0, none⟩ else x3) (fun j => if j = 0 then n1 else if j = 1 then 1 else n3) (fun j => if j = 0 then c1 else if j = 1 then 1 else c3) (fun j => if j = 0 then q1 else if j = 1 then [e] else q3) W (by omega) ?_ ?_ ?_ ?_).mono ?_
  · intro j hj
    rcases j with _ | _ | _ | j
    · simp [World.cell?, g1]
    · simp [World.cell?, g1]
    · simp [World.cell?, g1]
    · omega
  · intro j hj
    rcases j with _ | _ | _ | j
    · simpa using h1.later hB
    · simpa using hp2
    · simpa using h3.later hB
    · omega
  · intro j hj
    rcases j with _ | _ | _ | j
    · simpa using b1
    · simp
    · simpa using b3
    · omega
  · intro j hj
    rcases j with _ | _ | _ | j
    · simpa using z1
    · simp
    · simpa using z3
    · omega
  · rintro r w' ⟨v, rfl, hb, hown⟩
    rw [hcat, hs] at hown
    exact ⟨v, rfl, hB.trans (hb.mono (by omega)), hown⟩
/-- What Put answers: it stands ahead of the first one whose number is greater. -/
def PutIPost (e : Int) (n : Nat) (ps : List Int) (w : World) (r : Ending) (w' : World) : Prop :=
  ∃ v, r = .returned v ∧ Below w.heap.size w w' ∧ ∃ i, i ≤ n ∧ (∀ j, j < i → ¬ e < (inAt ps j)) ∧ (i < n → e < (inAt ps i)) ∧ OwnI w' w.heap.size v (ps.take i ++ [e] ++ ps.drop i)

set_option maxRecDepth 20000 in
set_option maxHeartbeats 1600000 in
theorem putI_any (e : Int) (x : Option Addr) (n c : Nat) (ps : List Int) (bf k : Nat) (w : World) (hp : IS w x n ps) (hn : n ≤ 32) (hnc : n ≤ c) (hc63 : c ≤ 9223372036854775807) (hx : (x = none ∧ c = 0) ∨ ∃ b o, x = some ⟨b, o, none⟩)
    (hby : w.cell? ⟨bf, 0, none⟩ = some (.func (.func 23) #[] #[])) :
    Calls Try.prog 22 #[.slice x n c, .int .i64 e, .slice (some ⟨bf, 0, none⟩) 1 k] w (PutIPost e n ps w) := by
  have hB2 := bl2 w (.cells #[.int .i64 e] 3) (.cells #[.slice (some ⟨bf, 0, none⟩) 1 k] 90)
  go_enter Try.func22, Try.ntmps22
  go_wp2_with fail
  have hF : FnInAt 54 #[.pointer (some ⟨w.heap.size, 0, none⟩), .pointer (some ⟨w.heap.size + 1, 0, none⟩)] n ps (fun i => decide (e < (inAt ps i))) ((w.alloc (.cells #[.int .i64 e] 3)).alloc (.cells #[.slice (some ⟨bf, 0, none⟩) 1 k] 90)) := fun i hi W hW =>
    put1I_any e (inAt ps i) w.heap.size (w.heap.size + 1) bf k W (cell_later hW (by simp)) (cell_later hW (by simp)) (cell_later hW (cell_later hB2 hby))
  refine (indexFuncIn_any _ _ x n c ps _ _ (hp.later hB2) (by omega) hF call_put1I).mono ?_
  rintro e' w1 ⟨⟨r, rfl, hr⟩, hb1⟩
  have hB := hB2.trans (hb1.mono (by simp; omega))
  have e0 : w1.cell? ⟨w.heap.size, 0, none⟩ = some (.int .i64 e) := (hb1.cell (p := ⟨w.heap.size, 0, none⟩) (by show w.heap.size < _; simp; omega)).trans (by simp)
  have hi : ∃ i : Nat, i ≤ n ∧ (∀ j, j < i → ¬ e < (inAt ps j)) ∧ (i < n → e < (inAt ps i)) ∧ ((r = i ∧ ¬ r < 0) ∨ (r = -1 ∧ i = n)) := by
    rcases hr with ⟨i, hi, hf, hno, rfl⟩ | ⟨hno, rfl⟩
    · exact ⟨i, by omega, fun j hj => by have := hno j hj; simpa using this, fun _ => by simpa using hf, .inl ⟨rfl, by omega⟩⟩
    · exact ⟨n, by omega, fun j hj => by have := hno j hj; simpa using this, fun h => by omega, .inr ⟨rfl, rfl⟩⟩
  obtain ⟨i, hin, hlow, hup, hri⟩ := hi
  have hrun := hp.run
  rcases hx with ⟨rfl, rfl⟩ | ⟨b, o, rfl⟩
  · obtain rfl : n = 0 := by omega
    obtain rfl : i = 0 := by omega
    have hps0 := List.eq_nil_of_length_eq_zero hp.len
    rcases hri with ⟨rfl, hneg⟩ | ⟨rfl, hi2⟩
    · go_wp2_with fail
      have hpw := hrun.later hB
      go_region_held3 (fun w' => w'.cell? ⟨w.heap.size, 0, none⟩ = some (.int .i64 e)) (first | (go_keep; done) | (exact cell_later (bl1 _ _) (by assumption)) | (exact cell_later hb2 e0)) (first | (go_at_call 56; refine (concatI3 none none 0 0 0 0 [] [] e w1 (RunI.empty _ _) (RunI.empty _ _) (by omega) (by omega) (fun _ => ⟨rfl, rfl⟩) (fun _ => ⟨rfl, rfl⟩)).mono ?_; rintro e' w2 ⟨v2, rfl, hb2, hps⟩) | fail)
      all_goals go_wp2
      all_goals go_ret
      all_goals unfold PutIPost
      all_goals exact ⟨_, rfl, hB.trans (hb2.mono hB.size), 0, by omega, fun j hj => by omega, fun h => by omega, by rw [hps0]; exact OwnI.low hps (by have := hB.size; omega)⟩
    · go_wp2_with fail
      have hpw := hrun.later hB
      go_region_held3 (fun w' => w'.cell? ⟨w.heap.size, 0, none⟩ = some (.int .i64 e)) (first | (go_keep; done) | (exact cell_later (bl1 _ _) (by assumption)) | (exact cell_later hb2 e0)) (first | (go_at_call 56; refine (concatI3 none none 0 0 0 0 [] [] e w1 (RunI.empty _ _) (RunI.empty _ _) (by omega) (by omega) (fun _ => ⟨rfl, rfl⟩) (fun _ => ⟨rfl, rfl⟩)).mono ?_; rintro e' w2 ⟨v2, rfl, hb2, hps⟩) | fail)
      all_goals go_wp2
      all_goals go_ret
      all_goals unfold PutIPost
      all_goals exact ⟨_, rfl, hB.trans (hb2.mono hB.size), 0, by omega, fun j hj => by omega, fun h => by omega, by rw [hps0]; exact OwnI.low hps (by have := hB.size; omega)⟩
  · rcases hri with ⟨rfl, hneg⟩ | ⟨rfl, hi2⟩
    · go_wp2_with fail
      have hic : i ≤ c := by omega
      have hpw := hrun.later hB
      go_region_held3 (fun w' => w'.cell? ⟨w.heap.size, 0, none⟩ = some (.int .i64 e)) (first | (go_keep; done) | (exact cell_later (bl1 _ _) (by assumption)) | (exact cell_later hb2 e0)) (first | (go_at_call 56; refine (concatI3 (some ⟨b, o, none⟩) (if c = i then some ⟨b, o, none⟩ else some ⟨b, o + i, none⟩) i c (n - i) (c - i) (ps.take i) (ps.drop i) e w1 (hpw.take (by omega)) (hpw.drop (by omega) hnc) (by omega) (by omega) (fun h => by cases h) (fun h => by split at h <;> cases h)).mono ?_; rintro e' w2 ⟨v2, rfl, hb2, hps⟩) | fail)
      all_goals go_wp2
      all_goals go_ret
      all_goals unfold PutIPost
      all_goals exact ⟨_, rfl, hB.trans (hb2.mono hB.size), i, by omega, fun j hj => by have := hlow j hj; omega, hup, OwnI.low hps (by have := hB.size; omega)⟩
    · have hi3 := hi2.symm
      subst hi3
      clear hi2
      by_cases hcn : n = c
      · subst hcn
        go_wp2_with fail
        have hpw := hrun.later hB
        go_region_held3 (fun w' => w'.cell? ⟨w.heap.size, 0, none⟩ = some (.int .i64 e)) (first | (go_keep; done) | (exact cell_later (bl1 _ _) (by assumption)) | (exact cell_later hb2 e0)) (first | (go_at_call 56; refine (concatI3 (some ⟨b, o, none⟩) (some ⟨b, o, none⟩) n n 0 0 ps [] e w1 hpw (RunI.empty _ _) (by omega) (by omega) (fun h => by cases h) (fun h => by cases h)).mono ?_; rintro e' w2 ⟨v2, rfl, hb2, hps⟩) | fail)
        all_goals go_wp2
        all_goals go_ret
        all_goals unfold PutIPost
        all_goals exact ⟨_, rfl, hB.trans (hb2.mono hB.size), n, by omega, fun j hj => by have := hlow j hj; omega, fun h => by omega, by rw [List.take_of_length_le (by rw [hp.len]; omega), List.drop_eq_nil_of_le (by rw [hp.len]; omega)]; exact OwnI.low hps (by have := hB.size; omega)⟩
      · have hcn' : ¬ c = n := fun h => hcn h.symm
        go_wp2_with fail
        have hpw := hrun.later hB
        go_region_held3 (fun w' => w'.cell? ⟨w.heap.size, 0, none⟩ = some (.int .i64 e)) (first | (go_keep; done) | (exact cell_later (bl1 _ _) (by assumption)) | (exact cell_later hb2 e0)) (first | (go_at_call 56; refine (concatI3 (some ⟨b, o, none⟩) (some ⟨b, o + n, none⟩) n c 0 (c - n) ps [] e w1 hpw (RunI.empty _ _) (by omega) (by omega) (fun h => by cases h) (fun h => by cases h)).mono ?_; rintro e' w2 ⟨v2, rfl, hb2, hps⟩) | fail)
        all_goals go_wp2
        all_goals go_ret
        all_goals unfold PutIPost
        all_goals exact ⟨_, rfl, hB.trans (hb2.mono hB.size), n, by omega, fun j hj => by have := hlow j hj; omega, fun h => by omega, by rw [List.take_of_length_le (by rw [hp.len]; omega), List.drop_eq_nil_of_le (by rw [hp.len]; omega)]; exact OwnI.low hps (by have := hB.size; omega)⟩
end Go.Proofs.Ytpdhipjeobchfaa
/- least of package vpc. -/
namespace Go.Proofs.Ytpdhipjeobchfaa
open Go.RowKit Go.Shelf Go.Maps

theorem ownsMap_later {w w' : World} {bm n : Nat} {D : DataW Unit} (h : w.ownsMap Try.prog 3 (plainElem Try.prog 3) bm n D) (hb : Below w.heap.size w w') : w'.ownsMap Try.prog 3 (plainElem Try.prog 3) bm n D := by
  obtain ⟨es, cl, h1, h2⟩ := h
  exact ⟨es, cl, heap_later hb h1, h2⟩
/-- The least address that is free, or none. -/
def LeastPost (s : Sb) (w : World) (e : Ending) (w' : World) : Prop :=
  Below w.heap.size w w' ∧ ((∃ y, e = .returned (.tuple #[.int .i64 y, .bool true]) ∧ usB s.a s.l y = true ∧ y ∉ allNs s.fs ∧ ∀ z, s.a < z → z < y → z ∈ allNs s.fs) ∨ (e = .returned (.tuple #[.int .i64 0, .bool false]) ∧ ∀ z, usB s.a s.l z = true → z ∈ allNs s.fs))

set_option maxRecDepth 100000 in
set_option maxHeartbeats 1600000 in
theorem least_any (s : Sb) (w : World) (hrt : rt s.a s.l = true) (hp : FcS w s.x s.n s.fs) (hn : s.n ≤ 64) (hm : ∀ i, i < s.n → (fcAt s.fs i).n ≤ 64)
    (hr : ∀ i, i < s.n → ∀ j, j < (fcAt s.fs i).n → 0 ≤ inAt (fcAt s.fs i).ns j ∧ inAt (fcAt s.fs i).ns j ≤ 1000000) :
    Calls Try.prog 52 #[.agg #[.int .i64 s.id, .int .i64 s.a, .int .i64 s.l, .slice s.x s.n s.c]] w (LeastPost s w) := by
  obtain ⟨h0, h1, h2, h3, h4⟩ := rt_range hrt
  obtain ⟨s0, s1⟩ := sp_range h0 h1
  have hus := fun x W => usable_any s.a s.l x W hrt
  go_enter Try.func52, Try.ntmps52
  go_upto_region 1 with fail
  obtain ⟨w0, hw0⟩ : ∃ w0, w0 = w.alloc (sbO s) := ⟨_, rfl⟩
  rw [← hw0]
  have hB0 : Below w.heap.size w w0 := by rw [hw0]; exact bl1 w _
  have hb0 : w0.heap[w.heap.size]? = some (sbO s) := by rw [hw0]; exact heap_new _ rfl
  clear hw0
  have c0 : w0.cell? ⟨w.heap.size, 0, none⟩ = some (.int .i64 s.id) := (box_cells hb0).1 0
  have c1 : w0.cell? ⟨w.heap.size, 1, none⟩ = some (.int .i64 s.a) := (box_cells hb0).1 1
  have c2 : w0.cell? ⟨w.heap.size, 2, none⟩ = some (.int .i64 s.l) := (box_cells hb0).1 2
  have c3 : w0.cell? ⟨w.heap.size, 3, none⟩ = some (.slice s.x s.n s.c) := (box_cells hb0).1 3
  have hzz : w.heap.size < w0.heap.size := (Array.getElem?_eq_some_iff.1 hb0).1
  go_wp2_with fail
  refine (usesOf_any s.id s.a s.l s.x s.n s.c s.fs w0 (hp.later hB0) hn hm hr).mono ?_
  rintro e w1 ⟨bm, D, rfl, hbm, hO, hC, hb1⟩
  have hb1x := heap_later hb1 hb0
  have hB1 : Below w.heap.size w w1 := hB0.trans (hb1.mono hB0.size)
  clear c0 c1 c2 c3
  have c1 : w1.cell? ⟨w.heap.size, 1, none⟩ = some (.int .i64 s.a) := (box_cells hb1x).1 1
  have hwr : IntKind.i64.wrap (s.a + 1) = s.a + 1 := by rw [IntKind.wrap_i64]; omega
  go_wp2
  clear c1 hwr
  go_loopw [5] (fun i wr => ∃ y : Int, i = .int .i64 y ∧ s.a < y ∧ y ≤ s.a + sp s.l + 1 ∧ (∀ z, s.a < z → z < y → z ∈ allNs s.fs) ∧ wr.ownsMap Try.prog 3 (plainElem Try.prog 3) bm (allNs s.fs).length D ∧ wr.heap[w.heap.size]? = some (sbO s) ∧ Below w.heap.size w wr) (fun i _ => (s.a + sp s.l + 1 - intOf i).toNat)
  case atStart => exact ⟨s.a + 1, rfl, by omega, by omega, fun z h5 h6 => by omega, hO, hb1x, hB1⟩
  case round =>
    obtain ⟨y, rfl, hy1, hy2, hall, hOr, hbr, hBr⟩ := hrel
    have d1 : wr.cell? ⟨w.heap.size, 1, none⟩ = some (.int .i64 s.a) := (box_cells hbr).1 1
    have d2 : wr.cell? ⟨w.heap.size, 2, none⟩ = some (.int .i64 s.l) := (box_cells hbr).1 2
    have hcall := hus y wr
    cases hu : usB s.a s.l y with
    | false =>
      rw [hu] at hcall
      have hHy : Hid (∀ z, usB s.a s.l z = true → z ∈ allNs s.fs) := fun z hz => by
        simp only [usB, Bool.and_eq_false_iff, decide_eq_false_iff_not, Bool.and_eq_true, decide_eq_true_eq] at hu hz
        exact hall z hz.1 (by omega)
      clear hall hu
      go_wp2_with fail
      refine hcall.mono ?_
      rintro e w2 ⟨rfl, hb2⟩
      have hB2 := hBr.trans (hb2.mono hBr.size)
      go_wp2
      refine bodyPost_ret (v := .tuple #[.int .i64 0, .bool false]) (by simp [results, Try.results52, go_sem]) rfl ?_
      exact ⟨hB2, .inr ⟨rfl, hHy.out⟩⟩
    | true =>
      rw [hu] at hcall
      have hu' : Hid (usB s.a s.l y = true) := hu
      have hyl : Hid (y < s.a + sp s.l - 1) := by
        simp only [usB, Bool.and_eq_true, decide_eq_true_eq] at hu
        exact hu.2
      clear hu
      have hkey : keyOf Try.prog 3 (.int .i64 y) = some (.int .i64 y) := keyOf_int_mk under_int (wf_small (by omega) (by omega))
      have hat := hC.at_ y
      have hall' : Hid (∀ z, s.a < z → z < y → z ∈ allNs s.fs) := hall
      clear hall
      by_cases hmem : y ∈ allNs s.fs
      · have hcn : Hid (((allNs s.fs).count y : Int) ≠ 0) := by
          have := List.count_pos_iff.2 hmem
          unfold Hid
          omega
        have hmem' : Hid (y ∈ allNs s.fs) := hmem
        clear hmem
        go_wp2_with fail
        refine hcall.mono ?_
        rintro e w2 ⟨rfl, hb2⟩
        have hB2 := hBr.trans (hb2.mono hBr.size)
        have hO2 := ownsMap_later hOr hb2
        have hbx2 := heap_later hb2 hbr
        have hwr : IntKind.i64.wrap (y + 1) = y + 1 := by rw [IntKind.wrap_i64]; omega
        clear d1 d2 hcall
        go_wp2_with (first | (at_lookup; refine wpList_lookup_own_int _ rfl _ _ 112 rfl 3 3 .i64 key_law under_uses under_int (zero_int _) bm _ _ rfl hO2 _ _ rfl hkey ?_; intro cc hat2 hwc; have hcc : ¬ cc = 0 := (by rw [hat] at hat2; cases hat2; exact hcn.out)) | go_in)
        go_roundw
        case rel => exact ⟨y + 1, by go_num, by omega, by have := hyl.out; omega, fun z h5 h6 => by
          by_cases e : z = y
          · rw [e]; exact hmem'.out
          · exact hall'.out z h5 (by omega), hO2, hbx2, hB2⟩
        case measure => simp [intOf]; have := hyl.out; omega
      · have hcn : Hid ((allNs s.fs).count y = 0) := List.count_eq_zero.2 hmem
        have hmem' : Hid (y ∉ allNs s.fs) := hmem
        clear hmem
        go_wp2_with fail
        refine hcall.mono ?_
        rintro e w2 ⟨rfl, hb2⟩
        have hB2 := hBr.trans (hb2.mono hBr.size)
        have hO2 := ownsMap_later hOr hb2
        clear d1 d2 hcall
        go_wp2_with (first | (at_lookup; refine wpList_lookup_own_int _ rfl _ _ 112 rfl 3 3 .i64 key_law under_uses under_int (zero_int _) bm _ _ rfl hO2 _ _ rfl hkey ?_; intro cc hat2 hwc; obtain rfl : cc = 0 := (by rw [hat, hcn.out] at hat2; cases hat2; rfl)) | go_in)
        refine bodyPost_ret (v := .tuple #[.int .i64 y, .bool true]) (by simp [results, Try.results52, go_sem]) rfl ?_
        exact ⟨hB2, .inl ⟨y, rfl, hu'.out, hmem'.out, hall'.out⟩⟩
end Go.Proofs.Ytpdhipjeobchfaa
/- given, faceAddr of package vpc. -/
namespace Go.Proofs.Ytpdhipjeobchfaa
open Go.RowKit Go.Shelf Go.Maps

/-- y is the least address that s can give. -/
structure Least (s : Sb) (y : Int) : Prop where
  use : usB s.a s.l y = true
  free : y ∉ allNs s.fs
  first : ∀ z, s.a < z → z < y → z ∈ allNs s.fs
def GivenPost (s : Sb) (w : World) (e : Ending) (w' : World) : Prop :=
  Below w.heap.size w w' ∧ ((∃ y, e = .returned (.tuple #[.int .i64 y, .int .i64 0]) ∧ Least s y) ∨ (e = .returned (.tuple #[.int .i64 0, .int .i64 8]) ∧ ∀ z, usB s.a s.l z = true → z ∈ allNs s.fs))

set_option maxRecDepth 100000 in
set_option maxHeartbeats 1600000 in
theorem given_any (s : Sb) (w : World) (hrt : rt s.a s.l = true) (hp : FcS w s.x s.n s.fs) (hn : s.n ≤ 64) (hm : ∀ i, i < s.n → (fcAt s.fs i).n ≤ 64)
    (hr : ∀ i, i < s.n → ∀ j, j < (fcAt s.fs i).n → 0 ≤ inAt (fcAt s.fs i).ns j ∧ inAt (fcAt s.fs i).ns j ≤ 1000000) :
    Calls Try.prog 21 #[.agg #[.int .i64 s.id, .int .i64 s.a, .int .i64 s.l, .slice s.x s.n s.c]] w (GivenPost s w) := by
  go_enter Try.func21, Try.ntmps21
  go_upto_region 1 with fail
  obtain ⟨w0, hw0⟩ : ∃ w0, w0 = w.alloc (sbO s) := ⟨_, rfl⟩
  rw [← hw0]
  have hB0 : Below w.heap.size w w0 := by rw [hw0]; exact bl1 w _
  have hb0 : w0.heap[w.heap.size]? = some (sbO s) := by rw [hw0]; exact heap_new _ rfl
  clear hw0
  have c0 : w0.cell? ⟨w.heap.size, 0, none⟩ = some (.int .i64 s.id) := (box_cells hb0).1 0
  have c1 : w0.cell? ⟨w.heap.size, 1, none⟩ = some (.int .i64 s.a) := (box_cells hb0).1 1
  have c2 : w0.cell? ⟨w.heap.size, 2, none⟩ = some (.int .i64 s.l) := (box_cells hb0).1 2
  have c3 : w0.cell? ⟨w.heap.size, 3, none⟩ = some (.slice s.x s.n s.c) := (box_cells hb0).1 3
  have hl := least_any s w0 hrt (hp.later hB0) hn hm hr
  clear hm hr
  go_wp2_with fail
  refine hl.mono ?_
  rintro e w1 ⟨hb1, h⟩
  have hB1 := hB0.trans (hb1.mono hB0.size)
  clear c0 c1 c2 c3 hl
  rcases h with ⟨y, rfl, h1, h2, h3⟩ | ⟨rfl, h1⟩
  · have hL : Least s y := ⟨h1, h2, h3⟩
    clear h1 h2 h3
    go_wp2
    refine bodyPost_ret (v := .tuple #[.int .i64 y, .int .i64 0]) (by simp [results, Try.results21, go_sem]) rfl ?_
    exact ⟨hB1, .inl ⟨y, rfl, hL⟩⟩
  · have hH : Hid (∀ z, usB s.a s.l z = true → z ∈ allNs s.fs) := h1
    clear h1
    go_wp2
    refine bodyPost_ret (v := .tuple #[.int .i64 0, .int .i64 8]) (by simp [results, Try.results21, go_sem]) rfl ?_
    exact ⟨hB1, .inr ⟨rfl, hH.out⟩⟩
/-- What a new face of s is told. -/
def FaPost (s : Sb) (id : Int) (w : World) (e : Ending) (w' : World) : Prop :=
  Below w.heap.size w w' ∧ if wth id 1 65536 = false then e = .returned (.tuple #[.int .i64 0, .int .i64 3]) else if 0 ≤ fstAt s.n (fun i => (fcAt s.fs i).id == id) then e = .returned (.tuple #[.int .i64 0, .int .i64 6]) else if s.n = 8 then e = .returned (.tuple #[.int .i64 0, .int .i64 2]) else
    (∃ y, e = .returned (.tuple #[.int .i64 y, .int .i64 0]) ∧ Least s y) ∨ (e = .returned (.tuple #[.int .i64 0, .int .i64 8]) ∧ ∀ z, usB s.a s.l z = true → z ∈ allNs s.fs)
theorem FaPost.c3 {s : Sb} {id : Int} {w w' : World} (h : wth id 1 65536 = false) (hb : Below w.heap.size w w') : FaPost s id w (.returned (.tuple #[.int .i64 0, .int .i64 3])) w' := ⟨hb, by rw [if_pos h]⟩
theorem FaPost.c6 {s : Sb} {id : Int} {w w' : World} (h : wth id 1 65536 = true) (h2 : 0 ≤ fstAt s.n (fun i => (fcAt s.fs i).id == id)) (hb : Below w.heap.size w w') : FaPost s id w (.returned (.tuple #[.int .i64 0, .int .i64 6])) w' := ⟨hb, by rw [if_neg (by simp [h]), if_pos h2]⟩
theorem FaPost.c2 {s : Sb} {id : Int} {w w' : World} (h : wth id 1 65536 = true) (h2 : ¬ 0 ≤ fstAt s.n (fun i => (fcAt s.fs i).id == id)) (h3 : s.n = 8) (hb : Below w.heap.size w w') : FaPost s id w (.returned (.tuple #[.int .i64 0, .int .i64 2])) w' := ⟨hb, by rw [if_neg (by simp [h]), if_neg h2, if_pos h3]⟩
theorem FaPost.c0 {s : Sb} {id : Int} {w w' : World} {e : Ending} (h : wth id 1 65536 = true) (h2 : ¬ 0 ≤ fstAt s.n (fun i => (fcAt s.fs i).id == id)) (h3 : ¬ s.n = 8) (hb : Below w.heap.size w w') (hh : (∃ y, e = .returned (.tuple #[.int .i64 y, .int .i64 0]) ∧ Least s y) ∨ (e = .returned (.tuple #[.int .i64 0, .int .i64 8]) ∧ ∀ z, usB s.a s.l z = true → z ∈ allNs s.fs)) : FaPost s id w e w' := ⟨hb, by rw [if_neg (by simp [h]), if_neg h2, if_neg h3]; exact hh⟩

set_option maxRecDepth 100000 in
set_option maxHeartbeats 1600000 in
theorem faceAddr_any (s : Sb) (id : Int) (w : World) (hrt : rt s.a s.l = true) (hp : FcS w s.x s.n s.fs) (hn : s.n ≤ 64) (hm : ∀ i, i < s.n → (fcAt s.fs i).n ≤ 64)
    (hr : ∀ i, i < s.n → ∀ j, j < (fcAt s.fs i).n → 0 ≤ inAt (fcAt s.fs i).ns j ∧ inAt (fcAt s.fs i).ns j ≤ 1000000) :
    Calls Try.prog 12 #[.agg #[.int .i64 s.id, .int .i64 s.a, .int .i64 s.l, .slice s.x s.n s.c], .int .i64 id] w (FaPost s id w) := by
  have hgv := fun W h => given_any s W hrt h hn hm hr
  clear hm hr
  go_enter Try.func12, Try.ntmps12
  go_upto_region 1 with fail
  obtain ⟨w0, hw0⟩ : ∃ w0, w0 = w.alloc (sbO s) := ⟨_, rfl⟩
  rw [← hw0]
  have hB0 : Below w.heap.size w w0 := by rw [hw0]; exact bl1 w _
  have hb0 : w0.heap[w.heap.size]? = some (sbO s) := by rw [hw0]; exact heap_new _ rfl
  clear hw0
  have c0 : w0.cell? ⟨w.heap.size, 0, none⟩ = some (.int .i64 s.id) := (box_cells hb0).1 0
  have c1 : w0.cell? ⟨w.heap.size, 1, none⟩ = some (.int .i64 s.a) := (box_cells hb0).1 1
  have c2 : w0.cell? ⟨w.heap.size, 2, none⟩ = some (.int .i64 s.l) := (box_cells hb0).1 2
  have c3 : w0.cell? ⟨w.heap.size, 3, none⟩ = some (.slice s.x s.n s.c) := (box_cells hb0).1 3
  cases hid : wth id 1 65536 with
  | false =>
    have hid' : Hid (wth id 1 65536 = false) := hid
    go_wp2_with fail
    refine (isId_is id false hid _).mono ?_
    rintro e w1 ⟨rfl, rfl⟩
    clear hid
    go_wp2
    refine bodyPost_ret (v := .tuple #[.int .i64 0, .int .i64 3]) (by simp [results, Try.results12, go_sem]) rfl ?_
    exact FaPost.c3 hid'.out hB0
  | true =>
    have hid' : Hid (wth id 1 65536 = true) := hid
    go_wp2_with fail
    refine (isId_is id true hid _).mono ?_
    rintro e w1 ⟨rfl, rfl⟩
    clear hid
    have hfp := facePlace_any s id w1 (hp.later hB0) (by omega)
    generalize hfe : fstAt s.n (fun i => (fcAt s.fs i).id == id) = fp at hfp
    have hfe' : Hid (fstAt s.n (fun i => (fcAt s.fs i).id == id) = fp) := hfe
    clear hfe
    by_cases hge : 0 ≤ fp
    · go_wp2_with fail
      refine hfp.mono ?_
      rintro e w2 ⟨rfl, hb2⟩
      have hB2 := hB0.trans (hb2.mono hB0.size)
      go_wp2
      refine bodyPost_ret (v := .tuple #[.int .i64 0, .int .i64 6]) (by simp [results, Try.results12, go_sem]) rfl ?_
      exact FaPost.c6 hid'.out (by rw [hfe'.out]; exact hge) hB2
    · go_wp2_with fail
      refine hfp.mono ?_
      rintro e w2 ⟨rfl, hb2⟩
      have hB2 := hB0.trans (hb2.mono hB0.size)
      have hbx := heap_later hb2 hb0
      clear c0 c1 c2 c3
      have c0 : w2.cell? ⟨w.heap.size, 0, none⟩ = some (.int .i64 s.id) := (box_cells hbx).1 0
      have c1 : w2.cell? ⟨w.heap.size, 1, none⟩ = some (.int .i64 s.a) := (box_cells hbx).1 1
      have c2 : w2.cell? ⟨w.heap.size, 2, none⟩ = some (.int .i64 s.l) := (box_cells hbx).1 2
      have c3 : w2.cell? ⟨w.heap.size, 3, none⟩ = some (.slice s.x s.n s.c) := (box_cells hbx).1 3
      by_cases h8 : s.n = 8
      · go_wp2
        refine bodyPost_ret (v := .tuple #[.int .i64 0, .int .i64 2]) (by simp [results, Try.results12, go_sem]) rfl ?_
        exact FaPost.c2 hid'.out (by rw [hfe'.out]; omega) h8 hB2
      · have hl := hgv w2 (hp.later hB2)
        clear hgv
        go_wp2_with fail
        refine hl.mono ?_
        rintro e w3 ⟨hb3, h⟩
        have hB3 := hB2.trans (hb3.mono hB2.size)
        clear c0 c1 c2 c3 hl
        rcases h with ⟨y, rfl, hL⟩ | ⟨rfl, h1⟩
        · go_wp2
          refine bodyPost_ret (v := .tuple #[.int .i64 y, .int .i64 0]) (by simp [results, Try.results12, go_sem]) rfl ?_
          exact FaPost.c0 hid'.out (by rw [hfe'.out]; omega) h8 hB3 (.inl ⟨y, rfl, hL⟩)
        · have hH : Hid (∀ z, usB s.a s.l z = true → z ∈ allNs s.fs) := h1
          clear h1
          go_wp2
          refine bodyPost_ret (v := .tuple #[.int .i64 0, .int .i64 8]) (by simp [results, Try.results12, go_sem]) rfl ?_
          exact FaPost.c0 hid'.out (by rw [hfe'.out]; omega) h8 hB3 (.inr ⟨rfl, hH.out⟩)
end Go.Proofs.Ytpdhipjeobchfaa
/- What a right network tells of its subnets and their addresses. -/
namespace Go.Proofs.Ytpdhipjeobchfaa
open Go.RowKit Go.Shelf

theorem chkV_right {vid : Int} {rn : Nat} {rs : List Rg} {sn : Nat} {ss : List Sb} (h : chkV vid rn rs sn ss = 0) : wth vid 1 65536 = true ∧ rgsB rn rs = true ∧ sbsB rn rs sn ss = true := by
  unfold chkV at h
  split at h
  · omega
  · split at h
    · rename_i hw
      simp only [Bool.and_eq_true] at hw
      exact ⟨hw.1.1, hw.1.2, hw.2⟩
    · omega
theorem chkV_sub {vid : Int} {rn : Nat} {rs : List Rg} {sn : Nat} {ss : List Sb} (h : chkV vid rn rs sn ss = 0) : ∀ i, i < sn → rt (sbAt ss i).a (sbAt ss i).l = true ∧
    ∀ k, k < (sbAt ss i).n → ∀ j, j < (fcAt (sbAt ss i).fs k).n → 0 ≤ inAt (fcAt (sbAt ss i).fs k).ns j ∧ inAt (fcAt (sbAt ss i).fs k).ns j ≤ 1000000 := fun i hi => by
  obtain ⟨-, -, hs⟩ := chkV_right h
  unfold sbsB at hs
  rw [Bool.and_eq_true, List.all_eq_true] at hs
  have h1 := hs.1 i (by simpa using hi)
  unfold sbsAt at h1
  simp only [Bool.and_eq_true] at h1
  have hrt := sub_rt h1.1.1
  refine ⟨hrt, fun k hk j hj => ?_⟩
  have hf := h1.2
  unfold fcsB at hf
  simp only [Bool.and_eq_true, List.all_eq_true] at hf
  have h2 := hf.1.1 k (by simpa using hk)
  unfold fcsAt at h2
  simp only [Bool.and_eq_true] at h2
  exact us_range hrt (ad_us h2.2 j hj)
end Go.Proofs.Ytpdhipjeobchfaa
