/- A part of the proof. -/
import Derived.Test.YtndpilfpejfloaaGreatMC07
set_option maxRecDepth 100000
set_option maxHeartbeats 20000000
namespace Go.Proofs.YtndpilfpejfloaaGreat
variable {n rn sn i k b base g base' ln j cap c c' : Nat} {f : Nat → Bool} {a fs gs : List Fc} {ss ts : List Sb} {vs : List Vn} {ps ls : List (Int × Int)} {h0 h1 : Int} {ids es ns : List Int} {x x' : Option Addr} {w w' W W1 : World} {P : Program} {v : Value} {cs cur : Array Value} {t : TypeId} {fr : Nat × Nat} {ad : Addr}
open Go.RowKit Go.Shelf
def lW (rn : Nat) (rs : List Rg) (ss : List Sb) (i : Nat) : Bool := kU rn rs (sbAt ss i).id (sbAt ss i).a (sbAt ss i).l && !aL i (xB ss (sbAt ss i).a (sbAt ss i).l) && eE (sbAt ss i).a (sbAt ss i).l (sbAt ss i).n (sbAt ss i).fs
def mQ (rn : Nat) (rs : List Rg) (n : Nat) (ss : List Sb) : Bool := (List.range n).all (lW rn rs ss) && mP ss
theorem kD (h : aL n f = true) : ∃ i, i < n ∧ f i = true := by
 unfold aL at h
 rw [List.any_eq_true] at h
 obtain ⟨i, hi, hf⟩ := h
 exact ⟨i, by simpa using hi, hf⟩
theorem OO {rs : List Rg} {id a l : Int} (h : kU rn rs id a l = true) : rt a l = true := by
 unfold kU at h
 rw [zH] at h
 obtain ⟨i, -, hi⟩ := kD h.2
 unfold T4 jA at hi
 simp only [zH] at hi
 exact hi.1.1.1
theorem A4 (vid : Int) (rx : Option Addr) (rn rc : Nat) (rs : List Rg) (x : Option Addr) (n c : Nat) (ss : List Sb) (w : World) (hR : RS w rx rn rs) (hrn : rn ≤ 4) (hp : SS w x n ss) (hn : n ≤ 6) (hnc : n ≤ c)
  (hm : ∀ i, i < n → (sbAt ss i).n ≤ 8) (hm2 : ∀ i, i < n → ∀ j, j < (sbAt ss i).n → (fcAt (sbAt ss i).fs j).n ≤ 4) :
  Calls Tryz.prog 113 #[.agg #[.int .i64 vid, .slice rx rn rc, .slice x n c]] w fun e w' => e = .returned (.bool (mQ rn rs n ss)) ∧ Below w.heap.size w w' := by
 have hbd : Hid (mQ rn rs n ss = ((List.range n).all (lW rn rs ss) && mP ss)) := rfl
 go_enter Tryz.func113, Tryz.ntmps113
 go_upto_region 1 with fail
 obtain ⟨w2, hw2⟩ : ∃ w2, w2 = w.alloc (.cells #[.int .i64 vid, .slice rx rn rc, .slice x n c] 41) := ⟨_, rfl⟩
 rw [← hw2]
 have h02 : Below w.heap.size w w2 := by rw [hw2]; exact bl1 w _
 have hbox : w2.heap[w.heap.size]? = some (.cells #[.int .i64 vid, .slice rx rn rc, .slice x n c] 41) := by rw [hw2]; exact aB _ rfl
 clear hw2
 have hp2 := hp.later h02
 have hR2 := hR.later h02
 obtain ⟨hcl, -⟩ := aE hbox
 have q0 : w2.cell? ⟨w.heap.size, 0, none⟩ = some (.int .i64 vid) := hcl 0
 have q1 : w2.cell? ⟨w.heap.size, 1, none⟩ = some (.slice rx rn rc) := hcl 1
 have q2 : w2.cell? ⟨w.heap.size, 2, none⟩ = some (.slice x n c) := hcl 2
 clear hcl hbox
 generalize hbk : w.heap.size = bk at *
 go_wp2
 go_loopw [8] (fun i wr => ∃ k : Nat, k ≤ n ∧ i = .int .i64 k ∧ Below w2.heap.size w2 wr ∧ (∀ j, j < k → lW rn rs ss j = true)) (fun i _ => n - (intOf i).toNat)
 case atStart => exact ⟨0, by omega, rfl, zD, fun j hj => by omega⟩
 case round =>
  obtain ⟨k, hk, rfl, hB, hok⟩ := hrel
  have r0 := cell_later hB q0
  have r1 := cell_later hB q1
  have r2 := cell_later hB q2
  have hall : Below bk w wr := h02.trans (hB.mono (by have := h02.size; omega))
  clear q0 q1 q2
  by_cases hlt : k < n
  ·have hlt' : Hid (k < n) := hlt
   have hpr := hp2.later hB
   obtain ⟨b, o, rfl, c0, c1, c2, c3⟩ := hpr.cells k hlt
   have hF := (hpr.faces k hlt).2.2
   have hm1 := hm k hlt
   have hm3 := hm2 k hlt
   have hta : Hid (lW rn rs ss k = (kU rn rs (sbAt ss k).id (sbAt ss k).a (sbAt ss k).l && !aL k (xB ss (sbAt ss k).a (sbAt ss k).l) && eE (sbAt ss k).a (sbAt ss k).l (sbAt ss k).n (sbAt ss k).fs)) := rfl
   generalize hf : sbAt ss k = s at *
   obtain ⟨sid, sa, sl, sx, sn, scc, fs⟩ := s
   simp only at *
   clear hf
   go_upto_region 4 with fail
   obtain ⟨w3, hw3⟩ : ∃ w3, w3 = wr.alloc (.cells #[.int .i64 sid, .int .i64 sa, .int .i64 sl, .slice sx sn scc] 78) := ⟨_, rfl⟩
   rw [← hw3]
   have h23 : Below wr.heap.size wr w3 := by rw [hw3]; exact bl1 wr _
   have hbox : w3.heap[wr.heap.size]? = some (.cells #[.int .i64 sid, .int .i64 sa, .int .i64 sl, .slice sx sn scc] 78) := by rw [hw3]; exact aB _ rfl
   clear hw3 c0 c1 c2 c3
   have s0 := cell_later h23 r0
   have s1 := cell_later h23 r1
   have s2 := cell_later h23 r2
   clear r0 r1 r2
   obtain ⟨hcl, -⟩ := aE hbox
   have t0 : w3.cell? ⟨wr.heap.size, 0, none⟩ = some (.int .i64 sid) := hcl 0
   have t1 : w3.cell? ⟨wr.heap.size, 1, none⟩ = some (.int .i64 sa) := hcl 1
   have t2 : w3.cell? ⟨wr.heap.size, 2, none⟩ = some (.int .i64 sl) := hcl 2
   have t3 : w3.cell? ⟨wr.heap.size, 3, none⟩ = some (.slice sx sn scc) := hcl 3
   clear hcl hbox
   have hall3 : Below bk w w3 := hall.trans (h23.mono (by have := h02.size; have := hB.size; omega))
   have hB3 : Below w2.heap.size w2 w3 := hB.trans (h23.mono hB.size)
   have hF3 := hF.later h23
   have hR3 := hR2.later hB3
   have hp3 := hp2.later hB3
   have g0 := Ws.here s0
   have g1 := Ws.here s1
   have g2 := Ws.here s2
   have k0 := Ws.here t0
   have k1 := Ws.here t1
   have k2 := Ws.here t2
   have k3 := Ws.here t3
   clear s0 s1 s2 t0 t1 t2 t3
   cases hu : kU rn rs sid sa sl
   ·refine aK w3.heap.size (by kernel_rfl) (by kernel_rfl) ?_
    repeat (go_big_quiet_step ((go_at_call 143; exact Calls.in_ws (zE) (lA _ _ _ _ _ _ _ _ _ _ _ _ hu _ (hR3.later (Ws.property _)) (by omega)))))
    refine wpQuiet_nil ?_
    rintro _ ⟨u, rfl⟩
    have hu2 := hall3.trans (u.property.mono (by have := hall3.size; omega))
    generalize u.val = wu at hu2 ⊢
    clear u g0 g1 g2 k0 k1 k2 k3
    go_wp2
    go_ret
    exact ⟨aM (by rw [hbd.out, iK hlt'.out (by rw [hta.out, hu]; rfl)]; rfl), by rw [hbk]; exact hu2⟩
   ·have hrt := OO hu
    cases ha : aL k (xB ss sa sl)
    ·cases hfb : eE sa sl sn fs
     all_goals refine aK w3.heap.size (by kernel_rfl) (by kernel_rfl) ?_
     all_goals repeat (go_big_quiet_step (first | (go_at_call 143; exact Calls.in_ws (zE) (lA _ _ _ _ _ _ _ _ _ _ _ _ hu _ (hR3.later (Ws.property _)) (by omega))) | (go_at_call 145; exact Calls.in_ws (zE) (vP ss k _ n _ _ _ (hp3.later (Ws.property _)) (by omega) (by omega) _ _ ha)) | (go_at_call 165; exact Calls.in_ws (zE) (A3 _ _ _ _ _ _ _ _ hfb _ hrt (hF3.later (Ws.property _)) hm1 hm3))))
     all_goals refine wpQuiet_nil ?_
     all_goals rintro _ ⟨u, rfl⟩
     all_goals have hu2 := hall3.trans (u.property.mono (by have := hall3.size; omega))
     all_goals have hu3 := hB3.trans (u.property.mono hB3.size)
     all_goals generalize u.val = wu at hu2 hu3 ⊢
     all_goals clear u g0 g1 g2 k0 k1 k2 k3
     ·go_wp2
      go_ret
      exact ⟨aM (by rw [hbd.out, iK hlt'.out (by rw [hta.out, hu, ha, hfb]; rfl)]; rfl), by rw [hbk]; exact hu2⟩
     ·go_wp2
      go_roundw
      case rel => exact ⟨k + 1, hlt'.out, by go_num, hu3, fun j hj => by
       by_cases hj2 : j < k
       ·exact hok j hj2
       ·obtain rfl : j = k := by omega
        rw [hta.out, hu, ha, hfb]; rfl⟩
      case measure => simp [intOf]; have := hlt'.out; omega
    ·refine aK w3.heap.size (by kernel_rfl) (by kernel_rfl) ?_
     repeat (go_big_quiet_step (first | (go_at_call 143; exact Calls.in_ws (zE) (lA _ _ _ _ _ _ _ _ _ _ _ _ hu _ (hR3.later (Ws.property _)) (by omega))) | (go_at_call 145; exact Calls.in_ws (zE) (vP ss k _ n _ _ _ (hp3.later (Ws.property _)) (by omega) (by omega) _ _ ha))))
     refine wpQuiet_nil ?_
     rintro _ ⟨u, rfl⟩
     have hu2 := hall3.trans (u.property.mono (by have := hall3.size; omega))
     generalize u.val = wu at hu2 ⊢
     clear u g0 g1 g2 k0 k1 k2 k3
     go_wp2
     go_ret
     exact ⟨aM (by rw [hbd.out, iK hlt'.out (by rw [hta.out, hu, ha]; rfl)]; rfl), by rw [hbk]; exact hu2⟩
  ·obtain rfl : k = n := by omega
   have hpr := hp2.later hB
   go_wp2_with fail
   refine (KZ x k c ss wr.heap.size 1 _ (hpr.later (bl1 wr _)) (by omega) (by simp)).mono ?_
   rintro e w3 ⟨rfl, hb3⟩
   have h23 := (bl1 wr _).trans (hb3.mono (by simp))
   clear hb3
   have hall3 : Below bk w w3 := hall.trans (h23.mono (by have := h02.size; have := hB.size; omega))
   go_wp2
   go_ret
   exact ⟨aM (by rw [hbd.out, oO hok]; rfl), by rw [hbk]; exact hall3⟩
theorem subsRight_is (vid : Int) (rx : Option Addr) (rn rc : Nat) (rs : List Rg) (x : Option Addr) (n c : Nat) (ss : List Sb) (t : Bool) (h : mQ rn rs n ss = t) (w : World) (hR : RS w rx rn rs) (hrn : rn ≤ 4) (hp : SS w x n ss) (hn : n ≤ 6) (hnc : n ≤ c)
  (hm : ∀ i, i < n → (sbAt ss i).n ≤ 8) (hm2 : ∀ i, i < n → ∀ j, j < (sbAt ss i).n → (fcAt (sbAt ss i).fs j).n ≤ 4) :
  Calls Tryz.prog 113 #[.agg #[.int .i64 vid, .slice rx rn rc, .slice x n c]] w fun e w' => e = .returned (.bool t) ∧ Below w.heap.size w w' := by
 subst h
 exact A4 vid rx rn rc rs x n c ss w hR hrn hp hn hnc hm hm2
def aZ (vid : Int) (rn : Nat) (rs : List Rg) (sn : Nat) (ss : List Sb) : Int := if cT rn sn ss then 2 else if dE vid 1 65536 && nO rn rs && mQ rn rs sn ss then 0 else 1
theorem few (h : cT rn sn ss = false) : rn ≤ 4 ∧ sn ≤ 6 ∧ (∀ i, i < sn → (sbAt ss i).n ≤ 8) ∧ ∀ i, i < sn → ∀ j, j < (sbAt ss i).n → (fcAt (sbAt ss i).fs j).n ≤ 4 := by
 unfold cT at h
 simp only [Bool.or_eq_false_iff, decide_eq_false_iff_not] at h
 obtain ⟨⟨h1, h2⟩, h3⟩ := h
 have h4 : ∀ i, i < sn → eD (sbAt ss i) = false := fun i hi => by
  cases e : eD (sbAt ss i)
  ·rfl
  ·have := bD (f := fun i => eD (sbAt ss i)) hi e
   rw [this] at h3; cases h3
 have h5 : ∀ i, i < sn → (sbAt ss i).n ≤ 8 ∧ ∀ j, j < (sbAt ss i).n → (fcAt (sbAt ss i).fs j).n ≤ 4 := fun i hi => by
  have := h4 i hi
  unfold eD at this
  simp only [Bool.or_eq_false_iff, decide_eq_false_iff_not] at this
  refine ⟨by omega, fun j hj => ?_⟩
  by_cases e : 4 < (fcAt (sbAt ss i).fs j).n
  ·have h6 := bD (f := fun j => decide (4 < (fcAt (sbAt ss i).fs j).n)) hj (by simpa using e)
   rw [h6] at this; cases this.2
  ·omega
 exact ⟨by omega, by omega, fun i hi => (h5 i hi).1, fun i hi => (h5 i hi).2⟩
theorem tooMany_is (vid : Int) (rx sx : Option Addr) (rn rc sn sc : Nat) (ss : List Sb) (t : Bool) (h : cT rn sn ss = t) (w : World) (hr63 : rn ≤ 9223372036854775807) (hp : SS w sx sn ss) (hs : sn ≤ 9223372036854775807) :
  Calls Tryz.prog 111 #[.agg #[.int .i64 vid, .slice rx rn rc, .slice sx sn sc]] w fun e w' => e = .returned (.bool t) ∧ Below w.heap.size w w' := by
 subst h
 exact FL vid rx sx rn rc sn sc ss w hr63 hp hs
theorem checkV_any (vid : Int) (rx : Option Addr) (rn rc : Nat) (rs : List Rg) (sx : Option Addr) (sn sc : Nat) (ss : List Sb) (w : World) (hv : Vp w rx rn rc rs sx sn sc ss) (hrn : rn ≤ 9223372036854775807) (hsn : sn ≤ 9223372036854775807) (hrc : rc ≤ 9223372036854775807) :
  Calls Tryz.prog 59 #[.agg #[.int .i64 vid, .slice rx rn rc, .slice sx sn sc]] w fun e w' => e = .returned (.int .i64 (aZ vid rn rs sn ss)) ∧ Below w.heap.size w w' := by
 have hbd : Hid (aZ vid rn rs sn ss = if cT rn sn ss then 2 else if dE vid 1 65536 && nO rn rs && mQ rn rs sn ss then 0 else 1) := rfl
 go_enter Tryz.func59, Tryz.ntmps59
 go_upto_region 1 with fail
 obtain ⟨w2, hw2⟩ : ∃ w2, w2 = w.alloc (.cells #[.int .i64 vid, .slice rx rn rc, .slice sx sn sc] 41) := ⟨_, rfl⟩
 rw [← hw2]
 have h02 : Below w.heap.size w w2 := by rw [hw2]; exact bl1 w _
 have hbox : w2.heap[w.heap.size]? = some (.cells #[.int .i64 vid, .slice rx rn rc, .slice sx sn sc] 41) := by rw [hw2]; exact aB _ rfl
 clear hw2
 have hv2 := hv.later h02
 obtain ⟨hcl, -⟩ := aE hbox
 have q0 : w2.cell? ⟨w.heap.size, 0, none⟩ = some (.int .i64 vid) := hcl 0
 have q1 : w2.cell? ⟨w.heap.size, 1, none⟩ = some (.slice rx rn rc) := hcl 1
 have q2 : w2.cell? ⟨w.heap.size, 2, none⟩ = some (.slice sx sn sc) := hcl 2
 clear hcl hbox
 have hsz : Hid (w.heap.size ≤ w2.heap.size) := h02.size
 generalize hbk : w.heap.size = bk at *
 cases hmy : cT rn sn ss
 ·obtain ⟨f1, f2, f3, f4⟩ := few hmy
  go_wp2_with fail
  refine (tooMany_is _ _ _ _ _ _ _ _ _ hmy _ hrn hv2.subs hsn).mono ?_
  rintro e w3 ⟨rfl, hb3⟩
  have r0 := cell_later hb3 q0
  have r1 := cell_later hb3 q1
  have r2 := cell_later hb3 q2
  clear q0 q1 q2
  have hv3 := hv2.later hb3
  have h03 : Below bk w w3 := h02.trans (hb3.mono hsz.out)
  have hsz3 : Hid (bk ≤ w3.heap.size) := Nat.le_trans hsz.out hb3.size
  cases hw : dE vid 1 65536
  ·go_wp2_with (go_at_call 70; refine (isId_is _ _ hw _).mono ?_; rintro e w4 ⟨rfl, rfl⟩)
   go_ret
   exact ⟨cQ (by rw [hbd.out, hmy, hw]; rfl), by rw [hbk]; exact h03⟩
  ·go_wp2_with fail
   refine (isId_is _ _ hw _).mono ?_
   rintro e w4 ⟨rfl, rfl⟩
   cases hr : nO rn rs
   ·go_wp2_with (go_at_call 112; refine (rangesRight_is _ _ _ _ _ hr _ hv3.ranges (by omega) hv3.rcap hrc).mono ?_; rintro e w4 ⟨rfl, hb4⟩)
    go_ret
    exact ⟨cQ (by rw [hbd.out, hmy, hw, hr]; rfl), by rw [hbk]; exact h03.trans (hb4.mono hsz3.out)⟩
   ·go_wp2_with fail
    refine (rangesRight_is _ _ _ _ _ hr _ hv3.ranges (by omega) hv3.rcap hrc).mono ?_
    rintro e w4 ⟨rfl, hb4⟩
    have s0 := cell_later hb4 r0
    have s1 := cell_later hb4 r1
    have s2 := cell_later hb4 r2
    clear r0 r1 r2
    have hv4 := hv3.later hb4
    have h04 : Below bk w w4 := h03.trans (hb4.mono hsz3.out)
    have hsz4 : Hid (bk ≤ w4.heap.size) := Nat.le_trans hsz3.out hb4.size
    cases hs : mQ rn rs sn ss
    all_goals go_wp2_with (go_at_call 113; refine (subsRight_is _ _ _ _ _ _ _ _ _ _ hs _ hv4.ranges f1 hv4.subs f2 hv4.scap f3 f4).mono ?_; rintro e w5 ⟨rfl, hb5⟩)
    all_goals go_ret
    all_goals exact ⟨cQ (by rw [hbd.out, hmy, hw, hr, hs]; rfl), by rw [hbk]; exact h04.trans (hb5.mono hsz4.out)⟩
 ·go_wp2_with (go_at_call 111; refine (tooMany_is _ _ _ _ _ _ _ _ _ hmy _ hrn hv2.subs hsn).mono ?_; rintro e w3 ⟨rfl, hb3⟩)
  go_ret
  exact ⟨cQ (by rw [hbd.out, hmy]; rfl), by rw [hbk]; exact h02.trans (hb3.mono hsz.out)⟩
def OP (g : Nat) (cap : Array Value) (n : Nat) (ps : List Vn) (f : Nat → Bool) (w : World) : Prop :=
 ∀ i, i < n → ∀ W, Below w.heap.size w W → Calls Tryz.prog g (#[.agg #[.int .i64 (aC ps i).id, .slice (aC ps i).rx (aC ps i).rn (aC ps i).rc, .slice (aC ps i).sx (aC ps i).sn (aC ps i).sc]] ++ cap) W fun e W' => e = .returned (.bool (f i)) ∧ Below W.heap.size W W'
theorem iY (g : Nat) (cap : Array Value) (x : Option Addr) (n c : Nat) (ps : List Vn) (f : Nat → Bool) (w : World) (hp : VS w x n ps) (hn : n ≤ 1048576) (hF : OP g cap n ps f w)
  (hg : ∀ args W, (callFunc g args).run Tryz.prog W = .ok (.enter g args) W) :
  Calls Tryz.prog 33 #[.slice x n c, .func (.func g) #[] cap] w fun e w' => (∃ r : Int, e = .returned (.int .i64 r) ∧ ((∃ i : Nat, i < n ∧ f i = true ∧ (∀ j, j < i → f j = false) ∧ r = i) ∨ ((∀ j, j < n → f j = false) ∧ r = -1))) ∧ Below w.heap.size w w' := (nM.2.2.2.2.2.2.1 g cap x n c _ f w hp.idx (by omega) hF hg).1
theorem rK (g : Nat) (cap : Array Value) (x : Option Addr) (n c : Nat) (ps : List Vn) (f : Nat → Bool) (w : World) (hp : VS w x n ps) (hn : n ≤ 1048576) (hF : OP g cap n ps f w)
  (hg : ∀ args W, (callFunc g args).run Tryz.prog W = .ok (.enter g args) W) :
  Calls Tryz.prog 57 #[.slice x n c, .func (.func g) #[] cap] w fun e w' => e = .returned (.bool (aL n f)) ∧ Below w.heap.size w w' := (nM.2.2.2.2.2.2.1 g cap x n c _ f w hp.idx (by omega) hF hg).2
def OQ (g : Nat) (cap : Array Value) (n : Nat) (ps : List (Int × Int)) (f : Nat → Bool) (w : World) : Prop :=
 ∀ i, i < n → ∀ W, Below w.heap.size w W → Calls Tryz.prog g (#[.agg #[.int .i64 (dB ps i), .int .i64 (eA ps i)]] ++ cap) W fun e W' => e = .returned (.bool (f i)) ∧ Below W.heap.size W W'
theorem wM (g : Nat) (cap : Array Value) (x : Option Addr) (n c : Nat) (ps : List (Int × Int)) (f : Nat → Bool) (w : World) (hp : PS w x n ps) (hn : n ≤ 1048576) (hF : OQ g cap n ps f w)
  (hg : ∀ args W, (callFunc g args).run Tryz.prog W = .ok (.enter g args) W) :
  Calls Tryz.prog 115 #[.slice x n c, .func (.func g) #[] cap] w fun e w' => (∃ r : Int, e = .returned (.int .i64 r) ∧ ((∃ i : Nat, i < n ∧ f i = true ∧ (∀ j, j < i → f j = false) ∧ r = i) ∨ ((∀ j, j < n → f j = false) ∧ r = -1))) ∧ Below w.heap.size w w' := (nM.2.2.2.2.2.2.2 g cap x n c _ f w hp.idx (by omega) hF hg).1
theorem rL (g : Nat) (cap : Array Value) (x : Option Addr) (n c : Nat) (ps : List (Int × Int)) (f : Nat → Bool) (w : World) (hp : PS w x n ps) (hn : n ≤ 1048576) (hF : OQ g cap n ps f w)
  (hg : ∀ args W, (callFunc g args).run Tryz.prog W = .ok (.enter g args) W) :
  Calls Tryz.prog 63 #[.slice x n c, .func (.func g) #[] cap] w fun e w' => e = .returned (.bool (aL n f)) ∧ Below w.heap.size w w' := (nM.2.2.2.2.2.2.2 g cap x n c _ f w hp.idx (by omega) hF hg).2
theorem vQ (p r : Vn) (v : Int) (hv : D9 p.id r.id v) (bb kk : Nat) (w : World) (hby : w.cell? ⟨bb, 0, none⟩ = some (.func (.func 56) #[] #[])) :
  Calls Tryz.prog 110 #[.agg #[.int .i64 p.id, .slice p.rx p.rn p.rc, .slice p.sx p.sn p.sc], .agg #[.int .i64 r.id, .slice r.rx r.rn r.rc, .slice r.sx r.sn r.sc], .slice (some ⟨bb, 0, none⟩) 1 kk] w fun e w' => e = .returned (.int .i64 v) ∧ Below w.heap.size w w' := KK.2.2.2.2.2 VE.2.2.2.2.2 p r v hv bb kk w hby
def jL (ps : List Vn) (i : Nat) : Bool := i == 0 || decide ((aC ps (i - 1)).id < (aC ps i).id)
def dQ (ps : List Vn) : Bool := (List.range ps.length).all (jL ps)
theorem K3 (x : Option Addr) (n c : Nat) (ps : List Vn) (bb kk : Nat) (w : World) (hp : VS w x n ps) (hn : n ≤ 64) (hby : w.cell? ⟨bb, 0, none⟩ = some (.func (.func 56) #[] #[])) :
  Calls Tryz.prog 55 #[.slice x n c, .slice (some ⟨bb, 0, none⟩) 1 kk] w fun e w' => e = .returned (.bool (dQ ps)) ∧ Below w.heap.size w w' := by
 refine (BM.2.2.2.2.2 (aC ps) (fun i => decide ((aC ps i).id < (aC ps (i + 1)).id)) x n c bb 1 kk w hn (fun i hi => ?_) (fun i hi => ?_)).mono ?_
 ·obtain ⟨b, o, hx, d0, d1, d2⟩ := hp.cells i hi
  exact ⟨b, o, hx, by rintro (_ | _ | _ | q) hq <;> first | assumption | omega⟩
 ·obtain ⟨v, hv, hd⟩ := tU ((aC ps i).id) ((aC ps (i + 1)).id)
  exact ⟨v, hd, fun W hW => vQ _ _ v hv bb kk W (cell_later hW hby)⟩
 ·rintro e w1 ⟨t, rfl, hb, h⟩
  exact ⟨congrArg (fun t => Ending.returned (.bool t)) ((pM (R := jL ps) rfl (fun _ => rfl) h).trans (by rw [← hp.len]; rfl)), hb⟩
def aI (n : Nat) (vs : List Vn) (id : Int) : Int := match (List.range n).find? (fun i => (aC vs i).id == id) with | some i => i | none => -1
theorem rM {id : Int} (hi : i < n) (h : ((aC vs i).id == id) = true) (hno : ∀ j, j < i → ((aC vs j).id == id) = false) : aI n vs id = i := by
 unfold aI
 have : (List.range n).find? (fun i => (aC vs i).id == id) = some i := by
  rw [List.find?_range_eq_some]
  exact ⟨h, by simpa using hi, fun j hj => by simp [hno j hj]⟩
 rw [this]
theorem BX {id : Int} (hno : ∀ j, j < n → ((aC vs j).id == id) = false) : aI n vs id = -1 := by
 unfold aI
 have : (List.range n).find? (fun i => (aC vs i).id == id) = none := by
  rw [List.find?_eq_none]
  intro j hj
  simp [hno j (by simpa using hj)]
 rw [this]
theorem H0 (id : Int) (p : Vn) (b : Nat) (w : World) (h0 : w.cell? ⟨b, 0, none⟩ = some (.int .i64 id)) :
  Calls Tryz.prog 34 #[.agg #[.int .i64 p.id, .slice p.rx p.rn p.rc, .slice p.sx p.sn p.sc], .pointer (some ⟨b, 0, none⟩)] w fun e w' => e = .returned (.bool (p.id == id)) ∧ Below w.heap.size w w' := by
 have k0 : ∀ q, (w.alloc q).cell? ⟨b, 0, none⟩ = some (.int .i64 id) := fun q => cell_later (bl1 w q) h0
 go_enter Tryz.func34, Tryz.ntmps34
 go_wp2
 go_ret
 exact ⟨rfl, bl1 w _⟩
theorem FO (args : Array Value) (W : World) : (callFunc 34 args).run Tryz.prog W = .ok (.enter 34 args) W := by simp [go_sem]
theorem place_any (id : Int) (x : Option Addr) (n c : Nat) (vs : List Vn) (lx : Option Addr) (ln lc : Nat) (w : World) (hp : VS w x n vs) (hn : n ≤ 1048576) :
  Calls Tryz.prog 19 #[.agg #[.slice x n c, .slice lx ln lc], .int .i64 id] w fun e w' => e = .returned (.int .i64 (aI n vs id)) ∧ Below w.heap.size w w' := by
 go_enter Tryz.func19, Tryz.ntmps19
 go_wp2_with fail
 refine (iY 34 #[.pointer (some ⟨w.heap.size + 1, 0, none⟩)] x n c vs (fun i => (aC vs i).id == id) _ (hp.later (cC w _ _)) hn (fun i _ W hW => H0 id (aC vs i) (w.heap.size + 1) W (cell_later hW (by simp))) FO).mono ?_
 rintro e w1 ⟨⟨r, rfl, hr⟩, hb1⟩
 have hrv : r = aI n vs id := by
  rcases hr with ⟨i, hi, hf, hno, rfl⟩ | ⟨hno, rfl⟩
  ·exact (rM hi hf hno).symm
  ·exact (BX hno).symm
 subst hrv
 go_wp2
 go_ret
 exact ⟨rfl, (cC w _ _).trans (hb1.mono (by simp; omega))⟩
theorem sV (id : Int) (x : Option Addr) (n c : Nat) (vs : List Vn) (lx : Option Addr) (ln lc : Nat) (t : Int) (h : aI n vs id = t) (w : World) (hp : VS w x n vs) (hn : n ≤ 1048576) :
  Calls Tryz.prog 19 #[.agg #[.slice x n c, .slice lx ln lc], .int .i64 id] w fun e w' => e = .returned (.int .i64 t) ∧ Below w.heap.size w w' := by
 subst h
 exact place_any id x n c vs lx ln lc w hp hn
def kE (v : Vn) : Bool := !(aZ v.id v.rn v.rs v.sn v.ss == 0)
theorem yT (p : Vn) (w : World) (hr : p.rn ≤ 9223372036854775807) (hs : p.sn ≤ 9223372036854775807) (hrc : p.rc ≤ 9223372036854775807) (hv : Vp w p.rx p.rn p.rc p.rs p.sx p.sn p.sc p.ss) :
  Calls Tryz.prog 58 #[.agg #[.int .i64 p.id, .slice p.rx p.rn p.rc, .slice p.sx p.sn p.sc]] w fun e w' => e = .returned (.bool (kE p)) ∧ Below w.heap.size w w' := by
 go_enter Tryz.func58, Tryz.ntmps58
 go_wp2_with (go_at_call 59; refine (checkV_any _ _ _ _ _ _ _ _ _ _ (hv.later (bl1 w _)) hr hs hrc).mono ?_; rintro e w1 ⟨rfl, hb1⟩)
 go_ret
 exact ⟨aM (by unfold kE; simp [bne]), (bl1 w _).trans (hb1.mono (by simp))⟩
theorem wN (args : Array Value) (W : World) : (callFunc 58 args).run Tryz.prog W = .ok (.enter 58 args) W := by simp [go_sem]
def eL (n : Nat) (vs : List Vn) : Bool := dQ vs && !aL n fun i => kE (aC vs i)
theorem A5 (x : Option Addr) (n c : Nat) (vs : List Vn) (w : World) (hp : VS w x n vs) (hn : n ≤ 64) :
  Calls Tryz.prog 30 #[.slice x n c] w fun e w' => e = .returned (.bool (eL n vs)) ∧ Below w.heap.size w w' := by
 have hbd : Hid (eL n vs = (dQ vs && !aL n fun i => kE (aC vs i))) := rfl
 go_enter Tryz.func30, Tryz.ntmps30
 go_wp2_with fail
 refine (K3 x n c vs w.heap.size 1 _ (hp.later (bl1 w _)) hn (by simp)).mono ?_
 rintro e w1 ⟨rfl, hb1⟩
 have hB := (bl1 w _).trans (hb1.mono (by simp))
 clear hb1
 cases hr : dQ vs
 ·go_wp2
  go_ret
  exact ⟨aM (by rw [hbd.out, hr]; rfl), hB⟩
 ·have hp1 := hp.later hB
  go_wp2_with fail
  refine (rK 58 #[] x n c vs _ _ hp1 (by omega) (fun i hi W hW => yT (aC vs i) W (hp1.vps i hi).1 (hp1.vps i hi).2.1 (hp1.vps i hi).2.2.1 ((hp1.vps i hi).2.2.2.later hW)) wN).mono ?_
  rintro e w2 ⟨rfl, hb2⟩
  go_wp2
  go_ret
  exact ⟨aM (by rw [hbd.out, hr]; simp), hB.trans (hb2.mono hB.size)⟩
theorem vpcsRight_is (x : Option Addr) (n c : Nat) (vs : List Vn) (t : Bool) (h : eL n vs = t) (w : World) (hp : VS w x n vs) (hn : n ≤ 64) :
  Calls Tryz.prog 30 #[.slice x n c] w fun e w' => e = .returned (.bool t) ∧ Below w.heap.size w w' := by
 subst h
 exact A5 x n c vs w hp hn
def iS (rn : Nat) (rs : List Rg) (qn : Nat) (qs : List Rg) : Bool := aL rn fun i => aL qn fun j => fK (aJ rs i).a (aJ rs i).l (aJ qs j).a (aJ qs j).l
theorem H2 (c m : Int) (p : Rg) (b : Nat) (w : World) (h0 : w.cell? ⟨b, 0, none⟩ = some (.int .i64 c)) (h1 : w.cell? ⟨b, 1, none⟩ = some (.int .i64 m)) :
  Calls Tryz.prog 118 #[.agg #[.int .i64 p.a, .int .i64 p.l, .int .i64 p.p], .pointer (some ⟨b, 0, none⟩)] w fun e w' => e = .returned (.bool (fK c m p.a p.l)) ∧ Below w.heap.size w w' := by
 have k0 : ∀ q, (w.alloc q).cell? ⟨b, 0, none⟩ = some (.int .i64 c) := fun q => cell_later (bl1 w q) h0
 have k1 : ∀ q, (w.alloc q).cell? ⟨b, 1, none⟩ = some (.int .i64 m) := fun q => cell_later (bl1 w q) h1
 go_enter Tryz.func118, Tryz.ntmps118
 go_wp2_with (go_at_call 15; refine (meets_any _ _ _ _ _).mono ?_; rintro e w1 ⟨rfl, hb1⟩)
 go_ret
 exact ⟨rfl, (bl1 w _).trans (hb1.mono (by simp))⟩
theorem FP (args : Array Value) (W : World) : (callFunc 118 args).run Tryz.prog W = .ok (.enter 118 args) W := by simp [go_sem]
theorem K4 (p : Rg) (qx : Option Addr) (qn qc : Nat) (qs : List Rg) (b : Nat) (w : World) (hq : RS w qx qn qs) (hqn : qn ≤ 64) (h1 : w.cell? ⟨b, 1, none⟩ = some (.slice qx qn qc)) :
  Calls Tryz.prog 117 #[.agg #[.int .i64 p.a, .int .i64 p.l, .int .i64 p.p], .pointer (some ⟨b, 0, none⟩)] w fun e w' => e = .returned (.bool (aL qn fun j => fK p.a p.l (aJ qs j).a (aJ qs j).l)) ∧ Below w.heap.size w w' := by
 have k1 : ∀ q, (w.alloc q).cell? ⟨b, 1, none⟩ = some (.slice qx qn qc) := fun q => cell_later (bl1 w q) h1
 go_enter Tryz.func117, Tryz.ntmps117
 go_wp2_with fail
 refine (dV 118 #[.pointer (some ⟨w.heap.size, 0, none⟩)] qx qn qc qs (fun j => fK p.a p.l (aJ qs j).a (aJ qs j).l) _ (hq.later (bl1 w _)) (by omega) (fun i _ W hW => H2 p.a p.l (aJ qs i) w.heap.size W (cell_later hW (by simp)) (cell_later hW (by simp))) FP).mono ?_
 rintro e w1 ⟨rfl, hb1⟩
 go_wp2
 go_ret
 exact ⟨rfl, (bl1 w _).trans (hb1.mono (by simp))⟩
theorem H3 (args : Array Value) (W : World) : (callFunc 117 args).run Tryz.prog W = .ok (.enter 117 args) W := by simp [go_sem]
theorem K5 (p q : Vn) (w : World) (hp : RS w p.rx p.rn p.rs) (hq : RS w q.rx q.rn q.rs) (hpn : p.rn ≤ 64) (hqn : q.rn ≤ 64) :
  Calls Tryz.prog 65 #[.agg #[.int .i64 p.id, .slice p.rx p.rn p.rc, .slice p.sx p.sn p.sc], .agg #[.int .i64 q.id, .slice q.rx q.rn q.rc, .slice q.sx q.sn q.sc]] w fun e w' => e = .returned (.bool (iS p.rn p.rs q.rn q.rs)) ∧ Below w.heap.size w w' := by
 go_enter Tryz.func65, Tryz.ntmps65
 go_wp2_with fail
 refine (dV 117 #[.pointer (some ⟨w.heap.size + 1, 0, none⟩)] p.rx p.rn p.rc p.rs (fun i => aL q.rn fun j => fK (aJ p.rs i).a (aJ p.rs i).l (aJ q.rs j).a (aJ q.rs j).l) _ (hp.later (cC w _ _)) (by omega) (fun i _ W hW => K4 (aJ p.rs i) q.rx q.rn q.rc q.rs (w.heap.size + 1) W ((hq.later (cC w _ _)).later hW) hqn (cell_later hW (by simp))) H3).mono ?_
 rintro e w1 ⟨rfl, hb1⟩
 go_wp2
 go_ret
 exact ⟨rfl, (cC w _ _).trans (hb1.mono (by simp; omega))⟩
theorem OR (p q : Vn) (t : Bool) (h : iS p.rn p.rs q.rn q.rs = t) (w : World) (hp : RS w p.rx p.rn p.rs) (hq : RS w q.rx q.rn q.rs) (hpn : p.rn ≤ 64) (hqn : q.rn ≤ 64) :
  Calls Tryz.prog 65 #[.agg #[.int .i64 p.id, .slice p.rx p.rn p.rc, .slice p.sx p.sn p.sc], .agg #[.int .i64 q.id, .slice q.rx q.rn q.rc, .slice q.sx q.sn q.sc]] w fun e w' => e = .returned (.bool t) ∧ Below w.heap.size w w' := by
 subst h
 exact K5 p q w hp hq hpn hqn
theorem K6 (a b : Int) (w : World) :
  Calls Tryz.prog 61 #[.agg #[.int .i64 a, .int .i64 b]] w fun e w' => e = .returned (.int .i64 a) ∧ Below w.heap.size w w' := by
 go_enter Tryz.func61, Tryz.ntmps61
 go_wp2
 go_ret
 exact ⟨rfl, bl1 _ _⟩
theorem K7 (a b : Int) (w : World) :
  Calls Tryz.prog 62 #[.agg #[.int .i64 a, .int .i64 b]] w fun e w' => e = .returned (.int .i64 b) ∧ Below w.heap.size w w' := by
 go_enter Tryz.func62, Tryz.ntmps62
 go_wp2
 go_ret
 exact ⟨rfl, bl1 _ _⟩
theorem H4 (args : Array Value) (W : World) : (callFunc 61 args).run Tryz.prog W = .ok (.enter 61 args) W := by simp [go_sem]
theorem H5 (args : Array Value) (W : World) : (callFunc 62 args).run Tryz.prog W = .ok (.enter 62 args) W := by simp [go_sem]
def RF (a l c m v : Int) : Prop := (a < c ∧ v = -1) ∨ (a = c ∧ D9 l m v) ∨ (c < a ∧ v = 1)
theorem vT (a l c m v : Int) (hv : RF a l c m v) (bb k : Nat) (w : World) (hby : w.cell? ⟨bb, 0, none⟩ = some (.func (.func 61) #[] #[])) (hby2 : w.cell? ⟨bb, 1, none⟩ = some (.func (.func 62) #[] #[])) :
  Calls Tryz.prog 114 #[.agg #[.int .i64 a, .int .i64 l], .agg #[.int .i64 c, .int .i64 m], .slice (some ⟨bb, 0, none⟩) 2 k] w fun e w' => e = .returned (.int .i64 v) ∧ Below w.heap.size w w' := by
 have hcall := H4
 have hcall2 := H5
 go_enter Tryz.func114, Tryz.ntmps114
 go_wp2
 go_loopw [12] (fun i wr => ∃ j : Nat, (j = 0 ∨ (j = 1 ∧ a = c ∧ D9 l m v) ∨ (j = 2 ∧ v = 0)) ∧ i = .int .i64 j ∧ Below (w.heap.size + 1 + 1) ((w.alloc (.cells #[.int .i64 a, .int .i64 l] 93)).alloc (.cells #[.int .i64 c, .int .i64 m] 93)) wr) (fun i _ => 2 - (intOf i).toNat)
 case atStart => exact ⟨0, .inl rfl, rfl, zD⟩
 case round =>
  obtain ⟨j, hj, rfl, hB⟩ := hrel
  rcases hj with rfl | ⟨rfl, hac, hv2⟩ | ⟨rfl, hv0⟩
  ·obtain ⟨v1, hw⟩ : ∃ v1, D9 a c v1 := by
    rcases Int.lt_trichotomy a c with h | h | h
    ·exact ⟨-1, .inl ⟨h, rfl⟩⟩
    ·exact ⟨0, .inr (.inl ⟨h, rfl⟩)⟩
    ·exact ⟨1, .inr (.inr ⟨h, rfl⟩)⟩
   have hz := hB.size
   simp only [World.size_alloc] at hz
   have hbl : bb < w.heap.size := block_lt_of_cell hby
   have e0 : wr.cell? ⟨w.heap.size, 0, none⟩ = some (.int .i64 a) := (hB.cell (p := ⟨w.heap.size, 0, none⟩) (by show w.heap.size < _; omega)).trans (by simp)
   have e1 : wr.cell? ⟨w.heap.size, 1, none⟩ = some (.int .i64 l) := (hB.cell (p := ⟨w.heap.size, 1, none⟩) (by show w.heap.size < _; omega)).trans (by simp)
   have e2 : wr.cell? ⟨w.heap.size + 1, 0, none⟩ = some (.int .i64 c) := (hB.cell (p := ⟨w.heap.size + 1, 0, none⟩) (by show w.heap.size + 1 < _; omega)).trans (by simp)
   have e3 : wr.cell? ⟨w.heap.size + 1, 1, none⟩ = some (.int .i64 m) := (hB.cell (p := ⟨w.heap.size + 1, 1, none⟩) (by show w.heap.size + 1 < _; omega)).trans (by simp)
   have e4 : wr.cell? ⟨bb, 0, none⟩ = some (.func (.func 61) #[] #[]) := (hB.cell (p := ⟨bb, 0, none⟩) (by show bb < _; omega)).trans (cell_later (cC w _ _) hby)
   have e5 : wr.cell? ⟨bb, 1, none⟩ = some (.func (.func 62) #[] #[]) := (hB.cell (p := ⟨bb, 1, none⟩) (by show bb < _; omega)).trans (cell_later (cC w _ _) hby2)
   have g0 := Ws.here e0
   have g1 := Ws.here e1
   have g2 := Ws.here e2
   have g3 := Ws.here e3
   go_upto_region 4 with fail
   clear e0 e1 e2 e3 e4 e5
   refine aK wr.heap.size (by kernel_rfl) (by kernel_rfl) ?_
   repeat (go_big_quiet_step (first | (go_at_call 61; exact Calls.in_ws (zE) (K6 _ _ _)) | (go_at_call 159; exact Calls.in_ws_same (xO _ _ _ hw _))))
   refine wpQuiet_nil ?_
   rintro _ ⟨u, rfl⟩
   have hu := hB.trans (u.property.mono hz)
   generalize u.val = wu at hu ⊢
   clear u g0 g1 g2 g3
   have hv' : Hid (RF a l c m v) := hv
   clear hv
   rcases hw with ⟨h, rfl⟩ | ⟨h, rfl⟩ | ⟨h, rfl⟩
   ·obtain rfl : v = -1 := by
     rcases hv'.out with ⟨_, h2⟩ | ⟨h2, _⟩ | ⟨h2, _⟩
     ·exact h2
     ·omega
     ·omega
    go_wp2
    go_ret
    exact ⟨rfl, (cC w _ _).trans (hu.mono (by omega))⟩
   ·have h3 : D9 l m v := by
     rcases hv'.out with ⟨h2, _⟩ | ⟨_, h2⟩ | ⟨h2, _⟩
     ·omega
     ·exact h2
     ·omega
    go_wp2
    go_roundw
    case rel => exact ⟨1, .inr (.inl ⟨rfl, h, h3⟩), by go_num, hu⟩
    case measure => simp [intOf]
   ·obtain rfl : v = 1 := by
     rcases hv'.out with ⟨h2, _⟩ | ⟨h2, _⟩ | ⟨_, h2⟩
     ·omega
     ·omega
     ·exact h2
    go_wp2
    go_ret
    exact ⟨rfl, (cC w _ _).trans (hu.mono (by omega))⟩
  ·have hw := hv2
   clear hv
   have hz := hB.size
   simp only [World.size_alloc] at hz
   have hbl : bb < w.heap.size := block_lt_of_cell hby
   have e0 : wr.cell? ⟨w.heap.size, 0, none⟩ = some (.int .i64 a) := (hB.cell (p := ⟨w.heap.size, 0, none⟩) (by show w.heap.size < _; omega)).trans (by simp)
   have e1 : wr.cell? ⟨w.heap.size, 1, none⟩ = some (.int .i64 l) := (hB.cell (p := ⟨w.heap.size, 1, none⟩) (by show w.heap.size < _; omega)).trans (by simp)
   have e2 : wr.cell? ⟨w.heap.size + 1, 0, none⟩ = some (.int .i64 c) := (hB.cell (p := ⟨w.heap.size + 1, 0, none⟩) (by show w.heap.size + 1 < _; omega)).trans (by simp)
   have e3 : wr.cell? ⟨w.heap.size + 1, 1, none⟩ = some (.int .i64 m) := (hB.cell (p := ⟨w.heap.size + 1, 1, none⟩) (by show w.heap.size + 1 < _; omega)).trans (by simp)
   have e4 : wr.cell? ⟨bb, 0, none⟩ = some (.func (.func 61) #[] #[]) := (hB.cell (p := ⟨bb, 0, none⟩) (by show bb < _; omega)).trans (cell_later (cC w _ _) hby)
   have e5 : wr.cell? ⟨bb, 1, none⟩ = some (.func (.func 62) #[] #[]) := (hB.cell (p := ⟨bb, 1, none⟩) (by show bb < _; omega)).trans (cell_later (cC w _ _) hby2)
   have g0 := Ws.here e0
   have g1 := Ws.here e1
   have g2 := Ws.here e2
   have g3 := Ws.here e3
   go_upto_region 4 with fail
   clear e0 e1 e2 e3 e4 e5
   refine aK wr.heap.size (by kernel_rfl) (by kernel_rfl) ?_
   repeat (go_big_quiet_step (first | (go_at_call 62; exact Calls.in_ws (zE) (K7 _ _ _)) | (go_at_call 159; exact Calls.in_ws_same (xO _ _ _ hw _))))
   refine wpQuiet_nil ?_
   rintro _ ⟨u, rfl⟩
   have hu := hB.trans (u.property.mono hz)
   generalize u.val = wu at hu ⊢
   clear u g0 g1 g2 g3
   clear hv2
   rcases hw with ⟨h, rfl⟩ | ⟨h, rfl⟩ | ⟨h, rfl⟩
   ·go_wp2
    go_ret
    exact ⟨rfl, (cC w _ _).trans (hu.mono (by omega))⟩
   ·go_wp2
    go_roundw
    case rel => exact ⟨2, .inr (.inr ⟨rfl, by first | rfl | trivial⟩), by go_num, hu⟩
    case measure => simp [intOf]
   ·go_wp2
    go_ret
    exact ⟨rfl, (cC w _ _).trans (hu.mono (by omega))⟩
  ·subst hv0
   go_wp2
   go_ret
   exact ⟨rfl, (cC w _ _).trans (hB.mono (by omega))⟩
def jM (ps : List (Int × Int)) (i : Nat) : Bool := i == 0 || decide (dB ps (i - 1) < dB ps i ∨ (dB ps (i - 1) = dB ps i ∧ eA ps (i - 1) < eA ps i))
def fR (ps : List (Int × Int)) : Bool := (List.range ps.length).all (jM ps)
theorem OS (hk : k < ps.length) (h : jM ps k = false) : fR ps = false := by
 unfold fR
 rw [List.all_eq_false]
 exact ⟨k, by simpa using hk, by simp [h]⟩
theorem uO (h : ∀ j, j < ps.length → jM ps j = true) : fR ps = true := by
 unfold fR
 rw [List.all_eq_true]
 intro j hj
 exact h j (by simpa using hj)
theorem K8 (x : Option Addr) (n c : Nat) (ps : List (Int × Int)) (bb k : Nat) (w : World) (hp : PS w x n ps) (hn : n ≤ 64) (hby : w.cell? ⟨bb, 0, none⟩ = some (.func (.func 61) #[] #[])) (hby2 : w.cell? ⟨bb, 1, none⟩ = some (.func (.func 62) #[] #[])) :
  Calls Tryz.prog 60 #[.slice x n c, .slice (some ⟨bb, 0, none⟩) 2 k] w fun e w' => e = .returned (.bool (fR ps)) ∧ Below w.heap.size w w' := by
 go_enter Tryz.func60, Tryz.ntmps60
 go_wp2
 go_loopw [5] (fun i wr => ∃ j : Nat, 1 ≤ j ∧ j ≤ n + 1 ∧ i = .int .i64 j ∧ Below w.heap.size w wr ∧ (∀ i, i < j → i < n → jM ps i = true)) (fun i _ => n + 1 - (intOf i).toNat)
 case atStart => exact ⟨1, by omega, by omega, rfl, zD, fun i hi _ => by
  obtain rfl : i = 0 := by omega
  rfl⟩
 case round =>
  obtain ⟨j, hj1, hjn, rfl, hB, hok⟩ := hrel
  have hz := hB.size
  have hpl := hp.len
  by_cases hlt : j < n
  ·obtain ⟨i, rfl⟩ : ∃ i, j = i + 1 := ⟨j - 1, by omega⟩
   have hp2 := hp.later hB
   obtain ⟨b, o, rfl, c0, c1⟩ := hp2.cells i (by omega)
   obtain ⟨b2, o2, hbo, c2, c3⟩ := hp2.cells (i + 1) (by omega)
   simp only [Option.some.injEq, Addr.mk.injEq, and_true] at hbo
   obtain ⟨rfl, rfl⟩ := hbo
   have hby' := cell_later hB hby
   have hby2' := cell_later hB hby2
   have g0 := Ws.here c0
   have g1 := Ws.here c1
   have g2 := Ws.here c2
   have g3 := Ws.here c3
   have g4 := Ws.here hby'
   have g5 := Ws.here hby2'
   have hv : ∃ v, RF (dB ps i) (eA ps i) (dB ps (i + 1)) (eA ps (i + 1)) v ∧ (decide (dB ps i < dB ps (i + 1) ∨ (dB ps i = dB ps (i + 1) ∧ eA ps i < eA ps (i + 1))) = !(decide (0 ≤ v))) := by
    rcases Int.lt_trichotomy (dB ps i) (dB ps (i + 1)) with h | h | h
    ·exact ⟨-1, .inl ⟨h, rfl⟩, by simp [h]⟩
    ·rcases Int.lt_trichotomy (eA ps i) (eA ps (i + 1)) with h2 | h2 | h2
     ·exact ⟨-1, .inr (.inl ⟨h, .inl ⟨h2, rfl⟩⟩), by simp [h, h2]⟩
     ·exact ⟨0, .inr (.inl ⟨h, .inr (.inl ⟨h2, rfl⟩)⟩), by simp [h, h2]⟩
     ·exact ⟨1, .inr (.inl ⟨h, .inr (.inr ⟨h2, rfl⟩)⟩), by simp [h]; omega⟩
    ·exact ⟨1, .inr (.inr ⟨h, rfl⟩), by simp; omega⟩
   obtain ⟨v, hv, hd⟩ := hv
   go_upto_region 4 with fail
   clear c0 c1 c2 c3
   refine aK wr.heap.size (by kernel_rfl) (by kernel_rfl) ?_
   cases hg : decide (0 ≤ v)
   all_goals rw [hg] at hd
   all_goals repeat (go_big_quiet_step ((go_at_call 114; exact Calls.in_ws (zE) (vT _ _ _ _ _ hv _ _ _ (g4 _) (g5 _)))))
   all_goals refine wpQuiet_nil ?_
   all_goals rintro _ ⟨u, rfl⟩
   all_goals have hu := hB.trans (u.property.mono hz)
   all_goals generalize u.val = wu at hu ⊢
   all_goals clear u g0 g1 g2 g3 g4 g5
   all_goals go_wp2
   ·go_roundw
    case rel => exact ⟨i + 1 + 1, by omega, by omega, by go_num, hu, fun q hq hqn => by
     by_cases hq2 : q < i + 1
     ·exact hok q hq2 hqn
     ·obtain rfl : q = i + 1 := by omega
      simp only [jM, Nat.add_sub_cancel, hd]
      simp⟩
    case measure => simp [intOf]; omega
   ·go_ret
    exact ⟨aM (OS (k := i + 1) (by omega) (by simp only [jM, Nat.add_sub_cancel, hd]; simp)).symm, hu⟩
  ·go_wp2
   go_ret
   exact ⟨aM (uO (fun i hi => hok i (by omega) (by omega))).symm, hB⟩
def mR (vn : Nat) (vs : List Vn) (ls : List (Int × Int)) (i : Nat) : Bool := decide (eA ls i ≤ dB ls i) || decide (aI vn vs (dB ls i) < 0) || decide (aI vn vs (eA ls i) < 0)
theorem wO (a b : Int) (bb : Nat) (x : Option Addr) (n c : Nat) (vs : List Vn) (lx : Option Addr) (ln lc : Nat) (w : World) (hp : VS w x n vs) (hn : n ≤ 64) (h0 : w.cell? ⟨bb, 0, none⟩ = some (.slice x n c)) (h1 : w.cell? ⟨bb, 1, none⟩ = some (.slice lx ln lc)) :
  Calls Tryz.prog 64 #[.agg #[.int .i64 a, .int .i64 b], .pointer (some ⟨bb, 0, none⟩)] w fun e w' => e = .returned (.bool (decide (b ≤ a) || decide (aI n vs a < 0) || decide (aI n vs b < 0))) ∧ Below w.heap.size w w' := by
 go_enter Tryz.func64, Tryz.ntmps64
 go_upto_region 1 with fail
 obtain ⟨w2, hw2⟩ : ∃ w2, w2 = w.alloc (.cells #[.int .i64 a, .int .i64 b] 93) := ⟨_, rfl⟩
 rw [← hw2]
 have h02 : Below w.heap.size w w2 := by rw [hw2]; exact bl1 w _
 have hbox : w2.heap[w.heap.size]? = some (.cells #[.int .i64 a, .int .i64 b] 93) := by rw [hw2]; exact aB _ rfl
 clear hw2
 obtain ⟨hcl, -⟩ := aE hbox
 have q0 : w2.cell? ⟨w.heap.size, 0, none⟩ = some (.int .i64 a) := hcl 0
 have q1 : w2.cell? ⟨w.heap.size, 1, none⟩ = some (.int .i64 b) := hcl 1
 have q2 := cell_later h02 h0
 have q3 := cell_later h02 h1
 clear hcl hbox
 have hp2 := hp.later h02
 have hsz : Hid (w.heap.size ≤ w2.heap.size) := h02.size
 by_cases hab : b ≤ a
 ·have hge : decide (a ≥ b) = true := by simpa using hab
  go_wp2
  go_ret
  exact ⟨aM (by simp [hab]), h02⟩
 ·have hge : decide (a ≥ b) = false := by simpa using hab
  go_wp2_with fail
  refine (place_any a x n c vs lx ln lc _ hp2 (by omega)).mono ?_
  rintro e w3 ⟨rfl, hb3⟩
  have r1 := cell_later hb3 q1
  have r2 := cell_later hb3 q2
  have r3 := cell_later hb3 q3
  clear q0 q1 q2 q3
  have h03 : Below w.heap.size w w3 := h02.trans (hb3.mono hsz.out)
  by_cases hpa : aI n vs a < 0
  ·have hd : decide (aI n vs a < 0) = true := by simpa using hpa
   go_wp2
   go_ret
   exact ⟨aM (by simp [hpa]), h03⟩
  ·have hd : decide (aI n vs a < 0) = false := by simpa using hpa
   go_wp2_with (go_at_call 19; refine (place_any b x n c vs lx ln lc _ (hp2.later hb3) (by omega)).mono ?_; rintro e w4 ⟨rfl, hb4⟩)
   go_ret
   exact ⟨aM (by rw [show decide (b ≤ a) = false from hge, hd]; rfl), h03.trans (hb4.mono (Nat.le_trans hsz.out hb3.size))⟩
theorem uP (args : Array Value) (W : World) : (callFunc 64 args).run Tryz.prog W = .ok (.enter 64 args) W := by simp [go_sem]
def dC (vn : Nat) (vs : List Vn) (ln : Nat) (ls : List (Int × Int)) : Bool := fR ls && !aL ln (mR vn vs ls)
theorem yU (x : Option Addr) (n c : Nat) (vs : List Vn) (lx : Option Addr) (ln lc : Nat) (ls : List (Int × Int)) (w : World) (hp : VS w x n vs) (hn : n ≤ 64) (hl : PS w lx ln ls) (hln : ln ≤ 64) :
  Calls Tryz.prog 31 #[.agg #[.slice x n c, .slice lx ln lc]] w fun e w' => e = .returned (.bool (dC n vs ln ls)) ∧ Below w.heap.size w w' := by
 have hbd : Hid (dC n vs ln ls = (fR ls && !aL ln (mR n vs ls))) := rfl
 go_enter Tryz.func31, Tryz.ntmps31
 go_wp2_with fail
 refine (K8 lx ln lc ls (w.heap.size + 1) 2 _ (hl.later (cC w _ _)) hln (by simp) (by simp)).mono ?_
 rintro e w1 ⟨rfl, hb1⟩
 have hB := (cC w _ _).trans (hb1.mono (by simp; omega))
 have q0 : w1.cell? ⟨w.heap.size, 0, none⟩ = some (.slice x n c) := cell_later hb1 (by simp)
 have q1 : w1.cell? ⟨w.heap.size, 1, none⟩ = some (.slice lx ln lc) := cell_later hb1 (by simp)
 clear hb1
 cases hr : fR ls
 ·go_wp2
  go_ret
  exact ⟨aM (by rw [hbd.out, hr]; rfl), hB⟩
 ·have hp1 := hp.later hB
  have hl1 := hl.later hB
  go_wp2_with fail
  refine (rL 64 #[.pointer (some ⟨w.heap.size, 0, none⟩)] lx ln lc ls (mR n vs ls) _ hl1 (by omega) (fun i hi W hW => wO (dB ls i) (eA ls i) w.heap.size x n c vs lx ln lc W (hp1.later hW) hn (cell_later hW q0) (cell_later hW q1)) uP).mono ?_
  rintro e w2 ⟨rfl, hb2⟩
  go_wp2
  go_ret
  exact ⟨aM (by rw [hbd.out, hr]; simp), hB.trans (hb2.mono hB.size)⟩
theorem linksRight_is (x : Option Addr) (n c : Nat) (vs : List Vn) (lx : Option Addr) (ln lc : Nat) (ls : List (Int × Int)) (t : Bool) (h : dC n vs ln ls = t) (w : World) (hp : VS w x n vs) (hn : n ≤ 64) (hl : PS w lx ln ls) (hln : ln ≤ 64) :
  Calls Tryz.prog 31 #[.agg #[.slice x n c, .slice lx ln lc]] w fun e w' => e = .returned (.bool t) ∧ Below w.heap.size w w' := by
 subst h
 exact yU x n c vs lx ln lc ls w hp hn hl hln
open Go.RowKit
open Go.RowKit Go.Shelf Go.Maps
theorem gJ : Tryz.prog.underlying 73 = some (.map 3 3) := by kernel_rfl
structure GM (D : DataW Unit) (g : Int → Int) : Prop where
 isMap : IsMap D
 at_ : ∀ a : Int, D.atKey (.int .i64 a) (.lit (.int .i64 0)) = .lit (.int .i64 (g a))
theorem GM.empty : GM (.map []) (fun _ => 0) := ⟨isMap_empty, fun _ => rfl⟩
theorem GM.put {D : DataW Unit} {g : Int → Int} (h : GM D g) (a b : Int) : GM (D.put (.int .i64 a) (.lit (.int .i64 b))) (fun y => if y = a then b else g y) where
 isMap := h.isMap.put _ _
 at_ := fun y => by
  by_cases e : y = a
  ·subst e
   rw [atKey_put_same h.isMap (by trivial), if_pos rfl]
  ·rw [atKey_put_other (by intro e2; exact e (by cases e2; rfl)), h.at_ y, if_neg e]
def kF (g : Int → Int) : Nat → Int → Int → Prop
 | 0, x, h => g x = x ∧ h = x
 | n + 1, x, h => g x ≠ x ∧ kF g n (g x) h
def VG (g : Int → Int) : Nat → Int → Nat
 | 0, _ => 0
 | n + 1, x => if g x = x then 0 else VG g n (g x) + 1
theorem kF.dep_is {g : Int → Int} : ∀ {N n : Nat} {x h : Int}, kF g n x h → n ≤ N → VG g N x = n
 | 0, n, x, h, _, hn => by simp [VG]; omega
 | N + 1, 0, x, h, hl, _ => by simp [VG, hl.1]
 | N + 1, n + 1, x, h, hl, hn => by
  simp only [VG, if_neg hl.1]
  rw [kF.dep_is hl.2 (by omega)]
theorem kF.root {g : Int → Int} : ∀ {n : Nat} {x h : Int}, kF g n x h → g h = h
 | 0, x, h, hl => by rw [hl.2]; exact hl.1
 | n + 1, x, h, hl => kF.root hl.2
theorem kF.upd {g : Int → Int} (r0 : g h0 = h0) (r1 : g h1 = h1) (hne : h0 ≠ h1) : ∀ {n : Nat} {x h : Int}, kF g n x h → ∃ m, m ≤ n + 1 ∧ kF (fun y => if y = h0 then h1 else g y) m x (if h = h0 then h1 else h)
 | 0, x, h, hl => by
  obtain ⟨hx, rfl⟩ := hl
  by_cases e : h = h0
  ·subst e
   refine ⟨1, by omega, ?_⟩
   simp only [if_true]
   refine ⟨by simp only [if_true]; exact Ne.symm hne, ?_⟩
   simp only [if_true]
   exact ⟨by simp only [if_neg (Ne.symm hne)]; exact r1, rfl⟩
  ·refine ⟨0, by omega, ?_⟩
   simp only [if_neg e]
   exact ⟨by simp only [if_neg e]; exact hx, rfl⟩
 | n + 1, x, h, hl => by
  obtain ⟨hx, hl⟩ := hl
  have e : x ≠ h0 := fun e => hx (by rw [e, r0])
  obtain ⟨m, hm, h2⟩ := kF.upd r0 r1 hne hl
  refine ⟨m + 1, by omega, ?_, ?_⟩
  ·simp only [if_neg e]; exact hx
  ·simp only [if_neg e]; exact h2
theorem yV (bm m : Nat) (D : DataW Unit) (g : Int → Int) (n : Nat) (x h : Int) (w : World) (hO : w.ownsMap Tryz.prog 3 (plainElem Tryz.prog 3) bm m D) (hG : GM D g) (hx : (Lit.int .i64 x).wf = true) (hL : kF g n x h) :
  Calls Tryz.prog 21 #[.map (some bm), .int .i64 x] w fun e w' => e = .returned (.int .i64 h) ∧ w' = w := by
 have hG' : Hid (GM D g) := hG
 clear hG
 go_enter Tryz.func21, Tryz.ntmps21
 go_wp2
 go_loopw [1] (fun i wr => ∃ (y : Int) (k : Nat), k ≤ n ∧ i = .int .i64 y ∧ (Lit.int .i64 y).wf = true ∧ kF g k y h ∧ wr = w) (fun i _ => VG g n (intOf i))
 case atStart => exact ⟨x, n, zE, rfl, hx, hL, rfl⟩
 case round =>
  obtain ⟨y, k, hk, rfl, hy, hLy, rfl⟩ := hrel
  have hkey : keyOf Tryz.prog 3 (.int .i64 y) = some (.int .i64 y) := keyOf_int_mk under_int hy
  have hat := hG'.out.at_ y
  have hLy' : Hid (kF g k y h) := hLy
  rcases k with _ | k
  ·obtain ⟨hr, rfl⟩ := hLy
   have hne : (g h != h) = false := by simp [hr]
   go_wp2_with (first
    | (at_lookup; refine wpList_lookup_own_int _ rfl _ _ 73 rfl 3 3 .i64 key_law gJ under_int (zero_int _) bm _ _ rfl hO _ _ rfl hkey ?_; intro cc hat2 hwc; obtain rfl : cc = g h := (by rw [hat] at hat2; cases hat2; rfl))
    | go_in)
   go_ret
   exact ⟨rfl, rfl⟩
  ·obtain ⟨hr, hl2⟩ := hLy
   have hne : (g y != y) = true := by simpa using hr
   have hwg : (Lit.int .i64 (g y)).wf = true := by
    obtain ⟨c, _, h2, h3⟩ := hO.lookup_int key_law gJ under_int (zero_int _) hkey
    rw [hat] at h2
    cases h2
    exact h3
   go_wp2_with (first
    | (at_lookup; refine wpList_lookup_own_int _ rfl _ _ 73 rfl 3 3 .i64 key_law gJ under_int (zero_int _) bm _ _ rfl hO _ _ rfl hkey ?_; intro cc hat2 hwc; obtain rfl : cc = g y := (by rw [hat] at hat2; cases hat2; rfl); clear hat2 hwc)
    | go_in)
   go_roundw
   case rel => exact ⟨g y, k, by omega, rfl, hwg, hl2, by first | rfl | trivial⟩
   case measure =>
    simp only [intOf]
    rw [hl2.dep_is (by omega), hLy'.out.dep_is hk]
    omega
def cU (ls : List (Int × Int)) : Int → Int := ls.foldl (fun hd l x => if hd x = hd l.1 then hd l.2 else hd x) id
theorem lX (ls : List (Int × Int)) (l : Int × Int) (x : Int) : cU (ls ++ [l]) x = if cU ls x = cU ls l.1 then cU ls l.2 else cU ls x := by
 unfold cU
 rw [List.foldl_append]
 rfl
theorem yW (h : k < ls.length) : (dB ls k, eA ls k) = ls[k] := by simp [dB, eA, List.getD_eq_getElem?_getD, h]
theorem K9 (h : k < ls.length) (x : Int) : cU (ls.take (k + 1)) x = if cU (ls.take k) x = cU (ls.take k) (dB ls k) then cU (ls.take k) (eA ls k) else cU (ls.take k) x := by
 rw [List.take_add_one, List.getElem?_eq_getElem h, ← yW h, Option.toList_some, lX]
structure VH (ids : List Int) (hd : Int → Int) (g : Int → Int) : Prop where
 lead : ∀ i ∈ ids, ∃ n, kF g n i (hd i)
 mem : ∀ i ∈ ids, hd i ∈ ids
theorem VH.link {hd g : Int → Int} (h : VH ids hd g) {a b : Int} (ha : a ∈ ids) (hb : b ∈ ids) : VH ids (fun x => if hd x = hd a then hd b else hd x) (fun y => if y = hd a then hd b else g y) where
 lead := fun i hi => by
  obtain ⟨n, hn⟩ := h.lead i hi
  obtain ⟨na, hna⟩ := h.lead a ha
  obtain ⟨nb, hnb⟩ := h.lead b hb
  by_cases e : hd a = hd b
  ·have e1 : (fun y => if y = hd a then hd b else g y) = g := by
    funext y
    by_cases e2 : y = hd a
    ·rw [if_pos e2, e2, ← e, hna.root]
    ·rw [if_neg e2]
   refine ⟨n, ?_⟩
   rw [e1]
   by_cases e2 : hd i = hd a
   ·rw [if_pos e2, ← e, ← e2]; exact hn
   ·rw [if_neg e2]; exact hn
  ·obtain ⟨m, -, h2⟩ := hn.upd hna.root hnb.root e
   exact ⟨m, h2⟩
 mem := fun i hi => by
  by_cases e : hd i = hd a
  ·simp only [if_pos e]; exact h.mem b hb
  ·simp only [if_neg e]; exact h.mem i hi
def dG (vs : List Vn) : List Int := vs.map (·.id)
theorem gK (h : i < vs.length) : aC vs i = vs[i] := by simp [aC, List.getD_eq_getElem?_getD, h]
theorem xD (h : i < vs.length) : (aC vs i).id ∈ dG vs := by
 rw [gK h]
 exact List.mem_map_of_mem (List.getElem_mem h)
theorem xE {x : Int} (h : x ∈ dG vs) : ∃ i, i < vs.length ∧ (aC vs i).id = x := by
 obtain ⟨v, hv, rfl⟩ := List.mem_map.1 h
 obtain ⟨i, hi, rfl⟩ := List.getElem_of_mem hv
 exact ⟨i, hi, by rw [gK hi]⟩
theorem kG {k : TypeId} {R : Value → Option (DataW Unit × List MemPlace)} {D : DataW Unit} (h : w.ownsMap P k R b n D) (hb : Below w.heap.size w w') : w'.ownsMap P k R b n D := by
 obtain ⟨es, clock, h0, h1⟩ := h
 exact ⟨es, clock, aA hb h0, h1⟩
abbrev sW (x : Option Addr) (n c : Nat) (lx : Option Addr) (ln lc : Nat) : Obj := .cells #[.slice x n c, .slice lx ln lc] 29
theorem DF (x : Option Addr) (n c : Nat) (vs : List Vn) (lx : Option Addr) (ln lc : Nat) (ls : List (Int × Int)) (w : World) (hp : VS w x n vs) (hn : n ≤ 64) (hl : PS w lx ln ls) (hln : ln ≤ 64)
  (hid : ∀ i, i < n → 0 ≤ (aC vs i).id ∧ (aC vs i).id ≤ 1000000) (hlk : ∀ j, j < ln → dB ls j ∈ dG vs ∧ eA ls j ∈ dG vs) :
  Calls Tryz.prog 20 #[.agg #[.slice x n c, .slice lx ln lc]] w fun e w' => ∃ bm m D g, e = .returned (.map (some bm)) ∧ w.heap.size ≤ bm ∧ w'.ownsMap Tryz.prog 3 (plainElem Tryz.prog 3) bm m D ∧ GM D g ∧ VH (dG vs) (cU ls) g ∧ Below w.heap.size w w' := by
 have hmm := @run_makeMap Tryz.prog
 have hvl : Hid (vs.length = n) := hp.len
 have hll : Hid (ls.length = ln) := hl.len
 go_enter Tryz.func20, Tryz.ntmps20
 go_upto_region 1 with fail
 obtain ⟨w2, hw2⟩ : ∃ w2, w2 = w.alloc (sW x n c lx ln lc) := ⟨_, rfl⟩
 rw [← hw2]
 have h02 : Below w.heap.size w w2 := by rw [hw2]; exact bl1 w _
 have hbox : w2.heap[w.heap.size]? = some (sW x n c lx ln lc) := by rw [hw2]; exact aB _ rfl
 clear hw2
 have hp2 := hp.later h02
 have hl2 := hl.later h02
 obtain ⟨hcl, -⟩ := aE hbox
 have q0 : w2.cell? ⟨w.heap.size, 0, none⟩ = some (.slice x n c) := hcl 0
 have q1 : w2.cell? ⟨w.heap.size, 1, none⟩ = some (.slice lx ln lc) := hcl 1
 clear hcl hbox
 have hsz : Hid (w.heap.size ≤ w2.heap.size) := h02.size
 have a0 : (w2.alloc (.map #[] 0)).cell? ⟨w.heap.size, 0, none⟩ = some (.slice x n c) := cell_later (bl1 w2 _) q0
 generalize hbk : w.heap.size = bk at *
 go_wp2
 go_loopw [12] (fun i wr => ∃ (k : Nat) (D : DataW Unit) (g : Int → Int), k ≤ n ∧ i = .int .i64 k ∧ Below w2.heap.size w2 wr ∧ wr.ownsMap Tryz.prog 3 (plainElem Tryz.prog 3) w2.heap.size k D ∧ GM D g ∧ (∀ j, j < k → g (aC vs j).id = (aC vs j).id)) (fun i _ => n - (intOf i).toNat)
 case atStart => exact ⟨0, .map [], _, by omega, rfl, bl1 w2 _, World.ownsMap_made w2 _ _ _, GM.empty, fun j hj => by omega⟩
 case round =>
  obtain ⟨k, D, g, hk, rfl, hB, hO, hG, hgo⟩ := hrel
  by_cases hlt : k < n
  ·have hlt' : Hid (k < n) := hlt
   obtain ⟨b, o, rfl, c0, c1, c2⟩ := (hp2.later hB).cells k hlt
   have hkey : keyOf Tryz.prog 3 (.int .i64 (aC vs k).id) = some (.int .i64 (aC vs k).id) := keyOf_int_mk under_int (gI (hid k hlt).1 (hid k hlt).2)
   have hwf : (Lit.int .i64 (aC vs k).id).wf = true := gI (hid k hlt).1 (hid k hlt).2
   have hO2 := hO.alloc (.cells #[.int .i64 (aC vs k).id, .slice (aC vs k).rx (aC vs k).rn (aC vs k).rc, .slice (aC vs k).sx (aC vs k).sn (aC vs k).sc] 41)
   have hmx : k < maxLen := by unfold maxLen; omega
   have hP := hG.put (aC vs k).id (aC vs k).id
   have hgo' : Hid (∀ j, j < k → g (aC vs j).id = (aC vs j).id) := hgo
   clear hgo
   have hBa := hB.trans ((bl1 wr (.cells #[.int .i64 (aC vs k).id, .slice (aC vs k).rx (aC vs k).rn (aC vs k).rc, .slice (aC vs k).sx (aC vs k).sn (aC vs k).sc] 41)).mono hB.size)
   go_wp2_with (first
    | (at_mapUpdate; refine wpList_mapUpdate_own _ rfl _ _ _ 73 rfl 3 3 key_law gJ _ w2.heap.size _ _ rfl hO2 hmx _ _ _ rfl rfl hkey _ [] (plainElem_int under_int hwf) ?_; intro w1 hown1 hgrow1)
    | go_in)
   go_roundw
   case rel => exact ⟨k + 1, _, _, hlt'.out, by go_num, hBa.grown hgrow1 hBa.size (fun j hj => by cases hj; omega), hown1, hP, fun j hj => by
    by_cases e : (aC vs j).id = (aC vs k).id
    ·simp only [if_pos e]; exact e.symm
    ·simp only [if_neg e]
     by_cases hj2 : j < k
     ·exact hgo'.out j hj2
     ·obtain rfl : j = k := by omega
      exact absurd rfl e⟩
   case measure => simp [intOf]; have := hlt'.out; omega
  ·obtain rfl : k = n := by omega
   have r1 := cell_later hB q1
   have hGr0 : VH (dG vs) (cU (ls.take 0)) g := ⟨fun i hi => by
    obtain ⟨j, hj, rfl⟩ := xE hi
    exact ⟨0, hgo j (by rw [← hvl.out]; exact hj), rfl⟩, fun i hi => hi⟩
   clear hgo
   go_wp2
   obtain ⟨wo, rfl⟩ : ∃ wo, wo = wr := ⟨_, rfl⟩
   go_loopw [25] (fun i wr => ∃ (q : Nat) (D : DataW Unit) (g : Int → Int), q ≤ ln ∧ i = .int .i64 q ∧ Below w2.heap.size w2 wr ∧ wr.ownsMap Tryz.prog 3 (plainElem Tryz.prog 3) w2.heap.size (k + q) D ∧ GM D g ∧ VH (dG vs) (cU (ls.take q)) g) (fun i _ => ln - (intOf i).toNat)
   case atStart => exact ⟨0, D, g, by omega, rfl, hB, hO, hG, hGr0⟩
   case round =>
    clear hO hG hGr0 hB
    obtain ⟨q, D, g, hq, rfl, hB, hO, hG, hGr⟩ := hrel
    by_cases hq2 : q < ln
    ·have hq' : Hid (q < ln) := hq2
     obtain ⟨b2, o2, rfl, d0, d1⟩ := (hl2.later hB).cells q hq2
     obtain ⟨ha, hb⟩ := hlk q hq2
     have hst : Hid (∀ y, cU (ls.take (q + 1)) y = if cU (ls.take q) y = cU (ls.take q) (dB ls q) then cU (ls.take q) (eA ls q) else cU (ls.take q) y) := fun y => K9 (by rw [hll.out]; exact hq2) y
     have hwid : ∀ y, y ∈ dG vs → (Lit.int .i64 y).wf = true := fun y hy => by
      obtain ⟨j, hj, rfl⟩ := xE hy
      have := hid j (by rw [← hvl.out]; exact hj)
      exact gI this.1 this.2
     have hwa := hwid _ ha
     have hwb := hwid _ hb
     have hwA := hwid _ (hGr.mem _ ha)
     have hwB := hwid _ (hGr.mem _ hb)
     obtain ⟨na, hLa⟩ := hGr.lead _ ha
     obtain ⟨nb, hLb⟩ := hGr.lead _ hb
     have hGr2 := hGr.link ha hb
     have hP := hG.put (cU (ls.take q) (dB ls q)) (cU (ls.take q) (eA ls q))
     generalize dB ls q = la at *
     generalize eA ls q = lb at *
     generalize cU (ls.take q) = hd at *
     have hkey : keyOf Tryz.prog 3 (.int .i64 (hd la)) = some (.int .i64 (hd la)) := keyOf_int_mk under_int hwA
     have hmx : k + q < maxLen := by unfold maxLen; omega
     go_upto_region 10 with fail
     obtain ⟨w3, hw3⟩ : ∃ w3, w3 = wr.alloc (.cells #[.int .i64 la, .int .i64 lb] 93) := ⟨_, rfl⟩
     rw [← hw3]
     have h23 : Below wr.heap.size wr w3 := by rw [hw3]; exact bl1 wr _
     have hbox : w3.heap[wr.heap.size]? = some (.cells #[.int .i64 la, .int .i64 lb] 93) := by rw [hw3]; exact aB _ rfl
     clear hw3 d0 d1
     obtain ⟨hcl, -⟩ := aE hbox
     have t0 := Ws.here (v := .int .i64 la) (hcl 0)
     have t1 := Ws.here (v := .int .i64 lb) (hcl 1)
     clear hcl hbox
     have hO3 := kG hO h23
     have hB3 := hB.trans (h23.mono hB.size)
     have hcA : ∀ W, Below w3.heap.size w3 W → Calls Tryz.prog 21 #[.map (some w2.heap.size), .int .i64 la] W fun e w' => e = .returned (.int .i64 (hd la)) ∧ w' = W := fun W hW => yV _ _ D g na la _ _ (kG hO3 hW) hG hwa hLa
     have hcB : ∀ W, Below w3.heap.size w3 W → Calls Tryz.prog 21 #[.map (some w2.heap.size), .int .i64 lb] W fun e w' => e = .returned (.int .i64 (hd lb)) ∧ w' = W := fun W hW => yV _ _ D g nb lb _ _ (kG hO3 hW) hG hwb hLb
     refine jZ w3.heap.size 9 (by kernel_rfl) (by kernel_rfl) ?_
     simp only [List.take_succ_cons, List.take_zero, List.drop_succ_cons, List.drop_zero]
     repeat (go_big_quiet_step (first | (go_at_call_of 21 la; exact Calls.in_ws_same (hcA _ (Ws.property _))) | (go_at_call_of 21 lb; exact Calls.in_ws_same (hcB _ (Ws.property _)))))
     refine wpQuiet_nil ?_
     intro uu
     have hB8 := uu.property
     generalize uu.val = w8 at hB8 ⊢
     clear uu t0 t1
     have hO8 := kG hO3 hB8
     have hB8' := hB3.trans (hB8.mono hB3.size)
     go_wp2_with (first
      | (at_mapUpdate; refine wpList_mapUpdate_own _ rfl _ _ _ 73 rfl 3 3 key_law gJ _ w2.heap.size _ _ rfl hO8 hmx _ _ _ rfl rfl hkey _ [] (plainElem_int under_int hwB) ?_; intro w1 hown1 hgrow1)
      | go_in)
     go_roundw
     case rel => exact ⟨q + 1, _, _, hq'.out, by go_num, hB8'.grown hgrow1 hB8'.size (fun j hj => by cases hj; omega), hown1, hP, by
      have e : cU (ls.take (q + 1)) = fun y => if hd y = hd la then hd lb else hd y := funext hst.out
      rw [e]
      exact hGr2⟩
     case measure => simp [intOf]; have := hq'.out; omega
    ·obtain rfl : q = ln := by omega
     have e : ls.take q = ls := by rw [← hll.out, List.take_length]
     rw [e] at hGr
     go_wp2
     go_ret
     exact ⟨_, _, D, g, rfl, by rw [hbk]; exact hsz.out, hO, hG, hGr, by rw [hbk]; exact h02.trans (hB.mono hsz.out)⟩
def A6 (hd : Int → Int) (vs : List Vn) (i j : Nat) : Bool := (hd (aC vs i).id == hd (aC vs j).id) && iS (aC vs i).rn (aC vs i).rs (aC vs j).rn (aC vs j).rs
def DG (hd : Int → Int) (vs : List Vn) (i : Nat) : Bool := (List.range i).all fun j => !A6 hd vs i j
def sX (ls : List (Int × Int)) (n : Nat) (vs : List Vn) : Bool := (List.range n).all (DG (cU ls) vs)
abbrev T7 (p : Vn) : Obj := .cells #[.int .i64 p.id, .slice p.rx p.rn p.rc, .slice p.sx p.sn p.sc] 41
theorem H6 (x : Option Addr) (n c : Nat) (vs : List Vn) (lx : Option Addr) (ln lc : Nat) (ls : List (Int × Int)) (w : World) (hp : VS w x n vs) (hn : n ≤ 64) (hnc : n ≤ c) (hl : PS w lx ln ls) (hln : ln ≤ 64)
  (hid : ∀ i, i < n → 0 ≤ (aC vs i).id ∧ (aC vs i).id ≤ 1000000) (hrn : ∀ i, i < n → (aC vs i).rn ≤ 64) (hlk : ∀ j, j < ln → dB ls j ∈ dG vs ∧ eA ls j ∈ dG vs) :
  Calls Tryz.prog 32 #[.agg #[.slice x n c, .slice lx ln lc]] w fun e w' => e = .returned (.bool (sX ls n vs)) ∧ Below w.heap.size w w' := by
 have hvl : Hid (vs.length = n) := hp.len
 have hbd : Hid (sX ls n vs = (List.range n).all (DG (cU ls) vs)) := rfl
 go_enter Tryz.func32, Tryz.ntmps32
 go_upto_region 1 with fail
 obtain ⟨w2, hw2⟩ : ∃ w2, w2 = w.alloc (sW x n c lx ln lc) := ⟨_, rfl⟩
 rw [← hw2]
 have h02 : Below w.heap.size w w2 := by rw [hw2]; exact bl1 w _
 have hbox : w2.heap[w.heap.size]? = some (sW x n c lx ln lc) := by rw [hw2]; exact aB _ rfl
 clear hw2
 obtain ⟨hcl, -⟩ := aE hbox
 have q0 : w2.cell? ⟨w.heap.size, 0, none⟩ = some (.slice x n c) := hcl 0
 have q1 : w2.cell? ⟨w.heap.size, 1, none⟩ = some (.slice lx ln lc) := hcl 1
 clear hcl hbox
 have hsz : Hid (w.heap.size ≤ w2.heap.size) := h02.size
 have hp2 := hp.later h02
 have hl2 := hl.later h02
 generalize hbk : w.heap.size = bk at *
 go_wp2_with fail
 refine (DF x n c vs lx ln lc ls _ hp2 hn hl2 hln hid hlk).mono ?_
 rintro e w3 ⟨bm, m, D, g, rfl, hbm, hO, hG, hGr, hb3⟩
 have h03 : Below bk w w3 := h02.trans (hb3.mono hsz.out)
 have hsz3 : Hid (bk ≤ w3.heap.size) := Nat.le_trans hsz.out hb3.size
 have hp3 := hp2.later hb3
 have r0 := cell_later hb3 q0
 clear q0 q1 hb3 h02
 have hwid : ∀ i, i < n → (Lit.int .i64 (aC vs i).id).wf = true := fun i hi => gI (hid i hi).1 (hid i hi).2
 have hHd : ∀ W, Below w3.heap.size w3 W → ∀ i, i < n → Calls Tryz.prog 21 #[.map (some bm), .int .i64 (aC vs i).id] W fun e w' => e = .returned (.int .i64 (cU ls (aC vs i).id)) ∧ w' = W := fun W hW i hi => by
  obtain ⟨q, hq⟩ := hGr.lead _ (xD (by rw [hvl.out]; exact hi))
  exact yV _ _ D g q _ _ _ (kG hO hW) hG (hwid i hi) hq
 generalize hhd : cU ls = hd at *
 clear hG hGr hO
 go_wp2
 go_loopw [13] (fun i wr => ∃ k : Nat, k ≤ n ∧ i = .int .i64 k ∧ Below w3.heap.size w3 wr ∧ (∀ j, j < k → DG hd vs j = true)) (fun i _ => n - (intOf i).toNat)
 case atStart => exact ⟨0, by omega, rfl, zD, fun j hj => by omega⟩
 case round =>
  obtain ⟨k, hk, rfl, hB, hok⟩ := hrel
  have s0 := cell_later hB r0
  by_cases hlt : k < n
  ·have hlt' : Hid (k < n) := hlt
   have hpr := hp3.later hB
   have hpk := hpr.cells k hlt
   have hvk := (hpr.vps k hlt).2.2.2.ranges
   have hrk := hrn k hlt
   have hHk : ∀ W, Below w3.heap.size w3 W → Calls Tryz.prog 21 #[.map (some bm), .int .i64 (aC vs k).id] W fun e w' => e = .returned (.int .i64 (hd (aC vs k).id)) ∧ w' = W := fun W hW => hHd W hW k hlt
   have hcd : Hid (∀ j, A6 hd vs k j = ((hd (aC vs k).id == hd (aC vs j).id) && iS (aC vs k).rn (aC vs k).rs (aC vs j).rn (aC vs j).rs)) := fun j => rfl
   obtain ⟨b, o, rfl, c0, c1, c2⟩ := hpk
   go_upto_region 5 with fail
   obtain ⟨w4, hw4⟩ : ∃ w4, w4 = wr.alloc (T7 (aC vs k)) := ⟨_, rfl⟩
   rw [← hw4]
   have h34 : Below wr.heap.size wr w4 := by rw [hw4]; exact bl1 wr _
   have hbox : w4.heap[wr.heap.size]? = some (T7 (aC vs k)) := by rw [hw4]; exact aB _ rfl
   clear hw4 c0 c1 c2
   have s4 := cell_later h34 s0
   clear s0
   have hp4 := hpr.later h34
   have hv4 := hvk.later h34
   have hB4 := hB.trans (h34.mono hB.size)
   obtain ⟨hcl, -⟩ := aE hbox
   have t0 : w4.cell? ⟨wr.heap.size, 0, none⟩ = some (.int .i64 (aC vs k).id) := hcl 0
   have t1 : w4.cell? ⟨wr.heap.size, 1, none⟩ = some (.slice (aC vs k).rx (aC vs k).rn (aC vs k).rc) := hcl 1
   have t2 : w4.cell? ⟨wr.heap.size, 2, none⟩ = some (.slice (aC vs k).sx (aC vs k).sn (aC vs k).sc) := hcl 2
   clear hcl hbox hpr hvk
   generalize wr.heap.size = bv at *
   clear hB h34
   clear wr
   have hkc : (k : Int) ≤ c := by omega
   go_wp2
   go_loopw [23] (fun i wr => ∃ q : Nat, q ≤ k ∧ i = .int .i64 q ∧ Below w4.heap.size w4 wr ∧ (∀ j, j < q → A6 hd vs k j = false)) (fun i _ => k - (intOf i).toNat)
   case atStart => exact ⟨0, by omega, rfl, zD, fun j hj => by omega⟩
   case round =>
    obtain ⟨q, hq, rfl, hB, hno⟩ := hrel
    by_cases hq2 : q < k
    ·have hq' : Hid (q < k) := hq2
     have hpr := hp4.later hB
     obtain ⟨b2, o2, hbo, d0, d1, d2⟩ := hpr.cells q (by omega)
     simp only [Option.some.injEq, Addr.mk.injEq, and_true] at hbo
     obtain ⟨rfl, rfl⟩ := hbo
     have hvq := (hpr.vps q (by omega)).2.2.2.ranges
     have hrq := hrn q (by omega)
     have hHq : ∀ W, Below w3.heap.size w3 W → Calls Tryz.prog 21 #[.map (some bm), .int .i64 (aC vs q).id] W fun e w' => e = .returned (.int .i64 (hd (aC vs q).id)) ∧ w' = W := fun W hW => hHd W hW q (by omega)
     have hcq : Hid (A6 hd vs k q = ((hd (aC vs k).id == hd (aC vs q).id) && iS (aC vs k).rn (aC vs k).rs (aC vs q).rn (aC vs q).rs)) := hcd.out q
     have u0 := cell_later hB t0
     have u1 := cell_later hB t1
     have u2 := cell_later hB t2
     have hv5 := hv4.later hB
     go_upto_region 8 with fail
     obtain ⟨w5, hw5⟩ : ∃ w5, w5 = wr.alloc (T7 (aC vs q)) := ⟨_, rfl⟩
     rw [← hw5]
     have h45 : Below wr.heap.size wr w5 := by rw [hw5]; exact bl1 wr _
     have hbox : w5.heap[wr.heap.size]? = some (T7 (aC vs q)) := by rw [hw5]; exact aB _ rfl
     clear hw5 d0 d1 d2
     obtain ⟨hcl, -⟩ := aE hbox
     have k0 := Ws.here (v := .int .i64 (aC vs q).id) (hcl 0)
     have k1 := Ws.here (v := .slice (aC vs q).rx (aC vs q).rn (aC vs q).rc) (hcl 1)
     have k2 := Ws.here (v := .slice (aC vs q).sx (aC vs q).sn (aC vs q).sc) (hcl 2)
     have g0 := Ws.here (cell_later h45 u0)
     have g1 := Ws.here (cell_later h45 u1)
     have g2 := Ws.here (cell_later h45 u2)
     clear hcl hbox u0 u1 u2
     have hvq6 := hvq.later h45
     have hv6 := hv5.later h45
     have hB5 := hB.trans (h45.mono hB.size)
     have hB35 := hB4.trans (hB5.mono hB4.size)
     clear hpr hvq hv5
     generalize hik : hd (aC vs k).id = ik at hHk hcq
     generalize hiq : hd (aC vs q).id = iq at hHq hcq
     have hHk' : ∀ W, Below w5.heap.size w5 W → Calls Tryz.prog 21 #[.map (some bm), .int .i64 (aC vs k).id] W fun e w' => e = .returned (.int .i64 ik) ∧ w' = W := fun W hW => hHk W (hB35.trans (hW.mono hB35.size))
     have hHq' : ∀ W, Below w5.heap.size w5 W → Calls Tryz.prog 21 #[.map (some bm), .int .i64 (aC vs q).id] W fun e w' => e = .returned (.int .i64 iq) ∧ w' = W := fun W hW => hHq W (hB35.trans (hW.mono hB35.size))
     cases hde : (ik == iq)
     ·refine aK w5.heap.size (by kernel_rfl) (by kernel_rfl) ?_
      repeat (go_big_quiet_step (first | (go_at_call_of 21 ((aC vs k).id); exact Calls.in_ws_same (hHk' _ (Ws.property _))) | (go_at_call_of 21 ((aC vs q).id); exact Calls.in_ws_same (hHq' _ (Ws.property _)))))
      refine wpQuiet_nil ?_
      rintro _ ⟨u, rfl⟩
      have hu := hB5.trans (u.property.mono hB5.size)
      generalize u.val = wu at hu ⊢
      clear u k0 k1 k2 g0 g1 g2
      go_wp2
      go_roundw
      case rel => exact ⟨q + 1, hq'.out, by go_num, hu, fun j hj => by
       by_cases hj2 : j < q
       ·exact hno j hj2
       ·obtain rfl : j = q := by omega
        rw [hcq.out, hde]; rfl⟩
      case measure => simp [intOf]; have := hq'.out; omega
     ·cases hme : iS (aC vs k).rn (aC vs k).rs (aC vs q).rn (aC vs q).rs
      all_goals refine aK w5.heap.size (by kernel_rfl) (by kernel_rfl) ?_
      all_goals repeat (go_big_quiet_step (first | (go_at_call_of 21 ((aC vs k).id); exact Calls.in_ws_same (hHk' _ (Ws.property _))) | (go_at_call_of 21 ((aC vs q).id); exact Calls.in_ws_same (hHq' _ (Ws.property _))) | (go_at_call 65; exact Calls.in_ws (zE) (OR (aC vs k) (aC vs q) _ hme _ (hv6.later (Ws.property _)) (hvq6.later (Ws.property _)) hrk hrq))))
      all_goals refine wpQuiet_nil ?_
      all_goals rintro _ ⟨u, rfl⟩
      all_goals have hu := hB5.trans (u.property.mono hB5.size)
      all_goals generalize u.val = wu at hu ⊢
      all_goals clear u k0 k1 k2 g0 g1 g2
      ·go_wp2
       go_roundw
       case rel => exact ⟨q + 1, hq'.out, by go_num, hu, fun j hj => by
        by_cases hj2 : j < q
        ·exact hno j hj2
        ·obtain rfl : j = q := by omega
         rw [hcq.out, hde, hme]; rfl⟩
       case measure => simp [intOf]; have := hq'.out; omega
      ·have hfin := hB4.trans (hu.mono hB4.size)
       go_wp2
       go_ret
       exact ⟨aM (by rw [hbd.out, iK hlt'.out (iK hq'.out (by rw [hcq.out, hde, hme]; rfl))]), by rw [hbk]; exact h03.trans (hfin.mono hsz3.out)⟩
    ·obtain rfl : q = k := by omega
     have hfin := hB4.trans (hB.mono hB4.size)
     go_wp2
     go_roundw
     case rel => exact ⟨q + 1, hlt'.out, by go_num, hfin, fun j hj => by
      by_cases hj2 : j < q
      ·exact hok j hj2
      ·obtain rfl : j = q := by omega
       exact oO fun i hi => by rw [hno i hi]; rfl⟩
     case measure => simp [intOf]; have := hlt'.out; omega
  ·obtain rfl : k = n := by omega
   go_wp2
   go_ret
   exact ⟨aM (by rw [hbd.out, oO hok]), by rw [hbk]; exact h03.trans (hB.mono hsz3.out)⟩
theorem napart_is (x : Option Addr) (n c : Nat) (vs : List Vn) (lx : Option Addr) (ln lc : Nat) (ls : List (Int × Int)) (t : Bool) (h : sX ls n vs = t) (w : World) (hp : VS w x n vs) (hn : n ≤ 64) (hnc : n ≤ c) (hl : PS w lx ln ls) (hln : ln ≤ 64)
  (hid : ∀ i, i < n → 0 ≤ (aC vs i).id ∧ (aC vs i).id ≤ 1000000) (hrn : ∀ i, i < n → (aC vs i).rn ≤ 64) (hlk : ∀ j, j < ln → dB ls j ∈ dG vs ∧ eA ls j ∈ dG vs) :
  Calls Tryz.prog 32 #[.agg #[.slice x n c, .slice lx ln lc]] w fun e w' => e = .returned (.bool t) ∧ Below w.heap.size w w' := by
 subst h
 exact H6 x n c vs lx ln lc ls w hp hn hnc hl hln hid hrn hlk
def flatI (es : List Int) : List Value := es.map (Value.int .i64)
theorem uQ (es : List Int) : (flatI es).length = es.length := by simp [flatI]
theorem LA (es fs : List Int) : flatI (es ++ fs) = flatI es ++ flatI fs := by simp [flatI]
theorem uR (es : List Int) : ∀ u ∈ flatI es, u.oneCell' = true := fun u hu => by
 obtain ⟨e, -, rfl⟩ := List.mem_map.1 hu
 rfl
theorem FQ (h : i < es.length) : (flatI es)[i]? = some (.int .i64 (bP es i)) := by
 unfold flatI
 rw [List.getElem?_map, List.getElem?_eq_getElem h, FM h]
 rfl
def gL (w : World) (base : Nat) (v : Value) (es : List Int) : Prop := w.ownsRow base 3 1 v es.length (flatI es)
theorem gL.later (h : gL w base v es) (hb : Below w.heap.size w w') : gL w' base v es := jF h hb
theorem gL.kept (h : gL w base v es) (hg : w.grownBy w' (some g)) (hne : ∀ k, v.ownBlock = some k → k ≠ g) : gL w' base v es := iL h hg hne
theorem gL.low (h : gL w base v es) (hb : base' ≤ base) : gL w base' v es := jG h hb
theorem gL.lt (h : gL w base v es) : ∀ k, v.ownBlock = some k → base ≤ k ∧ k < w.heap.size := World.ownsRow.lt h
theorem gL.ne (h : gL w base v es) (hb : w.heap[b]? = some (.cells cs t fr)) (ht : t ≠ 3) : v.ownBlock ≠ some b := nZ h hb ht
theorem VP : Ty 3 42 1 (.int .i64 0) 8 := vG (by kernel_rfl) (by kernel_rfl) rfl (uR [(0 : Int)]) (by decide) (by decide)
theorem gL.mem (h : gL w base v es) : ∃ x c, v = .slice x es.length c ∧ es.length ≤ c ∧ c ≤ 9223372036854775807 ∧ (x = none → es.length = 0 ∧ c = 0) ∧ IS w x es.length es := by
 rcases h.2 with ⟨rfl, h0⟩ | ⟨g, cap, cur, rfl, -, -, h4, h5, -⟩
 ·exact ⟨none, 0, by rw [h0], by omega, by omega, fun _ => ⟨h0, rfl⟩, ⟨rfl, fun i hi => by omega⟩⟩
 ·refine ⟨some ⟨g, 0, none⟩, cap, rfl, h4, by unfold maxLen at h5; omega, fun e => by simp at e, ⟨rfl, fun i hi => ⟨g, 0, rfl, ?_⟩⟩⟩
  have := World.ownsRow.cells h (g := g) rfl i _ (FQ hi)
  rw [Addr.add_lit] at this
  exact this
def bU (n : Nat) (vs : List Vn) (ln : Nat) (ls : List (Int × Int)) : Int := if decide (6 < n) || decide (12 < ln) then 2 else if eL n vs && dC n vs ln ls && sX ls n vs then 0 else 1
theorem mS {id : Int} (hl : vs.length = n) (h : ¬ aI n vs id < 0) : id ∈ dG vs := by
 unfold aI at h
 split at h
 ·rename_i i he
  have h1 := List.find?_some he
  have h2 := List.mem_of_find?_eq_some he
  simp only [List.mem_range, beq_iff_eq] at h1 h2
  rw [← h1]
  exact xD (by rw [hl]; exact h2)
 ·omega
theorem LB {id : Int} {rs : List Rg} (h : aZ id rn rs sn ss = 0) : (1 ≤ id ∧ id ≤ 65536) ∧ rn ≤ 4 := by
 unfold aZ at h
 split at h
 ·omega
 ·rename_i hm
  split at h
  ·rename_i hw
   simp only [zH, dE, decide_eq_true_eq] at hw
   exact ⟨⟨hw.1.1.1, hw.1.1.2⟩, (few (by simpa using hm)).1⟩
  ·omega
theorem yX (h : eL n vs = true) : ∀ i, i < n → (0 ≤ (aC vs i).id ∧ (aC vs i).id ≤ 1000000) ∧ (aC vs i).rn ≤ 64 := fun i hi => by
 unfold eL at h
 rw [zH] at h
 have hb : kE (aC vs i) = false := by
  cases e : kE (aC vs i)
  ·rfl
  ·rw [bD (f := fun i => kE (aC vs i)) hi e] at h
   exact absurd h.2 (by simp)
 unfold kE at hb
 simp only [Bool.not_eq_false', beq_iff_eq] at hb
 have := LB hb
 omega
theorem uS (hl : vs.length = n) (h : dC n vs ln ls = true) : ∀ j, j < ln → dB ls j ∈ dG vs ∧ eA ls j ∈ dG vs := fun j hj => by
 unfold dC at h
 rw [zH] at h
 have hb : mR n vs ls j = false := by
  cases e : mR n vs ls j
  ·rfl
  ·rw [bD hj e] at h
   exact absurd h.2 (by simp)
 unfold mR at hb
 simp only [Bool.or_eq_false_iff, decide_eq_false_iff_not] at hb
 exact ⟨mS hl hb.1.2, mS hl hb.2⟩
theorem yY (x : Option Addr) (n c : Nat) (vs : List Vn) (lx : Option Addr) (ln lc : Nat) (ls : List (Int × Int)) (w : World) (hp : VS w x n vs) (hn : n ≤ 9223372036854775807) (hnc : n ≤ c) (hl : PS w lx ln ls) (hln : ln ≤ 9223372036854775807) :
  Calls Tryz.prog 18 #[.agg #[.slice x n c, .slice lx ln lc]] w fun e w' => e = .returned (.int .i64 (bU n vs ln ls)) ∧ Below w.heap.size w w' := by
 have hbd : Hid (bU n vs ln ls = if decide (6 < n) || decide (12 < ln) then 2 else if eL n vs && dC n vs ln ls && sX ls n vs then 0 else 1) := rfl
 have hvl : Hid (vs.length = n) := hp.len
 go_enter Tryz.func18, Tryz.ntmps18
 go_upto_region 1 with fail
 obtain ⟨w2, hw2⟩ : ∃ w2, w2 = w.alloc (sW x n c lx ln lc) := ⟨_, rfl⟩
 rw [← hw2]
 have h02 : Below w.heap.size w w2 := by rw [hw2]; exact bl1 w _
 have hbox : w2.heap[w.heap.size]? = some (sW x n c lx ln lc) := by rw [hw2]; exact aB _ rfl
 clear hw2
 obtain ⟨hcl, -⟩ := aE hbox
 have q0 : w2.cell? ⟨w.heap.size, 0, none⟩ = some (.slice x n c) := hcl 0
 have q1 : w2.cell? ⟨w.heap.size, 1, none⟩ = some (.slice lx ln lc) := hcl 1
 clear hcl hbox
 have hp2 := hp.later h02
 have hl2 := hl.later h02
 have hsz : Hid (w.heap.size ≤ w2.heap.size) := h02.size
 generalize hbk : w.heap.size = bk at *
 by_cases h6 : 6 < n
 ·have hd : (decide ((n : Int) > 6)) = true := by simp; omega
  go_wp2
  go_ret
  exact ⟨cQ (by rw [hbd.out, decide_eq_true h6]; rfl), by rw [hbk]; exact h02⟩
 ·have hd : (decide ((n : Int) > 6)) = false := by simp; omega
  have hd6 : Hid (decide (6 < n) = false) := by show _ = _; simp; omega
  by_cases h12 : 12 < ln
  ·have hd2 : (decide ((ln : Int) > 12)) = true := by simp; omega
   go_wp2
   go_ret
   exact ⟨cQ (by rw [hbd.out, decide_eq_true h12]; simp), by rw [hbk]; exact h02⟩
  ·have hd2 : (decide ((ln : Int) > 12)) = false := by simp; omega
   have hd12 : Hid (decide (12 < ln) = false) := by show _ = _; simp; omega
   cases hv : eL n vs
   ·go_wp2_with (go_at_call 30; refine (vpcsRight_is _ _ _ _ _ hv _ hp2 (by omega)).mono ?_; rintro e w3 ⟨rfl, hb3⟩)
    go_ret
    exact ⟨cQ (by rw [hbd.out, hd6.out, hd12.out, hv]; rfl), by rw [hbk]; exact h02.trans (hb3.mono hsz.out)⟩
   ·go_wp2_with fail
    refine (vpcsRight_is _ _ _ _ _ hv _ hp2 (by omega)).mono ?_
    rintro e w3 ⟨rfl, hb3⟩
    have h03 : Below bk w w3 := h02.trans (hb3.mono hsz.out)
    have hsz3 : Hid (bk ≤ w3.heap.size) := Nat.le_trans hsz.out hb3.size
    have r0 := cell_later hb3 q0
    have r1 := cell_later hb3 q1
    clear q0 q1
    have hp3 := hp2.later hb3
    have hl3 := hl2.later hb3
    clear hb3
    cases hli : dC n vs ln ls
    ·go_wp2_with (go_at_call 31; refine (linksRight_is _ _ _ _ _ _ _ _ _ hli _ hp3 (by omega) hl3 (by omega)).mono ?_; rintro e w4 ⟨rfl, hb4⟩)
     go_ret
     exact ⟨cQ (by rw [hbd.out, hd6.out, hd12.out, hv, hli]; rfl), by rw [hbk]; exact h03.trans (hb4.mono hsz3.out)⟩
    ·go_wp2_with fail
     refine (linksRight_is _ _ _ _ _ _ _ _ _ hli _ hp3 (by omega) hl3 (by omega)).mono ?_
     rintro e w4 ⟨rfl, hb4⟩
     have h04 : Below bk w w4 := h03.trans (hb4.mono hsz3.out)
     have hsz4 : Hid (bk ≤ w4.heap.size) := Nat.le_trans hsz3.out hb4.size
     have s0 := cell_later hb4 r0
     have s1 := cell_later hb4 r1
     clear r0 r1
     have hp4 := hp3.later hb4
     have hl4 := hl3.later hb4
     clear hb4
     have hfw := yX hv
     have hlm := uS hvl.out hli
     cases ha : sX ls n vs
     all_goals go_wp2_with (go_at_call 32; refine (napart_is _ _ _ _ _ _ _ _ _ ha _ hp4 (by omega) hnc hl4 (by omega) (fun i hi => (hfw i hi).1) (fun i hi => (hfw i hi).2) hlm).mono ?_; rintro e w5 ⟨rfl, hb5⟩)
     all_goals go_ret
     all_goals exact ⟨cQ (by rw [hbd.out, hd6.out, hd12.out, hv, hli, ha]; rfl), by rw [hbk]; exact h04.trans (hb5.mono hsz4.out)⟩
theorem fX (x : Option Addr) (n c : Nat) (vs : List Vn) (lx : Option Addr) (ln lc : Nat) (ls : List (Int × Int)) (t : Int) (h : bU n vs ln ls = t) (w : World) (hp : VS w x n vs) (hn : n ≤ 9223372036854775807) (hnc : n ≤ c) (hl : PS w lx ln ls) (hln : ln ≤ 9223372036854775807) :
  Calls Tryz.prog 18 #[.agg #[.slice x n c, .slice lx ln lc]] w fun e w' => e = .returned (.int .i64 t) ∧ Below w.heap.size w w' := by
 subst h
 exact yY x n c vs lx ln lc ls w hp hn hnc hl hln
theorem cM : (List.range n).all f = true ↔ ∀ i, i < n → f i = true := by
 rw [List.all_eq_true]
 exact ⟨fun h i hi => h i (by simpa using hi), fun h i hi => h i (by simpa using hi)⟩
theorem cG : aL n f = false ↔ ∀ i, i < n → f i = false := by
 constructor
 ·intro h i hi
  cases e : f i
  ·rfl
  ·rw [bD hi e] at h; cases h
 ·exact fL
theorem yZ (h : lF ns = true) : ∀ (i j : Nat), i < j → j < ns.length → bP ns i < bP ns j
 | i, 0, hij, _ => by omega
 | i, j + 1, hij, hj => by
  have h1 : sP ns (j + 1) = true := by
   unfold lF at h
   exact cM.1 h (j + 1) hj
  unfold sP at h1
  simp only [Nat.add_sub_cancel, Bool.or_eq_true, decide_eq_true_eq, beq_iff_eq] at h1
  have h2 : bP ns j < bP ns (j + 1) := by
   rcases h1 with h1 | h1
   ·omega
   ·exact h1
  by_cases e : i < j
  ·have := yZ h i j e (by omega)
   omega
  ·obtain rfl : i = j := by omega
   exact h2
theorem IS.flat_cells (h : IS w (some ad) n es) : ∀ j u, (flatI es)[j]? = some u → w.cell? (ad.add j) = some u := by
 intro j u hj
 have hj2 : j < es.length := by
  by_cases e : j < es.length
  ·exact e
  ·rw [List.getElem?_eq_none (by rw [uQ]; omega)] at hj; cases hj
 rw [FQ hj2] at hj
 obtain ⟨b, o, hx, d⟩ := h.cells j (by rw [← h.len]; exact hj2)
 simp only [Option.some.injEq] at hx
 subst hx
 rw [nV, d]
 exact hj
theorem IS.rw (h : IS w x n es) : Rw w x n 1 (flatI es) :=
 ⟨by rw [uQ, h.len]; omega, fun h0 e => (by obtain ⟨b, o, hx, -⟩ := h.cells 0 h0; rw [e] at hx; cases hx), uR es, fun ad hx => by subst hx; exact h.flat_cells⟩
theorem H7 (x : Option Addr) (n c : Nat) (es : List Int) (w : World) (hl : IS w x n es) (hn : n ≤ 1048576) :
  Calls Tryz.prog 170 #[.slice x n c] w fun e w' => ∃ v, e = .returned v ∧ gL w' w.heap.size v es ∧ Below w.heap.size w w' := by
 obtain rfl := hl.len
 exact oB.2.2.2.2.2.1 _ _ VP x _ c _ w hl.rw hn
def withA (f : Fc) (x : Option Addr) (n c : Nat) (ns : List Int) : Fc := ⟨f.id, x, n, c, ns⟩
theorem kH {f : Fc} (hi : i < fs.length) : fcAt (fs.set i f) j = if i = j then f else fcAt fs j := by
 unfold fcAt
 rw [zF, zF, List.getElem?_set]
 by_cases h : i = j
 ·subst h; rw [if_pos rfl, if_pos rfl, if_pos hi]; rfl
 ·rw [if_neg h, if_neg h]
theorem LD (fs : List Fc) (i : Nat) (x : Option Addr) (n c : Nat) (ns : List Int) (hi : i < fs.length) : (flatF fs).set (i * 2 + 1) (.slice x n c) = flatF (fs.set i (withA (fcAt fs i) x n c ns)) := by
 refine List.ext_getElem? fun j => ?_
 by_cases hj : j < fs.length * 2
 ·have e : j = (j / 2) * 2 + j % 2 := by omega
  have hq : j / 2 < fs.length := by omega
  rw [e, sO _ _ _ (by rw [List.length_set]; exact hq) (by omega), kH hi, List.getElem?_set]
  by_cases h1 : i = j / 2
  ·rw [if_pos h1]
   by_cases h2 : j % 2 = 1
   ·rw [if_pos (by omega), if_pos (by rw [iD]; omega), h2]
    rfl
   ·rw [if_neg (by omega), sO _ _ _ hq (by omega), h1]
    have h3 : j % 2 < 1 := by omega
    generalize j % 2 = r at h3
    rcases r with _ | r
    all_goals first | rfl | omega
  ·rw [if_neg h1, if_neg (by omega), sO _ _ _ hq (by omega)]
 ·rw [List.getElem?_eq_none (by rw [List.length_set, iD]; omega), List.getElem?_eq_none (by rw [iD, List.length_set]; omega)]
theorem eB.set (h : eB w base (.slice (some ⟨g, 0, none⟩) n cap) fs) (i : Nat) (hi : i < fs.length) (x : Option Addr) (m c : Nat) (ns : List Int) :
  eB (w.setCell ⟨g, i * 2 + 1, none⟩ (.slice x m c)) base (.slice (some ⟨g, 0, none⟩) n cap) (fs.set i (withA (fcAt fs i) x m c ns)) := by
 rcases h.2 with ⟨hv, -⟩ | ⟨g', cap', cur, hv, h1, h2, h3, h4, h5, h6⟩
 ·simp at hv
 ·simp only [Value.slice.injEq, Option.some.injEq, Addr.mk.injEq] at hv
  obtain ⟨⟨rfl, -⟩, rfl, rfl⟩ := hv
  refine ⟨iD _, .inr ⟨g, cap, cur.setIfInBounds (i * 2 + 1) (.slice x m c), by rw [List.length_set], h1, heap_setCell_same w g _ _ _ _ h2, by rw [List.length_set]; exact h3, h4, by simpa using h5, ?_⟩⟩
  rw [List.length_set, Array.toList_setIfInBounds, List.take_set, h6, LD fs i x m c ns hi]
theorem eB.frozen (h : eB w base (.slice (some ⟨g, 0, none⟩) n cap) fs) (i : Nat) : w.frozen? ⟨g, i, none⟩ = false := mJ h i
theorem eB.block (h : eB w base (.slice (some ⟨g, 0, none⟩) n cap) fs) : base ≤ g ∧ ∃ cur, w.heap[g]? = some (.cells cur 80) := pH h
theorem gL.is (h : gL w base (.slice x n c) es) : IS w x n es ∧ es.length = n ∧ n ≤ c ∧ c ≤ 9223372036854775807 := by
 obtain ⟨x', c', hv, h1, h2, -, h4⟩ := h.mem
 simp only [Value.slice.injEq] at hv
 obtain ⟨rfl, rfl, rfl⟩ := hv
 exact ⟨h4, rfl, h1, h2⟩
theorem IS.set {o : Nat} (h : IS w x n ns) (hx : ∀ q, x = some q → 0 < n → q.block ≠ g) : IS (w.setCell ⟨g, o, none⟩ v) x n ns where
 len := h.len
 cells := fun i hi => by
  obtain ⟨b, of, he, c0⟩ := h.cells i hi
  exact ⟨b, of, he, (bC (hx _ he (by omega))).trans c0⟩
structure mT (w : World) (base : Nat) (v : Value) (fs : List Fc) (k : Nat) : Prop where
 row : eB w base v fs
 own : ∀ i, i < k → gL w base (.slice (fcAt fs i).x (fcAt fs i).n (fcAt fs i).c) (fcAt fs i).ns
 rest : ∀ i, k ≤ i → i < fs.length → IS w (fcAt fs i).x (fcAt fs i).n (fcAt fs i).ns ∧ (fcAt fs i).n ≤ (fcAt fs i).c ∧ (fcAt fs i).n ≤ 64 ∧ (∀ q, (fcAt fs i).x = some q → 0 < (fcAt fs i).n → q.block < base)
def FR (f g : Fc) : Prop := f.id = g.id ∧ f.n = g.n ∧ f.ns = g.ns
def bV (fs gs : List Fc) : Prop := fs.length = gs.length ∧ ∀ i, i < fs.length → FR (fcAt fs i) (fcAt gs i)
theorem FR.refl (f : Fc) : FR f f := ⟨rfl, rfl, rfl⟩
theorem bV.refl (fs : List Fc) : bV fs fs := ⟨rfl, fun _ _ => FR.refl _⟩
theorem mT.later (h : mT w base v fs k) (hb : Below w.heap.size w w') : mT w' base v fs k :=
 ⟨h.row.later hb, fun i hi => (h.own i hi).later hb, fun i hi hi2 => by
  obtain ⟨g1, g2⟩ := h.rest i hi hi2
  exact ⟨g1.later hb, g2⟩⟩
theorem mT.low (h : mT w base v fs fs.length) (hb : base' ≤ base) : mT w base' v fs fs.length :=
 ⟨h.row.low hb, fun i hi => (h.own i hi).low hb, fun i hi hi2 => by omega⟩
theorem mT.kept (h : mT w base v fs fs.length) (hg : w.grownBy w' (some g)) (hr : ∀ k, v.ownBlock = some k → k ≠ g) (ho : ∀ i, i < fs.length → ∀ k, (Value.slice (fcAt fs i).x (fcAt fs i).n (fcAt fs i).c).ownBlock = some k → k ≠ g) : mT w' base v fs fs.length :=
 ⟨h.row.kept hg hr, fun i hi => (h.own i hi).kept hg (ho i hi), fun i hi hi2 => by omega⟩
theorem mT.start (hk : tL w x n fs) (hm : ∀ i, i < n → (fcAt fs i).n ≤ 64) (hb : Below w.heap.size w w') (h : eB w' base v fs) (hw2 : w.heap.size ≤ base) : mT w' base v fs 0 where
 row := h
 own := fun i hi => by omega
 rest := fun i _ hi => by
  have hin : i < n := by rw [← hk.len]; exact hi
  obtain ⟨g1, g2, g3⟩ := hk.addrs i hin
  refine ⟨g3.later hb, g1, hm i hin, fun q hq h0 => ?_⟩
  obtain ⟨b, o, hx, c0⟩ := g3.cells 0 h0
  rw [hq] at hx
  cases hx
  exact Nat.lt_of_lt_of_le (block_lt_of_cell c0) hw2
theorem mT.step (h : mT W base (.slice (some ⟨g, 0, none⟩) n cap) fs k) (hk : k < fs.length) (hb : Below W.heap.size W W1) (ho : gL W1 W.heap.size (.slice x' (fcAt fs k).ns.length c') (fcAt fs k).ns) (hwb : base ≤ W.heap.size) :
  mT (W1.setCell ⟨g, k * 2 + 1, none⟩ (.slice x' (fcAt fs k).ns.length c')) base (.slice (some ⟨g, 0, none⟩) n cap) (fs.set k (withA (fcAt fs k) x' (fcAt fs k).ns.length c' (fcAt fs k).ns)) (k + 1) := by
 have hr := h.row.later hb
 obtain ⟨hbg, cur, hg⟩ := hr.block
 have hall : ∀ i, i < k + 1 → gL W1 base (.slice (fcAt (fs.set k (withA (fcAt fs k) x' (fcAt fs k).ns.length c' (fcAt fs k).ns)) i).x (fcAt (fs.set k (withA (fcAt fs k) x' (fcAt fs k).ns.length c' (fcAt fs k).ns)) i).n (fcAt (fs.set k (withA (fcAt fs k) x' (fcAt fs k).ns.length c' (fcAt fs k).ns)) i).c) (fcAt (fs.set k (withA (fcAt fs k) x' (fcAt fs k).ns.length c' (fcAt fs k).ns)) i).ns := fun i hi => by
  rw [kH hk]
  by_cases e : k = i
  ·rw [if_pos e]; exact ho.low hwb
  ·rw [if_neg e]; exact (h.own i (by omega)).later hb
 refine ⟨hr.set k hk x' _ c' _, fun i hi => (hall i hi).kept (aH _ _ _ _) (fun q hq e => by subst e; exact (hall i hi).ne hg (by decide) hq), fun i hi hi2 => ?_⟩
 rw [List.length_set] at hi2
 rw [kH hk, if_neg (by omega)]
 obtain ⟨g1, g2, g3, g4⟩ := h.rest i (by omega) hi2
 exact ⟨(g1.later hb).set (fun q hq h0 => by have := g4 q hq h0; omega), g2, g3, g4⟩
theorem bV.set (h : bV fs gs) (hk : k < gs.length) (hn : (fcAt gs k).ns.length = (fcAt gs k).n) : bV fs (gs.set k (withA (fcAt gs k) x (fcAt gs k).ns.length c (fcAt gs k).ns)) := by
 refine ⟨by rw [List.length_set]; exact h.1, fun i hi => ?_⟩
 have hs := h.2 i hi
 rw [kH hk]
 by_cases e : k = i
 ·subst e
  rw [if_pos rfl]
  obtain ⟨a1, a2, a3⟩ := hs
  exact ⟨a1, a2.trans hn.symm, a3⟩
 ·rw [if_neg e]; exact hs
theorem zL (x : Option Addr) (n c : Nat) (fs : List Fc) (w : World) (hp : tL w x n fs) (hn : n ≤ 64) (hm : ∀ i, i < n → (fcAt fs i).n ≤ 64) :
  Calls Tryz.prog 125 #[.slice x n c] w fun e w' => ∃ v gs, e = .returned v ∧ bV fs gs ∧ mT w' w.heap.size v gs gs.length ∧ Below w.heap.size w w' := by
 go_enter Tryz.func125, Tryz.ntmps125
 go_wp2_with fail
 refine (HV x n c fs w hp (by omega)).mono ?_
 rintro e w1 ⟨v, rfl, hO, hb1⟩
 have hk0 : mT w1 w.heap.size v fs 0 := mT.start hp hm hb1 hO (zE)
 obtain ⟨xv, cv, rfl, hv1, hv2, hv3, hv4⟩ := hO.mem
 go_wp2
 go_loopw [9] (fun i wr => ∃ (q : Nat) (gs : List Fc), q ≤ fs.length ∧ i = .int .i64 q ∧ bV fs gs ∧ mT wr w.heap.size (.slice xv fs.length cv) gs q ∧ Below w.heap.size w wr) (fun i _ => fs.length - (intOf i).toNat)
 case atStart => exact ⟨0, fs, by omega, rfl, bV.refl _, hk0, hb1⟩
 case round =>
  obtain ⟨q, gs, hq, rfl, hs, hQ, hBr⟩ := hrel
  by_cases hlt : q < fs.length
  ·have hlq : q < gs.length := by rw [← hs.1]; exact hlt
   have hlt' : Hid (q < fs.length) := hlt
   obtain ⟨x2, c2, he2, -, -, -, hm2⟩ := hQ.row.mem
   simp only [Value.slice.injEq] at he2
   obtain ⟨rfl, -, rfl⟩ := he2
   obtain ⟨b2, o2, he3, -, c1⟩ := hm2 q hlq
   rcases hQ.row.2 with ⟨hv, -⟩ | ⟨g, cap, cur, hv, hg1, hg2, -⟩
   ·rw [he3] at hv; simp at hv
   simp only [Value.slice.injEq] at hv
   obtain ⟨hx3, -, rfl⟩ := hv
   rw [hx3] at he3
   simp only [Option.some.injEq, Addr.mk.injEq] at he3
   obtain ⟨rfl, rfl, -⟩ := he3
   subst hx3
   obtain ⟨hIS, hnc, hn64, -⟩ := hQ.rest q (zE) hlq
   have hbs : Hid (w.heap.size ≤ wr.heap.size) := hBr.size
   have c1' : wr.cell? ⟨g, q * 2 + 1, none⟩ = some (.slice (fcAt gs q).x (fcAt gs q).n (fcAt gs q).c) := by simpa using c1
   clear c1
   go_wp2_with fail
   refine (H7 (fcAt gs q).x (fcAt gs q).n (fcAt gs q).c (fcAt gs q).ns wr hIS (by omega)).mono ?_
   rintro e w2 ⟨v1, rfl, hO1, hb2⟩
   obtain ⟨x1, c1, rfl, -⟩ := hO1.mem
   have d1 := aG hb2 c1'
   have df : w2.frozen? ⟨g, q * 2 + 1, none⟩ = false := (hQ.row.later hb2).frozen _
   have hst := hQ.step (x' := x1) (c' := c1) hlq hb2 hO1 hbs.out
   have hB3 := (hBr.trans (hb2.mono hBr.size)).setCell (p := ⟨g, q * 2 + 1, none⟩) hg1 (.slice x1 (fcAt gs q).ns.length c1)
   have hs' := hs.set (x := x1) (c := c1) hlq hIS.len
   clear c1' hO1
   go_wp2
   go_roundw
   case rel => exact ⟨q + 1, _, hlt'.out, by go_num, hs', hst, hB3⟩
   case measure => simp [intOf]; have := hlt'.out; omega
  ·obtain rfl : q = fs.length := by omega
   go_wp2
   go_ret
   exact ⟨_, gs, rfl, hs, by rw [← hs.1]; exact hQ, hBr⟩
def bQ (s : Sb) (x : Option Addr) (n c : Nat) (fs : List Fc) : Sb := ⟨s.id, s.a, s.l, x, n, c, fs⟩
theorem dA {f : Sb} (hi : i < ss.length) : sbAt (ss.set i f) j = if i = j then f else sbAt ss j := by
 unfold sbAt
 rw [zF, zF, List.getElem?_set]
 by_cases h : i = j
 ·subst h; rw [if_pos rfl, if_pos rfl, if_pos hi]; rfl
 ·rw [if_neg h, if_neg h]
theorem BY (ss : List Sb) (i : Nat) (x : Option Addr) (n c : Nat) (fs : List Fc) (hi : i < ss.length) : (flatS ss).set (i * 4 + 3) (.slice x n c) = flatS (ss.set i (bQ (sbAt ss i) x n c fs)) := by
 refine List.ext_getElem? fun j => ?_
 by_cases hj : j < ss.length * 4
 ·have e : j = (j / 4) * 4 + j % 4 := by omega
  have hq : j / 4 < ss.length := by omega
  rw [e, oM _ _ _ (by rw [List.length_set]; exact hq) (by omega), dA hi, List.getElem?_set]
  by_cases h1 : i = j / 4
  ·rw [if_pos h1]
   by_cases h2 : j % 4 = 3
   ·rw [if_pos (by omega), if_pos (by rw [fW]; omega), h2]
    rfl
   ·rw [if_neg (by omega), oM _ _ _ hq (by omega), h1]
    have h3 : j % 4 < 3 := by omega
    generalize j % 4 = r at h3
    rcases r with _ | _ | _ | r
    all_goals first | rfl | omega
  ·rw [if_neg h1, if_neg (by omega), oM _ _ _ hq (by omega)]
 ·rw [List.getElem?_eq_none (by rw [List.length_set, fW]; omega), List.getElem?_eq_none (by rw [fW, List.length_set]; omega)]
theorem cE.set (h : cE w base (.slice (some ⟨g, 0, none⟩) n cap) ss) (i : Nat) (hi : i < ss.length) (x : Option Addr) (m c : Nat) (fs : List Fc) :
  cE (w.setCell ⟨g, i * 4 + 3, none⟩ (.slice x m c)) base (.slice (some ⟨g, 0, none⟩) n cap) (ss.set i (bQ (sbAt ss i) x m c fs)) := by
 rcases h.2 with ⟨hv, -⟩ | ⟨g', cap', cur, hv, h1, h2, h3, h4, h5, h6⟩
 ·simp at hv
 ·simp only [Value.slice.injEq, Option.some.injEq, Addr.mk.injEq] at hv
  obtain ⟨⟨rfl, -⟩, rfl, rfl⟩ := hv
  refine ⟨fW _, .inr ⟨g, cap, cur.setIfInBounds (i * 4 + 3) (.slice x m c), by rw [List.length_set], h1, heap_setCell_same w g _ _ _ _ h2, by rw [List.length_set]; exact h3, h4, by simpa using h5, ?_⟩⟩
  rw [List.length_set, Array.toList_setIfInBounds, List.take_set, h6, BY ss i x m c fs hi]
theorem cE.frozen (h : cE w base (.slice (some ⟨g, 0, none⟩) n cap) ss) (i : Nat) : w.frozen? ⟨g, i, none⟩ = false := mJ h i
theorem cE.block (h : cE w base (.slice (some ⟨g, 0, none⟩) n cap) ss) : base ≤ g ∧ ∃ cur, w.heap[g]? = some (.cells cur 78) := pH h
structure jC (w : World) (base : Nat) (v : Value) (ss : List Sb) (k : Nat) : Prop where
 row : cE w base v ss
 own : ∀ i, i < k → mT w base (.slice (sbAt ss i).x (sbAt ss i).n (sbAt ss i).c) (sbAt ss i).fs (sbAt ss i).fs.length
 apart : ∀ i j, i < k → j < k → i ≠ j → ∀ b, (Value.slice (sbAt ss i).x (sbAt ss i).n (sbAt ss i).c).ownBlock = some b → (Value.slice (sbAt ss j).x (sbAt ss j).n (sbAt ss j).c).ownBlock ≠ some b
def FT (s t : Sb) : Prop := s.id = t.id ∧ s.a = t.a ∧ s.l = t.l ∧ s.n = t.n ∧ bV s.fs t.fs
def bN (ss ts : List Sb) : Prop := ss.length = ts.length ∧ ∀ i, i < ss.length → FT (sbAt ss i) (sbAt ts i)
theorem FT.refl (s : Sb) : FT s s := ⟨rfl, rfl, rfl, rfl, bV.refl _⟩
theorem bN.refl (ss : List Sb) : bN ss ss := ⟨rfl, fun _ _ => FT.refl _⟩
theorem jC.later (h : jC w base v ss k) (hb : Below w.heap.size w w') : jC w' base v ss k :=
 ⟨h.row.later hb, fun i hi => (h.own i hi).later hb, h.apart⟩
theorem jC.low (h : jC w base v ss k) (hb : base' ≤ base) : jC w base' v ss k :=
 ⟨h.row.low hb, fun i hi => (h.own i hi).low hb, h.apart⟩
theorem mT.kept_of (h : mT w base v fs fs.length) (hg : w.grownBy w' (some g)) (hb : w.heap[g]? = some (.cells cur t)) (h1 : t ≠ 80) (h2 : t ≠ 3) : mT w' base v fs fs.length :=
 h.kept hg (fun _ hk e => by subst e; exact h.row.ne hb h1 hk) (fun i hi _ hk e => by subst e; exact (h.own i hi).ne hb h2 hk)
theorem jC.step (h : jC W base (.slice (some ⟨g, 0, none⟩) n cap) ss k) (hk : k < ss.length) (hb : Below W.heap.size W W1) (ho : mT W1 W.heap.size (.slice x' gs.length c') gs gs.length) (hwb : base ≤ W.heap.size) :
  jC (W1.setCell ⟨g, k * 4 + 3, none⟩ (.slice x' gs.length c')) base (.slice (some ⟨g, 0, none⟩) n cap) (ss.set k (bQ (sbAt ss k) x' gs.length c' gs)) (k + 1) := by
 have hr := h.row.later hb
 obtain ⟨hbg, cur, hg⟩ := hr.block
 refine ⟨hr.set k hk x' _ c' _, fun i hi => ?_, fun i j hi hj hij b hbi hbj => ?_⟩
 ·rw [dA hk]
  by_cases e : k = i
  ·rw [if_pos e]
   exact (ho.low hwb).kept_of (aH _ _ _ _) hg (by decide) (by decide)
  ·rw [if_neg e]
   exact ((h.own i (by omega)).later hb).kept_of (aH _ _ _ _) hg (by decide) (by decide)
 ·rw [dA hk] at hbi hbj
  by_cases e : k = i
  ·rw [if_pos e] at hbi
   rw [if_neg (by omega)] at hbj
   have h1 := ho.row.lt b hbi
   have h2 := (h.own j (by omega)).row.lt b hbj
   omega
  ·rw [if_neg e] at hbi
   by_cases e2 : k = j
   ·rw [if_pos e2] at hbj
    have h1 := ho.row.lt b hbj
    have h2 := (h.own i (by omega)).row.lt b hbi
    omega
   ·rw [if_neg e2] at hbj
    exact h.apart i j (by omega) (by omega) hij b hbi hbj
theorem mT.fcs (h : mT w base (.slice x n c) fs fs.length) : tL w x n fs ∧ fs.length = n ∧ n ≤ c ∧ c ≤ 9223372036854775807 := by
 obtain ⟨x', c', hv, h1, h2, -, h4⟩ := h.row.mem
 simp only [Value.slice.injEq] at hv
 obtain ⟨rfl, rfl, rfl⟩ := hv
 refine ⟨⟨rfl, h4, fun i hi => ?_⟩, rfl, h1, h2⟩
 obtain ⟨g1, g2, g3, g4⟩ := (h.own i hi).is
 exact ⟨g3, Nat.le_trans g3 g4, g1⟩
theorem jC.subs (h : jC w base v ss ss.length) : ∃ x c, v = .slice x ss.length c ∧ SS w x ss.length ss ∧ ss.length ≤ c ∧ c ≤ 9223372036854775807 := by
 obtain ⟨x, c, hv, h1, h2, -, h4⟩ := h.row.mem
 refine ⟨x, c, hv, ⟨rfl, h4, fun i hi => ?_⟩, h1, h2⟩
 obtain ⟨g1, g2, g3, g4⟩ := (h.own i hi).fcs
 exact ⟨g3, Nat.le_trans g3 g4, g1⟩
theorem bR.rs {rs : List Rg} (h : bR w base v rs) : ∃ x c, v = .slice x rs.length c ∧ RS w x rs.length rs ∧ rs.length ≤ c ∧ c ≤ 9223372036854775807 := by
 obtain ⟨x, c, hv, h1, h2, -, h4⟩ := h.mem
 exact ⟨x, c, hv, ⟨rfl, h4⟩, h1, h2⟩
theorem bV.trans {b c : List Fc} (h1 : bV a b) (h2 : bV b c) : bV a c :=
 ⟨h1.1.trans h2.1, fun i hi => by
  obtain ⟨p1, p2, p3⟩ := h1.2 i hi
  obtain ⟨q1, q2, q3⟩ := h2.2 i (by rw [← h1.1]; exact hi)
  exact ⟨p1.trans q1, p2.trans q2, p3.trans q3⟩⟩
theorem bN.set (h : bN ss ts) (hk : k < ts.length) (hg : bV (sbAt ts k).fs gs) (hn : (sbAt ts k).fs.length = (sbAt ts k).n) : bN ss (ts.set k (bQ (sbAt ts k) x gs.length c gs)) := by
 refine ⟨by rw [List.length_set]; exact h.1, fun i hi => ?_⟩
 have hs := h.2 i hi
 rw [dA hk]
 by_cases e : k = i
 ·subst e
  rw [if_pos rfl]
  obtain ⟨a1, a2, a3, a4, a5⟩ := hs
  exact ⟨a1, a2, a3, by rw [a4, ← hn]; exact hg.1, a5.trans hg⟩
 ·rw [if_neg e]; exact hs
end Go.Proofs.YtndpilfpejfloaaGreat
