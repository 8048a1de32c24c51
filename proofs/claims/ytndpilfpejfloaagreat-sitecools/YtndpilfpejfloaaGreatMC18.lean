/- A part of the proof. -/
import Derived.Test.YtndpilfpejfloaaGreatMC17
set_option maxRecDepth 100000
set_option maxHeartbeats 20000000
namespace Go.Proofs.YtndpilfpejfloaaGreat
open Go.RowKit Go.Shelf
theorem A8 (x0 : Option Addr) (n0 c0 : Nat) (cs : List Cd) (x1 : Option Addr) (n1 c1 : Nat) (ms : List Cd) (net part : Int) (w : World) (hc : S0 w x0 n0 cs) (hn63 : n0 ≤ 9223372036854775807) (hc1 : S0 w x1 n1 ms) (hm63 : n1 ≤ 9223372036854775807) (ha0 : -9223372036854775808 ≤ net) (ha1 : net ≤ 9223372036854775807) (hp0 : -9223372036854775808 ≤ part) (hp1 : part ≤ 9223372036854775807) :
  Calls Tryz.prog 4 #[.slice x0 n0 c0, .slice x1 n1 c1, .int .i64 net, .int .i64 part] w fun e w' => e = .returned (.bool true) ∧ Below w.heap.size w w' := by
 go_enter Tryz.func4, Tryz.ntmps4
 go_wp2_with fail
 refine (GL x0 n0 c0 cs w hc hn63).mono ?_
 rintro e w1 ⟨hP1, hP2⟩
 by_cases h200 : 200 < n0
 ·obtain ⟨rfl, hb1⟩ := hP1 h200
  clear hP1 hP2
  go_wp2_with fail
  refine (dL _).mono ?_
  rintro e w2 ⟨rfl, hb2⟩
  go_wp2
  go_ret
  exact ⟨rfl, (hb1.trans ((bl1 w1 _).mono hb1.size)).trans (hb2.mono (by have := hb1.size; simp; omega))⟩
 ·obtain ⟨f, g, vB, vV, vK, ba, rfl, hb1, hO, -, hpl⟩ := hP2 (by omega)
  clear hP1 hP2
  have hR := hpl.right n0 (zE)
  generalize f n0 = st at hO hR ⊢
  obtain ⟨t, ps, vs, ls⟩ := st
  simp only at hO
  obtain ⟨x, c, X, C, Y, D, rfl, rfl, rfl⟩ := hO.slices
  clear hpl
  go_upto_region 2 with fail
  obtain ⟨wa, hwa⟩ : ∃ wa, wa = w1.alloc (kP t (.slice x ps.length c) (.slice X vs.length C) (.slice Y ls.length D)) := ⟨_, rfl⟩
  rw [← hwa]
  have hb2 : Below w1.heap.size w1 wa := by rw [hwa]; exact bl1 w1 _
  have hq2 : wa.heap[w1.heap.size]? = some (kP t (.slice x ps.length c) (.slice X vs.length C) (.slice Y ls.length D)) := by rw [hwa]; exact aB _ rfl
  clear hwa
  have hSt : kV wa w.heap.size w1.heap.size t ps vs ls (.slice x ps.length c) (.slice X vs.length C) (.slice Y ls.length D) := ⟨hq2, hb1.size, hO.later hb2⟩
  obtain ⟨x', c', X', C', Y', D', e1, e2, e3, hbk, hvs, hvc, hv63, hps, hl63⟩ := hSt.see hR.bk
  simp only [Value.slice.injEq] at e1 e2 e3
  obtain ⟨rfl, -, rfl⟩ := e1
  obtain ⟨rfl, -, rfl⟩ := e2
  obtain ⟨rfl, -, rfl⟩ := e3
  have hW2 : WH w1.heap.size t x c ps X C vs Y D ls wa := ⟨hq2, ⟨hbk, hvs, hvc, hv63, hps, hl63⟩⟩
  have hBa : Below w.heap.size w wa := hb1.trans (hb2.mono hb1.size)
  have hRH : Hid (bF ⟨t, ps, vs, ls⟩) := hR
  have h6 : vs.length ≤ 6 := (eT hR.net).1
  clear hO hq2 hbk hvs hps hb1 hb2 hR
  have s2 := aX hW2.box 2 rfl
  have s3 := aX hW2.box 3 rfl
  by_cases hv0 : vs.length = 0
  ·have hd : ((vs.length : Int) == 0) = true := by simp [hv0]
   go_wp2_with fail
   refine (dL _).mono ?_
   rintro e w2 ⟨rfl, hb2⟩
   go_wp2
   go_ret
   exact ⟨rfl, hBa.trans (hb2.mono hBa.size)⟩
  have hd : ((vs.length : Int) == 0) = false := by rw [beq_eq_false_iff_ne]; omega
  by_cases hm2 : 200 < n1
  ·have hd2 : decide ((n1 : Int) > 200) = true := by simp; omega
   go_wp2_with fail
   refine (dL _).mono ?_
   rintro e w2 ⟨rfl, hb2⟩
   go_wp2
   go_ret
   exact ⟨rfl, hBa.trans (hb2.mono hBa.size)⟩
  have hd2 : decide ((n1 : Int) > 200) = false := by simp; omega
  obtain ⟨k, hk⟩ : ∃ k : Nat, mN net vs.length = k := ⟨_, (Int.toNat_of_nonneg (jJ net vs.length (by omega)).1).symm⟩
  have hkv : k < vs.length := by have := (jJ net vs.length (by omega)).2; omega
  have hch := fun W => yJ net vs.length W ha0 ha1 (by omega) (by omega)
  rw [hk] at hch
  clear hk
  have hk' : Hid (k < vs.length) := hkv
  have hi1 : (k : Int) < vs.length := by omega
  have hi2 : (0 : Int) ≤ k := by omega
  obtain ⟨bx, ox, hxo, d0, d1, d2⟩ := hW2.si.vps.cells k hkv
  subst hxo
  go_upto_region 4 with fail
  go_cut [12] (fun p wd => ∃ bp, p = .pointer (some ⟨bp, 0, none⟩) ∧ Below wa.heap.size wa wd ∧ wd.heap[bp]? = some (T7 (aC vs k)))
  case first =>
   refine CH (c := ((Tryz.f4.body.bind (gQ 4)).getD .skip)) (by kernel_rfl) (VC s2 s3 d0 d1 d2 hch hi1 hi2 (fun d _ _ _ _ h => by cases d <;> exact h) ?_)
   intro z45 z46 z47 z48 z49 z50 z51 z52 z53 z54 z55 bp wd g1 g2
   dsimp only
   go_wp2_with fail
   go_meet
   case rel => exact ⟨bp, rfl, g1, g2⟩
  case rest =>
   obtain ⟨bp, rfl, hBc, hxp⟩ := hcut
   have hWb := hW2.later hBc
   have hStb := hSt.later hBc
   have hBb : Below w.heap.size w wc := hBa.trans (hBc.mono hBa.size)
   clear s2 s3 d0 d1 d2 hW2 hSt hch hBa hBc hc hd hd2
   obtain ⟨wb, rfl⟩ : ∃ wb, wb = wc := ⟨_, rfl⟩
   have hcv : aZ (aC vs k).id (aC vs k).rn (aC vs k).rs (aC vs k).sn (aC vs k).ss = 0 := (eT hRH.out.net).2.2.2 k hk'.out
   have hr4 := (cN hcv).1
   clear hcv
   have v1 := aX hxp 1 rfl
   by_cases hr0 : (aC vs k).rn = 0
   ·have hd : (((aC vs k).rn : Int) == 0) = true := by simp [hr0]
    clear hr0
    go_wp2_with fail
    refine (dL _).mono ?_
    rintro e w2 ⟨rfl, hb2⟩
    go_wp2
    go_ret
    exact ⟨rfl, hBb.trans (hb2.mono hBb.size)⟩
   have hd : (((aC vs k).rn : Int) == 0) = false := by rw [beq_eq_false_iff_ne]; omega
   obtain ⟨j, hj⟩ : ∃ j : Nat, mN part (aC vs k).rn = j := ⟨_, (Int.toNat_of_nonneg (jJ part (aC vs k).rn (by omega)).1).symm⟩
   have hjv : j < (aC vs k).rn := by have := (jJ part (aC vs k).rn (by omega)).2; omega
   have hch := fun W => yJ part (aC vs k).rn W hp0 hp1 (by omega) (by omega)
   rw [hj] at hch
   clear hj
   have hj' : Hid (j < (aC vs k).rn) := hjv
   have hj1 : (j : Int) < (aC vs k).rn := by omega
   have hj2 : (0 : Int) ≤ j := by omega
   obtain ⟨rb, ro, hrx, r0, r1, r2⟩ := (hWb.si.vps.vps k hk'.out).2.2.2.ranges.cells j hjv
   rw [hrx] at v1
   go_upto_region 7 with fail
   go_cut [13] (fun p wd => ∃ bq, p = .pointer (some ⟨bq, 0, none⟩) ∧ Below wb.heap.size wb wd ∧ wd.heap[bq]? = some (xC (aJ (aC vs k).rs j)))
   case first =>
    refine CH (c := ((Tryz.f4.body.bind (gQ 7)).getD .skip)) (by kernel_rfl) (VD v1 r0 r1 r2 hch hj1 hj2 (fun d _ _ _ _ h => by cases d <;> exact h) ?_)
    intro z61 z62 z63 z64 z65 z66 z67 z68 z69 bq wd g1 g2
    dsimp only
    go_wp2_with fail
    go_meet
    case rel => exact ⟨bq, rfl, g1, g2⟩
   case rest =>
    obtain ⟨bq, rfl, hBc, hxq⟩ := hcut
    have hWc := hWb.later hBc
    have hStc := hStb.later hBc
    have hxp := aA hBc hxp
    have hBd : Below w.heap.size w wc := hBb.trans (hBc.mono hBb.size)
    clear v1 r0 r1 r2 hWb hStb hch hBb hBc hd
    obtain ⟨R, hRe⟩ : ∃ R, Hid (aJ (aC vs k).rs j = R) := ⟨_, rfl⟩
    rw [hRe.out] at hxq
    obtain ⟨i, hi, hat, -⟩ := aQ (hRH.out.pool hk'.out hj'.out)
    simp only at hi hat
    have hat' : Hid (aP ps (aJ (aC vs k).rs j).p = i) := hat
    have hi' : Hid (i < ps.length) := hi
    have hRB := gH hRH.out.full hRH.out.bk
    have h8 : ps.length ≤ 8 := hRB.few
    have ht0 : 0 ≤ t := hRB.t0
    have ht1 : t ≤ 1073741824 := hRB.t1
    obtain ⟨co, hco⟩ : ∃ co, Hid ((poAt ps i).co = co) := ⟨_, rfl⟩
    have hcw : 0 ≤ co ∧ co ≤ 1024 := by
     have := hRB.rule _ (poAt_mem hi)
     rw [hco.out] at this
     unfold dF dE at this
     simp only [zH, decide_eq_true_eq] at this
     omega
    have hcv : aZ (aC vs k).id (aC vs k).rn (aC vs k).rs (aC vs k).sn (aC vs k).ss = 0 := (eT hRH.out.net).2.2.2 k hk'.out
    have hwf : CA (aC vs k).id R.a R.l := by
     have h2 := (IX hcv).2 j hj'.out
     rw [hRe.out] at h2
     refine ⟨AF (a := 1) (b := 65536) ?_ (by decide) (by decide), h2.2.1, h2.2.2⟩
     unfold aZ at hcv
     split at hcv
     ·omega
     ·split at hcv
      ·rename_i hw
       simp only [zH] at hw
       exact hw.1.1
      ·omega
    have hPA := HI t R.p x ps.length c ps wc hWc.si.bk.ps (by omega)
    rw [← hRe.out, hat, hRe.out] at hPA
    clear hat hRB hcv h8
    obtain ⟨s0, s1⟩ := aR hWc.box rfl rfl
    have u2 := aX hxq 2 rfl
    go_wp2_with fail
    refine hPA.mono ?_
    rintro e w3 ⟨rfl, hb3⟩
    have hW3 := hWc.later hb3
    have hSt3 := hStc.later hb3
    have hxp3 := aA hb3 hxp
    have hxq3 := aA hb3 hxq
    have hB3 : Below w.heap.size w w3 := hBd.trans (hb3.mono hBd.size)
    clear hPA s0 s1 u2 hWc hStc hxp hxq hBd hb3
    obtain ⟨pb, po, hpx, -, -, -, -, -, -, -, c7, -⟩ := hW3.si.bk.ps.cells i hi'.out
    rw [hco.out] at c7
    subst hpx
    have hi1 : (i : Int) < ps.length := by omega
    have hi2 : (0 : Int) ≤ i := by omega
    have hdi : decide ((i : Int) < 0) = false := by simp
    obtain ⟨s0, s1, s2, s3⟩ := dN hW3.box rfl rfl rfl rfl
    obtain ⟨u0, u1⟩ := aR hxq3 rfl rfl
    have v0 := aX hxp3 0 rfl
    have hD := J2 t (some ⟨pb, po, none⟩) ps.length c ps (some ⟨bx, ox, none⟩) vs.length C vs Y ls.length D ls ⟨9, (aC vs k).id, 0, 0, R.a, R.l, 0, 0, 0, 0⟩ w3 hW3.si hRH.out.bk hRH.out.net hRH.out.chk hwf
    have hqs : bq ≠ w1.heap.size := by
     intro h
     rw [h, hSt3.box] at hxq3
     simp at hxq3
    have h14 : w1.heap.size < w3.heap.size := (zG hSt3.box)
    have hq4 : bq < w3.heap.size := (zG hxq3)
    go_upto_region 13 with fail
    clear c7
    go_cut [17, 18] (fun p e wd => e = .int .i64 0 ∧ ∃ bz E an al nn r vB vV vK, p = .pointer (some ⟨bz, 0, none⟩) ∧ Below w.heap.size w wd ∧ kV wd w.heap.size w1.heap.size r.t r.ps r.vs r.ls vB vV vK ∧ wd.heap[bz]? = some (rT E an al nn) ∧ wd.heap[bq]? = some (xC R) ∧ rU ⟨t, ps, vs, ls⟩ ⟨9, (aC vs k).id, 0, 0, R.a, R.l, 0, 0, 0, 0⟩ E an al nn r)
    case first =>
     go_wp2_with fail
     refine hD.mono ?_
     rintro e w4 ⟨E, an, al, nn, r, vB, vV, vK, rfl, hb4, hO4, hN⟩
     have hSt4 := hSt3.later hb4
     have hB4 : Below w.heap.size w w4 := hB3.trans (hb4.mono hB3.size)
     have hz4 := hb4.size
     have hO4' := hO4.low hB3.size
     obtain ⟨x5, c5, X5, C5, Y5, D5, rfl, rfl, rfl⟩ := hO4'.slices
     have hxq4 := aA hb4 hxq3
     clear hD s0 s1 s2 s3 u0 u1 v0 hW3 hSt3 hxp3 hxq3 hb4 hO4
     have hb5 := bl1 w4 (rT 0 0 0 0)
     have hSt5 := hSt4.later hb5
     have hO5 := hO4'.later hb5
     have hxq5 := aA hb5 hxq4
     have hq5 : (w4.alloc (rT 0 0 0 0)).heap[w4.heap.size]? = some (rT 0 0 0 0) := aB _ rfl
     have hne1 : w1.heap.size ≠ w4.heap.size := by omega
     have hne2 : w4.heap.size ≠ w1.heap.size := by omega
     obtain ⟨s0, s1, s2, s3⟩ := dN hSt5.box rfl rfl rfl rfl
     obtain ⟨zs0, zs1, zs2, zs3⟩ := iH hSt5.box
     obtain ⟨a0, a1, a2, a3⟩ := dN hq5 rfl rfl rfl rfl
     obtain ⟨za0, za1, za2, za3⟩ := iH hq5
     go_wp2_with fail
     go_meet
     case rel =>
      have hlo : w.heap.size ≤ w1.heap.size := hSt5.low
      have hl4 : w.heap.size ≤ w4.heap.size := hB4.size
      have hB5 : Below w.heap.size w (w4.alloc (rT 0 0 0 0)) := hB4.trans (hb5.mono hB4.size)
      have hbz : kQ (w4.alloc (rT 0 0 0 0)) w4.heap.size 61 := ⟨_, hq5⟩
      have hqz : bq ≠ w4.heap.size := by omega
      exact ⟨rfl, w4.heap.size, E, an, al, nn, r, _, _, _, rfl, ((((((((hB5).setCell (p := ⟨w1.heap.size, 0, none⟩) hlo _).setCell (p := ⟨w1.heap.size, 1, none⟩) hlo _).setCell (p := ⟨w1.heap.size, 2, none⟩) hlo _).setCell (p := ⟨w1.heap.size, 3, none⟩) hlo _).setCell (p := ⟨w4.heap.size, 0, none⟩) hl4 _).setCell (p := ⟨w4.heap.size, 1, none⟩) hl4 _).setCell (p := ⟨w4.heap.size, 2, none⟩) hl4 _).setCell (p := ⟨w4.heap.size, 3, none⟩) hl4 _, ((((hSt5.all hO5).put (hbz.put.put.put.put) (by decide) hne1).put (hbz.put.put.put.put.put) (by decide) hne1).put (hbz.put.put.put.put.put.put) (by decide) hne1).put (hbz.put.put.put.put.put.put.put) (by decide) hne1, zC (zC (zC (zC ((zB hne2).trans ((zB hne2).trans ((zB hne2).trans ((zB hne2).trans (hq5)))))))), (zB hqz).trans ((zB hqz).trans ((zB hqz).trans ((zB hqz).trans ((zB hqs).trans ((zB hqs).trans ((zB hqs).trans ((zB hqs).trans (hxq5)))))))), hN⟩
    case rest =>
     obtain ⟨rfl, bz, E, an, al, nn, r, vB, vV, vK, rfl, hB5, hSt5, hza, hxq5, hN⟩ := hcut
     clear hD s0 s1 s2 s3 u0 u1 v0 hW3 hSt3 hxp3 hxq3 hB3 hwf hi1 hi2 hdi h14 hq4
     have a0 := (aE hza).1 0
     simp only [List.getElem?_toArray, List.getElem?_cons_zero] at a0
     by_cases hE : E = 0
     ·subst hE
      have hRr : bF r := rU.right hRH.out hN hSt5.own.fullV
      have hC0 : AN R.p R.a R.l t co r := by
       have h2 := GQ (k := k) (j := j) (i := i) hRH.out hk'.out hj'.out (by simp only [hRe.out]; exact hN) hat'.out
       simp only [hRe.out, hco.out] at h2
       exact h2
      obtain ⟨t0, ht⟩ : ∃ t0, Hid (t = t0) := ⟨_, rfl⟩
      clear hN hat' hRH
      go_wp2
      go_loopw [19] (fun i wr => ∃ (q : Nat) (r : fJ) (vB vV vK : Value), q ≤ n1 ∧ i = .int .i64 q ∧ Below w.heap.size w wr ∧ kV wr w.heap.size w1.heap.size r.t r.ps r.vs r.ls vB vV vK ∧ wr.heap[bq]? = some (xC R) ∧ bF r ∧ AN R.p R.a R.l t co r) (fun i _ => n1 - (intOf i).toNat)
      case atStart => exact ⟨0, r, vB, vV, vK, Nat.zero_le _, rfl, hB5, hSt5, hxq5, hRr, hC0⟩
      case round =>
       clear hB5 hSt5 hza hxq5 hRr hC0 a0
       obtain ⟨q, r, vB, vV, vK, hq, rfl, hBr, hStr, hxr, hRr, hCr⟩ := hrel
       by_cases hql : q < n1
       ·have hql' : Hid (q < n1) := hql
        have hq1 : (q : Int) < n1 := by omega
        have hq2 : (0 : Int) ≤ q := by omega
        obtain ⟨mb, mo, hmx, c0, c1', c2, c3, c4, c5, c6, c7, c8, c9⟩ := (hc1.later hBr).cells q hql
        have hwq := hc1.wf q hql
        obtain ⟨cd, hcd⟩ : ∃ cd, Hid (cdAt ms q = cd) := ⟨_, rfl⟩
        rw [hcd.out] at c0 c1' c2 c3 c4 c5 c6 c7 c8 c9 hwq
        subst hmx
        obtain ⟨xr, cr, Xr, Cr, Yr, Dr, rfl, rfl, rfl, hbk, hvs, hvc, hv63, hps, hl63⟩ := hStr.see hRr.bk
        have hdr := fun W (hW : Below wr.heap.size wr W) => J2 r.t xr r.ps.length cr r.ps Xr r.vs.length Cr r.vs Yr r.ls.length Dr r.ls cd W ((Si.mk hbk hvs hvc hv63 hps hl63).later hW) hRr.bk hRr.net hRr.chk hwq
        have hRr' : Hid (bF r) := hRr
        have hCr' : Hid (AN R.p R.a R.l t co r) := hCr
        clear hRr hCr hbk hvs hvc hv63 hps hl63
        go_upto_region 21 with fail
        go_cut [20, 21, 22] (fun p p2 e wd => e = .int .i64 0 ∧ ∃ bn bb E an al nn r1 vB vV vK, p = .pointer (some ⟨bn, 0, none⟩) ∧ p2 = .pointer (some ⟨bb, 0, none⟩) ∧ wr.heap.size ≤ bn ∧ wr.heap.size ≤ bb ∧ Below wr.heap.size wr wd ∧ SO wd w.heap.size r1.ps r1.vs r1.ls vB vV vK ∧ wd.heap[bn]? = some (kP r1.t vB vV vK) ∧ wd.heap[bb]? = some (rT E an al nn) ∧ rU r cd E an al nn r1)
        case first =>
         refine CH (c := ((Tryz.f4.body.bind (gQ 21)).getD .skip)) (by kernel_rfl) (SD hBr hStr c0 c1' c2 c3 c4 c5 c6 c7 c8 c9 hdr hq1 hq2 (fun d _ _ _ _ h => by cases d <;> exact h) ?_)
         intro z111 z112 z113 z114 z115 z116 z117 z118 z119 z120 bn bb E an al nn r1 vB vV vK wd g1 g2 g3 g4 g5 g6 g7
         dsimp only
         go_wp2_with fail
         go_meet
         case rel => exact ⟨rfl, bn, bb, E, an, al, nn, r1, vB, vV, vK, rfl, rfl, g1, g2, g3, g4, g5, g6, g7⟩
        case rest =>
         obtain ⟨rfl, bn, bb, E, an, al, nn, r1, vB, vV, vK, rfl, rfl, hln, hlb, hBc, hO1, hxn, hxb, hN⟩ := hcut
         have hBd : Below w.heap.size w wc := hBr.trans (hBc.mono hBr.size)
         have hStc := hStr.later hBc
         have hxc := aA hBc hxr
         have hR1 : bF r1 := rU.right hRr'.out hN hO1.fullV
         have hN' : Hid (rU r cd E an al nn r1) := hN
         have hR1' : Hid (bF r1) := hR1
         have m0 := cell_later hBc c0
         have m1 := cell_later hBc c1'
         have m2 := cell_later hBc c2
         clear c0 c1' c2 c3 c4 c5 c6 c7 c8 c9 hdr hStr hxr hBc hBr hN hR1 hln hlb
         obtain ⟨wd, rfl⟩ : ∃ wd, wd = wc := ⟨_, rfl⟩
         obtain ⟨b5, h5⟩ : ∃ b, (cd.op == 5) = b := ⟨_, rfl⟩
         obtain ⟨b8, h8'⟩ : ∃ b, (cd.op == 8) = b := ⟨_, rfl⟩
         obtain ⟨b2, h2'⟩ : ∃ b, (cd.op == 2) = b := ⟨_, rfl⟩
         obtain ⟨b3, h3'⟩ : ∃ b, (cd.op == 3) = b := ⟨_, rfl⟩
         obtain ⟨bA, hA⟩ : ∃ b, (cd.A == R.p) = b := ⟨_, rfl⟩
         obtain ⟨bB, hB⟩ : ∃ b, (cd.B == R.p) = b := ⟨_, rfl⟩
         obtain ⟨bE, hE⟩ : ∃ b, (E == 0) = b := ⟨_, rfl⟩
         obtain ⟨xn, cn, Xn, Cn, Yn, Dn, rfl, rfl, rfl⟩ := hO1.slices
         go_upto_region 24 with fail
         go_cut [23] (fun v wz => v = .bool ((b5 && bA) || (b8 && bB) || (b2 && bB)) ∧ Below wd.heap.size wd wz)
         case first =>
          refine CH (c := ((Tryz.f4.body.bind (gQ 24)).getD .skip)) (by kernel_rfl) (SE m0 m1 m2 (show wd.cell? ⟨bq, 2, none⟩ = some (.int .i64 R.p) from (aE hxc).1 2) h5 h8' h2' hA hB hq1 hq2 ?_)
          intro z123 z124 z125 z126 z127 z128 z129 z130 z131 z132 z133 z134 z135 z136 z137 z138 z139 z140 z141 z142 z143 z144 z145 z146 z147 z148 z149 z150 z151 z152 z153 z154 z155 z156 z157 z158 z159 z160 z161 z162 z163 z164 z165 z166 z167 z168 z169 z170 z171 z172 z173 z174 wz hz
          dsimp only
          go_wp2_with fail
          go_meet
          case rel => exact ⟨rfl, hz⟩
         case rest =>
          obtain ⟨rfl, hBe⟩ := hcut
          obtain ⟨gv, hgv⟩ : ∃ b, Hid (((b5 && bA) || (b8 && bB) || (b2 && bB)) = b) := ⟨_, rfl⟩
          rw [hgv.out]
          have hStE := hStc.later hBe
          have hxE := aA hBe hxc
          have hxnE := aA hBe hxn
          have hxbE := aA hBe hxb
          have hOE := hO1.later hBe
          have hBE : Below w.heap.size w wc := hBd.trans (hBe.mono hBd.size)
          have M0 := cell_later hBe m0
          have M1 := cell_later hBe m1
          clear m0 m1 m2 hStc hxc hxn hxb hO1 hBd hBe
          obtain ⟨we, rfl⟩ : ∃ we, we = wc := ⟨_, rfl⟩
          have hco2 : E = 0 → gv = true → r.t < t + co → fK an al R.a R.l = false := by
           intro hE0 hg hlt
           have hG : CG cd R.p := by
            rw [← hgv.out, ← h5, ← h8', ← h2', ← hA, ← hB] at hg
            simp only [Bool.or_eq_true, zH, beq_iff_eq] at hg
            unfold CG
            rcases hg with (hg | hg) | hg
            ·exact Or.inl hg
            ·exact Or.inr (Or.inl hg)
            ·exact Or.inr (Or.inr hg)
           refine (rU.cools hRr'.out hN'.out (fun _ hc => ?_) hCr'.out).2 hE0 hG hlt
           unfold CG at hG
           omega
          have hco3 : Hid (E = 0 → gv = true → r.t < t + co → fK an al R.a R.l = false) := hco2
          clear hco2
          obtain ⟨mt, hmt⟩ : ∃ b, fK an al R.a R.l = b := ⟨_, rfl⟩
          skip
          have hmt' : Hid (fK an al R.a R.l = mt) := hmt
          clear hmt
          obtain ⟨lt, hlt⟩ : ∃ b, decide (r.t < t + co) = b := ⟨_, rfl⟩
          have hwr : IntKind.i64.wrap (t + co) = t + co := by rw [IntKind.wrap_i64]; omega
          go_upto_region 25 with fail
          go_cut [196] (fun v wz => v = .bool false ∧ Below we.heap.size we wz)
          case first =>
           refine CH (c := ((Tryz.f4.body.bind (gQ 25)).getD .skip)) (by kernel_rfl) (SG (show we.cell? ⟨bb, 0, none⟩ = some (.int .i64 E) from (aE hxbE).1 0) (show we.cell? ⟨bb, 1, none⟩ = some (.int .i64 an) from (aE hxbE).1 1) (show we.cell? ⟨bb, 2, none⟩ = some (.int .i64 al) from (aE hxbE).1 2) (show we.cell? ⟨bq, 0, none⟩ = some (.int .i64 R.a) from (aE hxE).1 0) (show we.cell? ⟨bq, 1, none⟩ = some (.int .i64 R.l) from (aE hxE).1 1) (show we.cell? ⟨w1.heap.size, 0, none⟩ = some (.int .i64 r.t) from (aE hStE.box).1 0) hmt'.out hE hlt hwr (fun x1 x2 x3 x4 => ?_) ?_)
           ·have hx0 : E = 0 := by rw [x1] at hE; simpa using hE
            have hx1 : r.t < t + co := by rw [x4] at hlt; simpa using hlt
            have := hco3.out hx0 x2 hx1
            rw [hmt'.out, x3] at this
            cases this
           intro z175 z176 z177 z178 z179 z180 z181 z182 z183 z184 z185 z186 z187 z188 z189 z190 z191 z192 z193 z194 z195 wd g1
           dsimp only
           go_wp2_with fail
           go_meet
           case rel => exact ⟨rfl, g1⟩
          case rest =>
           obtain ⟨rfl, hBf⟩ := hcut
           have hStF := hStE.later hBf
           have hxF := aA hBf hxE
           have hxnF := aA hBf hxnE
           have hxbF := aA hBf hxbE
           have hOF := hOE.later hBf
           have hBF : Below w.heap.size w wc := hBE.trans (hBf.mono hBE.size)
           have N0 := cell_later hBf M0
           have N1 := cell_later hBf M1
           clear M0 M1 hStE hxE hxnE hxbE hOE hBE hBf hlt hwr
           obtain ⟨wf, rfl⟩ : ∃ wf, wf = wc := ⟨_, rfl⟩
           go_upto_region 27 with fail
           go_cut [217] (fun v wz => v = .bool (bE && b3 && bA) ∧ Below wf.heap.size wf wz)
           case first =>
            refine CH (c := ((Tryz.f4.body.bind (gQ 27)).getD .skip)) (by kernel_rfl) (SF N0 N1 (show wf.cell? ⟨bq, 2, none⟩ = some (.int .i64 R.p) from (aE hxF).1 2) (show wf.cell? ⟨bb, 0, none⟩ = some (.int .i64 E) from (aE hxbF).1 0) hE h3' hA hq1 hq2 ?_)
            intro z197 z198 z199 z200 z201 z202 z203 z204 z205 z206 z207 z208 z209 z210 z211 z212 z213 z214 z215 z216 wz hz
            dsimp only
            go_wp2_with fail
            go_meet
            case rel => exact ⟨rfl, hz⟩
           case rest =>
            obtain ⟨rfl, hBg⟩ := hcut
            have hStG := hStF.later hBg
            have hxG := aA hBg hxF
            have hxnG := aA hBg hxnF
            have hOG := hOF.later hBg
            have hBG : Below w.heap.size w wc := hBF.trans (hBg.mono hBF.size)
            clear N0 N1 hStF hxF hxnF hxbF hOF hBF hBg
            have hcl : Hid ((bE && b3 && bA) = false → E = 0 → ¬ (cd.op = 3 ∧ cd.A = R.p)) := by
             show _ → _
             rw [← hE, ← h3', ← hA]
             rintro h hE0 ⟨ho, hA0⟩
             simp [hE0, ho, hA0] at h
            cases hcz : (bE && b3 && bA)
            ·have hCI := (rU.cools hRr'.out hN'.out (hcl.out hcz) hCr'.out).1
             obtain ⟨g0, g1, g2, g3⟩ := dN hxnG rfl rfl rfl rfl
             obtain ⟨s0, s1, s2, s3⟩ := dN hStG.box rfl rfl rfl rfl
             obtain ⟨sz0, sz1, sz2, sz3⟩ := iH hStG.box
             go_wp2_with fail
             go_roundw
             case rel => exact ⟨q + 1, r1, _, _, _, hql'.out, by go_num, ((((hBG).setCell (p := ⟨w1.heap.size, 0, none⟩) hStG.low _).setCell (p := ⟨w1.heap.size, 1, none⟩) hStG.low _).setCell (p := ⟨w1.heap.size, 2, none⟩) hStG.low _).setCell (p := ⟨w1.heap.size, 3, none⟩) hStG.low _, hStG.all hOG, (zB hqs).trans ((zB hqs).trans ((zB hqs).trans ((zB hqs).trans (hxG)))), hR1'.out, hCI⟩
             case measure => have := hql'.out; simp [intOf]; omega
            ·go_wp2_with fail
             refine (dL _).mono ?_
             rintro e w2 ⟨rfl, hb2⟩
             go_wp2
             go_ret
             exact ⟨rfl, hBG.trans (hb2.mono hBG.size)⟩
       ·obtain rfl : q = n1 := by omega
        go_wp2_with fail
        refine (dL _).mono ?_
        rintro e w2 ⟨rfl, hb2⟩
        go_wp2
        go_ret
        exact ⟨rfl, hBr.trans (hb2.mono hBr.size)⟩
     ·have hd : (E == 0) = false := by rw [beq_eq_false_iff_ne]; exact hE
      go_wp2_with fail
      refine (dL _).mono ?_
      rintro e w2 ⟨rfl, hb2⟩
      go_wp2
      go_ret
      exact ⟨rfl, hB5.trans (hb2.mono hB5.size)⟩
end Go.Proofs.YtndpilfpejfloaaGreat
