/- A part of the proof. -/
import Derived.Test.YtjphnaccgfjnjaaGreatDoorMK11
set_option maxRecDepth 100000
set_option maxHeartbeats 20000000
namespace Go.Proofs.YtjphnaccgfjnjaaGreatDoor
variable {E t n : Int} {w w' W w3 : World} {base f p q vn ln : Nat} {V vB vK : Value} {ps : List Po} {P : Program} {l : List Oper} {Q : Exit → Act → World → Prop} {S : World → Prop} {T : Nat → Bool} {listed : Array Bool} {a : Act} {v u : Vn} {e : Ending} {r : Rg} {cd : Cd} {ss' : List Sb} {vs : List Vn} {ls : List (Int × Int)}
open Go.RowKit Go.Shelf
def VY(ps:List Po)(vs:List Vn)(ls:List (Int×Int))(A:Int):Int:=if FC (bS ps) A=true then 6 else iS vs.length vs ls.length ls A
def Y4(E:Int)(R:List Vn->List (Int×Int)->Prop)(base bs:Nat)(t:Int)(ps:List Po)(w:World)(e:Ending)(w':World):Prop:=
 e= .returned (.int .i64 E)/\eT base bs w w'/\(E=0->∃us ms vB vV vK,kN w' base bs t ps us ms vB vV vK/\R us ms)
theorem qA{R:List Vn->List (Int×Int)->Prop}(h0:E≠0->V= .agg #[.slice none 0 0, .slice none 0 0])(h1:E=0->∃us ms,NO w base V us ms/\R us ms):∃x1 n1 c1 x2 n2 c2,V= .agg #[.slice x1 n1 c1, .slice x2 n2 c2]:=by
 by_cases h:E=0
 ·obtain⟨us,ms,⟨v,k,e,g1, -,g2⟩, -⟩:=h1 h;obtain⟨x1,c1,rfl, -⟩:=g1.mem;obtain⟨x2,c2,rfl, -⟩:=g2.mem;exact⟨_,_,_,_,_,_,e⟩
 ·exact⟨_,_,_,_,_,_,h0 h⟩
theorem L6(hF:cG ps)(hB:aS t ps=0):ps.length<=8/\(∀k,k<ps.length->(poAt ps k).n<=64)/\∀k,k<ps.length->∀q,q<(poAt ps k).n->tX (poAt ps k).id (aN (poAt ps k).ls q).a (aN (poAt ps k).ls q).l/\(Lit.int .i64 (aN (poAt ps k).ls q).ow).wf=true:=by
 have hR:=nB hF hB;refine⟨hR.few,fun k hk=>?_,fun k hk q hq=>L4 hR (poAt_mem hk) (fQ (by rw[hF k hk];exact hq))⟩;have:=hR.n32 _ (poAt_mem hk);rw[hF k hk]at this;omega
theorem KY(base bs:Nat)(t:Int)(ps:List Po)(vs:List Vn)(ls:List (Int×Int))(vB vV vK:Value)(cd:Cd)(w:World)(hS:kN w base bs t ps vs ls vB vV vK)(hB:aS t ps=0):
  Calls Tryz.prog 52 #[.pointer (some ⟨bs,0,none⟩),L5 cd] w (Y4 (VY ps vs ls cd.A) (H0 vs ls cd.A) base bs t ps w):=by
 have hbl:bs<w.heap.size:=(zG hS.box);have hlow:=hS.low;obtain⟨x,c,X,C,Y,D,rfl,rfl,rfl,hk,hvs,hvc,hv63,hps,hl63⟩:=hS.see hB;obtain⟨hn8,hn64,hwf⟩:=L6 hS.own.bk.full hB;go_enter Tryz.func52,Tryz.ntmps52;go_upto_region 1 with fail
 obtain⟨w0,hw0⟩:∃w0,w0=w.alloc (rT cd):=⟨_,rfl⟩;rw[<-hw0];have hB0:Below w.heap.size w w0:=by rw[hw0];exact bl1 w _
 have hq0:w0.heap[w.heap.size]?=some (rT cd):=by rw[hw0];exact aB _ rfl
 have hS0:=hS.later hB0;clear hw0;have s0:=Ws.here (aP hS0.box 0 rfl);have s1:=Ws.here (aP hS0.box 1 rfl);have k1:=Ws.here (aP hq0 1 rfl);refine aT [0,1,2,3,5,6] 4 [] [7] (by kernel_rfl) (by kernel_rfl) (fun d _ _ _ _ h=>by cases d<;>exact h) ?_;simp only[zK,zM,zI,zJ];repeat(go_big_quiet_step (fail))
 refine wpQuiet_nil ?_;clear s0 s1 k1;intro K hK;go_wp2_with fail;refine(lG t x ps.length c ps w0.drew ((hk.later hB0).later (zD).drew).ps (by omega) hn64 hwf).mono ?_;rintro e w1 ⟨bm,Dm,rfl,hbm,hOm,hHm,hb1⟩;have hB1:Below w0.heap.size w0 w1:=⟨hb1.os,hb1.tape,hb1.output,hb1.size,hb1.block⟩;go_wp2_with fail;refine aD (hK.out _ _ hB1 ?_);clear hK K;refine wpQuiet_nil ?_;have hS1:=hS0.later hB1;have hc1:=aA hB1 hq0;have hBw1:=hB0.trans (hB1.mono hB0.size);clear hS0 hq0 hb1 hB1;obtain⟨ta,hta⟩:∃b,FC (bS ps) cd.A=b:=⟨_,rfl⟩;have hany:=DM bm _ Dm _ cd.A w1 hOm hHm;rw[hta]at hany
 cases ta
 ·have hE:Hid (VY ps vs ls cd.A=iS vs.length vs ls.length ls cd.A):=if_neg (by rw[hta];decide);clear hta;go_wp2_with fail;refine hany.mono ?_;rintro e w2 ⟨rfl,hb2⟩;have hS2:=hS1.later hb2;have hc2:=aA hb2 hc1;have hBw2:=hBw1.trans (hb2.mono hBw1.size);clear hS1 hc1 hb2 hany;go_upto_region 3 with fail
  have s2:=Ws.here (aP hS2.box 2 rfl);have s3:=Ws.here (aP hS2.box 3 rfl);have k1:=Ws.here (aP hc2 1 rfl);refine aT [0,1,2,3,4,5,6] 7 [8,9,10,11,12] [13,14] (by kernel_rfl) (by kernel_rfl) (fun d _ _ _ _ h=>by cases d<;>exact h) ?_;simp only[zK,zM,zI,zJ];repeat(go_big_quiet_step (fail))
  refine wpQuiet_nil ?_;clear s2 s3 k1;intro K hK;go_wp2_with fail;refine(SL X vs.length C vs Y ls.length D ls cd.A w2.drew ((hvs.later hBw2).later (zD).drew) hv63 hvc ((hps.later hBw2).later (zD).drew) hl63).mono ?_;rintro e w3 ⟨V,rfl,hb3,hV0,hV1⟩;have hB1:Below w2.heap.size w2 w3:=⟨hb3.os,hb3.tape,hb3.output,hb3.size,hb3.block⟩;have hS3:=hS2.later hB1;have hT3:eT base bs w w3:=eT.of (hBw2.trans (hB1.mono hBw2.size)) (by omega);obtain⟨y1,m1,d1,y2,m2,d2,rfl⟩:=qA hV0 hV1;clear hV0;go_wp2_with fail;refine aD (hK.out _ _ hB1 ?_);clear hK K;repeat(go_big_quiet_step (fail))
  refine wpQuiet_nil ?_;obtain⟨g0,g1,g2,g3⟩:=dL hS3.box rfl rfl rfl rfl;obtain⟨gz0,gz1,gz2,gz3⟩:=iY hS3.box;go_wp2;go_ret;refine⟨by rw[hE.out];rfl,(hT3.set hlow).set hlow,fun h=>?_⟩;rw[hE.out]at h;obtain⟨us,ms,⟨v',k',e',hOV,hVo,hOK⟩,hR⟩:=hV1 h
  cases e';have hlo:base<=w2.drew.heap.size:=Nat.le_trans (by omega) hBw2.size;exact⟨us,ms,_,_,_,hS3.putN (hOV.low hlo) (fun u hu=>((hVo u hu).low hlo).vty) (hOK.low hlo),hR⟩
 ·have hE:VY ps vs ls cd.A=6:=if_pos hta;clear hta;go_wp2_with fail;refine hany.mono ?_;rintro e w2 ⟨rfl,hb2⟩;go_wp2;go_ret;exact⟨by rw[hE];rfl,eT.of (hBw1.trans (hb2.mono hBw1.size)) (by omega),fun h=>absurd (hE.symm.trans h) (by decide)⟩
def VZ(t:Int)(ps:List Po)(vs:List Vn)(A a l:Int):Int:=if 0<=aJ vs.length vs (rR (bS ps) A a l)then 9 else iQ t ps A a l
def Y6(E:Int)(R:Int->List Po->Prop)(base bs:Nat)(vs:List Vn)(ls:List (Int×Int))(w:World)(e:Ending)(w':World):Prop:=
 e= .returned (.int .i64 E)/\eT base bs w w'/\(E=0->∃t' rs vB vV vK,kN w' base bs t' rs vs ls vB vV vK/\R t' rs)
theorem O4(base bs:Nat)(t:Int)(ps:List Po)(vs:List Vn)(ls:List (Int×Int))(vB vV vK:Value)(cd:Cd)(w:World)(hS:kN w base bs t ps vs ls vB vV vK)(hB:aS t ps=0)(hv6:vs.length<=64)(hcw:tX cd.A cd.a cd.l):
  Calls Tryz.prog 51 #[.pointer (some ⟨bs,0,none⟩),L5 cd] w (Y6 (VZ t ps vs cd.A cd.a cd.l) (oE t ps cd.A cd.a cd.l) base bs vs ls w):=by
 have hbl:bs<w.heap.size:=(zG hS.box);have hlow:=hS.low;obtain⟨x,c,X,C,Y,D,rfl,rfl,rfl,hk,hvs,hvc,hv63,hps,hl63⟩:=hS.see hB;obtain⟨hn8,hn64,hwf⟩:=L6 hS.own.bk.full hB;go_enter Tryz.func51,Tryz.ntmps51;go_upto_region 1 with fail
 obtain⟨w0,hw0⟩:∃w0,w0=w.alloc (rT cd):=⟨_,rfl⟩;rw[<-hw0];have hB0:Below w.heap.size w w0:=by rw[hw0];exact bl1 w _
 have hq0:w0.heap[w.heap.size]?=some (rT cd):=by rw[hw0];exact aB _ rfl
 have hS0:=hS.later hB0;clear hw0;have s0:=Ws.here (aP hS0.box 0 rfl);have s1:=Ws.here (aP hS0.box 1 rfl);have s2:=Ws.here (aP hS0.box 2 rfl);have s3:=Ws.here (aP hS0.box 3 rfl);have k1:=Ws.here (aP hq0 1 rfl);have k4:=Ws.here (aP hq0 4 rfl);have k5:=Ws.here (aP hq0 5 rfl);obtain⟨o,ho⟩:∃o,rR (bS ps) cd.A cd.a cd.l=o:=⟨_,rfl⟩;refine bN (fun w'=>∃u:Ws w0.heap.size w0,w'=u.val) (fun j=>decide (j<16)) 17 _ (by kernel_rfl) rfl rfl ?_;refine bL 4 [0,1,2,3,4,5,6,7,9,10,11,12,13] rfl _ rfl (by kernel_rfl) (fun d _ _ _ _ h=>by cases d<;>exact h) ⟨⟨_,(zD).drew⟩,rfl⟩ ?_;simp only[zK,zM,zI,zJ];repeat(go_big_quiet_step (fail))
 refine wpQuiet_nil ?_;clear s0 s1 s2 s3 k1 k4 k5;refine aZ 8 _ _ (by kernel_rfl) (by kernel_rfl) rfl rfl ?_;intro K hK;simp only[zI,zJ];go_wp2_with fail;refine(lG t x ps.length c ps w0.drew ((hk.later hB0).later (zD).drew).ps (by omega) hn64 hwf).mono ?_;rintro e w1 ⟨bm,Dm,rfl,hbm,hOm,hHm,hb1⟩;have hB1:Below w0.heap.size w0 w1:=⟨hb1.os,hb1.tape,hb1.output,hb1.size,hb1.block⟩;go_wp2_with fail;refine aD (hK.out _ _ ⟨⟨_,hB1⟩,rfl⟩ ?_);clear hK K;refine aZ 14 _ _ (by kernel_rfl) (by kernel_rfl) rfl rfl ?_;intro K hK;simp only[zI,zJ];refine eX (C:=fun w'=>∃u:Ws w1.heap.size w1,w'=u.val) (Q:=fun a=>∀u:Ws w1.heap.size w1,K a u.val) (fun a w hC h=>by obtain⟨u,rfl⟩:=hC;exact aD (h u)) _ _ _ ⟨⟨w1,zD⟩,rfl⟩ ?_;refine mR _ _ bm _ Dm cd.A cd.a cd.l o rfl (by rfl) rfl rfl (fun u hu=>by obtain⟨u',rfl⟩:=hu;exact jI hOm u'.property) hcw (by rw[<-ho];exact hHm.at_ _ _ _ hcw) ?_;refine wpQuiet_nil ?_;intro u;have hB2:Below w0.heap.size w0 u.val:=hB1.trans (u.property.mono hB1.size);refine hK.out _ _ ⟨⟨_,hB2⟩,rfl⟩ ?_;clear hK K;generalize u.val=w2 at hB2⊢;clear u hOm hHm hb1 hB1 hbm;simp only[Act.put,List.setIfInBounds_toArray,List.set_cons_zero,List.set_cons_succ];have hS2:=hS0.later hB2;have hc2:=aA hB2 hq0;have hBw2:=hB0.trans (hB2.mono hB0.size);clear hS0 hq0;obtain⟨tp,htp⟩:∃tp,aJ vs.length vs o=tp:=⟨_,rfl⟩;have hpl:=vM o X vs.length C vs Y ls.length D tp htp w2 (hvs.later hBw2) (by omega);refine aZ 15 _ _ (by kernel_rfl) (by kernel_rfl) rfl rfl ?_;intro K hK;simp only[zI,zJ];go_wp2_with fail;refine hpl.mono ?_;rintro e w3 ⟨rfl,hb3⟩;go_wp2_with fail;refine aD (hK.out _ _ ⟨⟨_,hB2.trans (hb3.mono hB2.size)⟩,rfl⟩ ?_);clear hK K hpl;have hS3:=hS2.later hb3;have hc3:=aA hb3 hc2;have hBw3:=hBw2.trans (hb3.mono hBw2.size);clear hS2 hc2 hBw2 hB2;refine bB [16] rfl (by kernel_rfl) ?_;simp only[zK,zM,zI,zJ];by_cases h0:0<=tp
 ·have hE:VZ t ps vs cd.A cd.a cd.l=9:=if_pos (by rw[ho,htp];exact h0);have hge:decide (tp≥0)=true:=by simpa using h0
  go_wp2;go_ret;exact⟨by rw[hE];rfl,eT.of hBw3 (by omega),fun h=>absurd (hE.symm.trans h) (by decide)⟩
 ·have hE:Hid (VZ t ps vs cd.A cd.a cd.l=iQ t ps cd.A cd.a cd.l):=if_neg (by rw[ho,htp];exact h0);have hge:decide (tp≥0)=false:=by simpa using h0
  clear ho htp;go_upto_region 3 with fail
  clear hge h0;have s0:=Ws.here (aP hS3.box 0 rfl);have s1:=Ws.here (aP hS3.box 1 rfl);have k1:=Ws.here (aP hc3 1 rfl);have k4:=Ws.here (aP hc3 4 rfl);have k5:=Ws.here (aP hc3 5 rfl);refine aT [0,1,2,3,4,5,6,7,8] 9 [10,11,12,13,14] [15,16] (by kernel_rfl) (by kernel_rfl) (fun d _ _ _ _ h=>by cases d<;>exact h) ?_;simp only[zK,zM,zI,zJ];repeat(go_big_quiet_step (fail))
  refine wpQuiet_nil ?_;clear s0 s1 k1 k4 k5;intro K hK;go_wp2_with fail;refine(GX t x ps.length c ps cd.A cd.a cd.l w3.drew ((hk.later hBw3).later (zD).drew)).mono ?_;rintro e w4 ⟨v,rs,t',rfl,hb4,hO4,hE0,hE2⟩;have hB1:Below w3.heap.size w3 w4:=⟨hb4.os,hb4.tape,hb4.output,hb4.size,hb4.block⟩;go_wp2_with fail;refine aD (hK.out _ _ hB1 ?_);clear hK K;repeat(go_big_quiet_step (fail))
  refine wpQuiet_nil ?_;have hS4:=hS3.later hB1;have hT4:eT base bs w w4:=eT.of (hBw3.trans (hB1.mono hBw3.size)) (by omega);have hO5:dJ w4 base v rs rs.length:=hO4.low (Nat.le_trans (by omega) hBw3.size);obtain⟨x1,c1,hv1, -⟩:=hO4.row.mem;subst hv1;clear hb4 hO4 hE0;obtain⟨g0,g1,g2,g3⟩:=dL hS4.box rfl rfl rfl rfl;obtain⟨gz0,gz1,gz2,gz3⟩:=iY hS4.box;go_wp2;go_ret;refine⟨by rw[hE.out];rfl,(hT4.set hlow).set hlow,fun h=>?_⟩;rw[hE.out]at h;exact⟨t',rs,_,_,_,hS4.putB hO5,hE2 h⟩
def XP(ps:List Po)(B C:Int):Rg:=⟨(dS (poAt ps (aO ps B).toNat) (jR (poAt ps (aO ps B).toNat) C)).1,(dS (poAt ps (aO ps B).toNat) (jR (poAt ps (aO ps B).toNat) C)).2,B⟩
def P0(t:Int)(ps:List Po)(vs:List Vn)(ls:List (Int×Int))(A B C:Int):Int:=if aJ vs.length vs A<0 then 5 else if cE t ps B C A=0 then iO vs.length vs ls.length ls A (XP ps B C)else cE t ps B C A
def Y8(base bs:Nat)(t:Int)(ps:List Po)(vs:List Vn)(ls:List (Int×Int))(A B C:Int)(w:World)(e:Ending)(w':World):Prop:=
 ∃a l,e= .returned (.tuple #[.agg #[.int .i64 a, .int .i64 l], .int .i64 (P0 t ps vs ls A B C)])/\eT base bs w w'/\
  (P0 t ps vs ls A B C=0->∃rs us ms vB vV vK,kN w' base bs t rs us ms vB vV vK/\kJ ps B C A a l rs/\vH vs.length vs ls A ⟨a,l,B⟩ us ms)
theorem O5(base bs:Nat)(t:Int)(ps:List Po)(vs:List Vn)(ls:List (Int×Int))(vB vV vK:Value)(cd:Cd)(w:World)(hS:kN w base bs t ps vs ls vB vV vK)(hB:aS t ps=0)(hv6:vs.length<=64):
  Calls Tryz.prog 53 #[.pointer (some ⟨bs,0,none⟩),L5 cd] w (Y8 base bs t ps vs ls cd.A cd.B cd.C w):=by
 have hbl:bs<w.heap.size:=(zG hS.box);have hlow:=hS.low;obtain⟨x,c,X,C,Y,D,rfl,rfl,rfl,hk,hvs,hvc,hv63,hps,hl63⟩:=hS.see hB;go_enter Tryz.func53,Tryz.ntmps53;go_upto_region 1 with fail
 obtain⟨w0,hw0⟩:∃w0,w0=(w.alloc (rT cd)).alloc (Y0 0 0):=⟨_,rfl⟩;rw[<-hw0];have hB0:Below w.heap.size w w0:=by rw[hw0];exact bO w _ _
 have hq0:w0.heap[w.heap.size]?=some (rT cd):=by rw[hw0];exact aG _ (aB _ rfl)
 have hq1:w0.heap[w.heap.size+1]?=some (Y0 0 0):=by rw[hw0];exact aB _ (by simp)
 have hS0:=hS.later hB0;clear hw0;have s2:=Ws.here (aP hS0.box 2 rfl);have s3:=Ws.here (aP hS0.box 3 rfl);have k1:=Ws.here (aP hq0 1 rfl);by_cases hpl:aJ vs.length vs cd.A<0
 ·have hE:P0 t ps vs ls cd.A cd.B cd.C=5:=if_pos hpl;have hge:decide (aJ vs.length vs cd.A<0)=true:=by simpa using hpl
  refine aH w0.heap.size (by kernel_rfl) (by kernel_rfl) ?_;repeat(go_big_quiet_step (first|(go_at_call 96;exact Calls.in_ws (zE) (kI cd.A X vs.length C vs Y ls.length D _ (hvs.later (hB0.trans ((Ws.property _).mono hB0.size))) (by omega)))))
  refine wpQuiet_nil ?_;rintro _ ⟨u,rfl⟩;have hBu:=hB0.trans (u.property.mono hB0.size);have hpu:=aA u.property hq1;generalize u.val=wu at hBu hpu⊢;clear u;clear s2 s3 k1 hS0 hq0 hq1;obtain⟨q0,q1⟩:=aR hpu rfl rfl;obtain⟨qz0,qz1⟩:=bW hpu;go_wp2;refine bodyPost_ret (v:= .tuple #[.agg #[.int .i64 0, .int .i64 0], .int .i64 5]) (by simp[results,Tryz.results53,go_sem,q0,q1]) rfl ?_;exact⟨0,0,by rw[hE],((eT.of hBu (by omega)).put (by omega) (by omega)).put (by omega) (by omega),fun h=>absurd (hE.symm.trans h) (by decide)⟩
 ·have hE:Hid (P0 t ps vs ls cd.A cd.B cd.C=if cE t ps cd.B cd.C cd.A=0 then iO vs.length vs ls.length ls cd.A (XP ps cd.B cd.C)else cE t ps cd.B cd.C cd.A):=if_neg hpl;have hge:decide (aJ vs.length vs cd.A<0)=false:=by simpa using hpl
  refine aH w0.heap.size (by kernel_rfl) (by kernel_rfl) ?_;repeat(go_big_quiet_step (first|(go_at_call 96;exact Calls.in_ws (zE) (kI cd.A X vs.length C vs Y ls.length D _ (hvs.later (hB0.trans ((Ws.property _).mono hB0.size))) (by omega)))))
  refine wpQuiet_nil ?_;rintro _ ⟨u,rfl⟩;have hBu:=hB0.trans (u.property.mono hB0.size);have hpu:=aA u.property hq1;have hcu:=aA u.property hq0;have hSu:=hS0.later u.property;generalize u.val=wu at hBu hpu hcu hSu⊢;clear u;clear s2 s3 k1 hS0 hq0 hq1 hge hpl;go_upto_region 3 with fail
  have s0:=Ws.here (aP hSu.box 0 rfl);have s1:=Ws.here (aP hSu.box 1 rfl);have k1:=Ws.here (aP hcu 1 rfl);have k2:=Ws.here (aP hcu 2 rfl);have k3:=Ws.here (aP hcu 3 rfl);refine aT [0,1,2,3,4,5,6,7,8,9,10] 11 [12,13,14,15,16,17] [18,19,20] (by kernel_rfl) (by kernel_rfl) (fun d _ _ _ _ h=>by cases d<;>exact h) ?_;simp only[zK,zM,zI,zJ];repeat(go_big_quiet_step (fail))
  refine wpQuiet_nil ?_;clear s0 s1 k1 k2 k3;intro K hK;go_wp2_with fail;refine(GT t x ps.length c ps cd.B cd.C cd.A wu.drew ((hk.later hBu).later (zD).drew)).mono ?_;rintro e w1 ⟨v,rs,t',a',l',rfl,hb1,hO1,hE1,hE2⟩;have hB1:Below wu.heap.size wu w1:=⟨hb1.os,hb1.tape,hb1.output,hb1.size,hb1.block⟩;have hS1:=hSu.later hB1;have hp1:=aA hB1 hpu;have hc1:=aA hB1 hcu;have hBw1:=hBu.trans (hB1.mono hBu.size);have hO2:dJ w1 base v rs rs.length:=hO1.low (Nat.le_trans (by omega) hBu.size);obtain⟨x1,c1,hv1, -⟩:=hO1.row.mem;subst hv1;have hbx:lH w1 (w.heap.size+1) 26:=⟨_,hp1⟩;have ne1:bs≠w.heap.size+1:=by omega
  have ne2:w.heap.size≠bs:=by omega
  have ne3:w.heap.size≠w.heap.size+1:=by omega
  have ne4:w.heap.size+1≠bs:=by omega
  clear hb1 hO1;by_cases h0:cE t ps cd.B cd.C cd.A=0
  ·obtain⟨rfl,hal,hqq⟩:=hE2 h0;rw[if_pos h0]at hE;rw[h0];clear hE1 hE2 h0;go_wp2_with fail;refine aD (hK.out _ _ hB1 ?_);clear hK K;repeat(go_big_quiet_step (fail))
   refine wpQuiet_nil ?_;obtain⟨g0,g1,g2,g3⟩:=dL hS1.box rfl rfl rfl rfl;obtain⟨gz0,gz1,gz2,gz3⟩:=iY hS1.box;obtain⟨q0,q1⟩:=aR hp1 rfl rfl;obtain⟨qz0,qz1⟩:=bW hp1;go_upto_region 6 with fail
   obtain⟨w2,hw2⟩:∃w2,w2=(((w1.setCell ⟨bs,0,none⟩ (.int .i64 t')).setCell ⟨bs,1,none⟩ (.slice x1 rs.length c1)).setCell ⟨w.heap.size+1,0,none⟩ (.int .i64 a')).setCell ⟨w.heap.size+1,1,none⟩ (.int .i64 l'):=⟨_,rfl⟩;rw[<-hw2];have hS2:kN w2 base bs t' rs vs ls (.slice x1 rs.length c1) (.slice X vs.length C) (.slice Y ls.length D):=by rw[hw2];exact((hS1.putB hO2).put hbx.put.put (by decide) ne1).put hbx.put.put.put (by decide) ne1
   have hp2:w2.heap[w.heap.size+1]?=some (Y0 a' l'):=by rw[hw2];exact zC (zC ((zB ne4).trans ((zB ne4).trans hp1)))
   have hc2:w2.heap[w.heap.size]?=some (rT cd):=by rw[hw2];exact(zB ne3).trans ((zB ne3).trans ((zB ne2).trans ((zB ne2).trans hc1)))
   have hT2:eT base bs w w2:=by rw[hw2];exact((((eT.of hBw1 (by omega)).set hlow).set hlow).put (by omega) (by omega)).put (by omega) (by omega)
   have hsz2:w.heap.size+1<w2.heap.size:=(zG hp2);clear hw2 hS1 hp1 hc1 hO2 hbx g0 g1 g2 g3 gz0 gz1 gz2 gz3 q0 q1 qz0 qz1;obtain⟨X',C',hv',hvs2,hvc2, -⟩:=hS2.own.row.vs (fun u hu=>(hS2.own.net u hu).ok);simp only[Value.slice.injEq]at hv';obtain⟨rfl, -,rfl⟩:=hv';obtain⟨Y',D',hk',hps2, -⟩:=hS2.own.lks.ps;simp only[Value.slice.injEq]at hk';obtain⟨rfl, -,rfl⟩:=hk';have q0:=Ws.here (aP hp2 0 rfl);have q1:=Ws.here (aP hp2 1 rfl);have s2:=Ws.here (aP hS2.box 2 rfl);have s3:=Ws.here (aP hS2.box 3 rfl);have k1:=Ws.here (aP hc2 1 rfl);have k2:=Ws.here (aP hc2 2 rfl);refine aT [0,1,2,3,4,5,6,7,8,9,10] 11 [12,13,14,15,16] [17,18] (by kernel_rfl) (by kernel_rfl) (fun d _ _ _ _ h=>by cases d<;>exact h) ?_;simp only[zK,zM,zI,zJ];repeat(go_big_quiet_step (fail))
   refine wpQuiet_nil ?_;clear s2 s3 k1 k2 q0 q1;intro K hK;go_wp2_with fail;refine(OP X vs.length C vs Y ls.length D ls cd.A ⟨a',l',cd.B⟩ w2.drew (hvs2.later (zD).drew) hv63 hvc (hps2.later (zD).drew) hl63).mono ?_;rintro e w3 ⟨V,rfl,hb3,hV0,hV1⟩;have hB1:Below w2.heap.size w2 w3:=⟨hb3.os,hb3.tape,hb3.output,hb3.size,hb3.block⟩;have hS3:=hS2.later hB1;have hp3:=aA hB1 hp2;have hT3:eT base bs w w3:=hT2.trans (eT.of hB1 (by omega));have hgr:XP ps cd.B cd.C=⟨a',l',cd.B⟩:=by unfold XP;rw[<-hal]
   have hE':Hid (P0 t' ps vs ls cd.A cd.B cd.C=iO vs.length vs ls.length ls cd.A ⟨a',l',cd.B⟩):=by show _=_;rw[hE.out,hgr]
   obtain⟨y1,m1,d1,y2,m2,d2,rfl⟩:=qA hV0 hV1;have hbx3:lH w3 (w.heap.size+1) 26:=⟨_,hp3⟩;clear hV0 hb3 hgr;go_wp2_with fail;refine aD (hK.out _ _ hB1 ?_);clear hK K;repeat(go_big_quiet_step (fail))
   refine wpQuiet_nil ?_;obtain⟨g0,g1,g2,g3⟩:=dL hS3.box rfl rfl rfl rfl;obtain⟨gz0,gz1,gz2,gz3⟩:=iY hS3.box;obtain⟨q0,q1⟩:=aR hp3 rfl rfl;obtain⟨qz0,qz1⟩:=bW hp3;go_wp2;refine bodyPost_ret (v:= .tuple #[.agg #[.int .i64 a', .int .i64 l'], .int .i64 (iO vs.length vs ls.length ls cd.A ⟨a',l',cd.B⟩)]) (by simp[results,Tryz.results53,go_sem,q0,q1]) rfl ?_;refine⟨a',l',by rw[hE'.out],(((hT3.set hlow).set hlow).put (by omega) (by omega)).put (by omega) (by omega),fun h=>?_⟩;rw[hE'.out]at h;obtain⟨us,ms,⟨v',k',e',hOV,hVo,hOK⟩,hR⟩:=hV1 h
   cases e';have hlo:base<=w2.drew.heap.size:=by show base<=w2.heap.size;omega
   exact⟨rs,us,ms,_,_,_,((hS3.putN (hOV.low hlo) (fun u hu=>((hVo u hu).low hlo).vty) (hOK.low hlo)).put hbx3.put.put (by decide) ne1).put hbx3.put.put.put (by decide) ne1,⟨hal,hqq⟩,hR⟩
  ·have hne:(cE t ps cd.B cd.C cd.A !=0)=true:=by simpa using h0
   have hE':Hid (P0 t ps vs ls cd.A cd.B cd.C=cE t ps cd.B cd.C cd.A):=by show _=_;rw[hE.out,if_neg h0]
   have h0':Hid (cE t ps cd.B cd.C cd.A≠0):=h0;clear h0 hE hE1 hE2;go_wp2_with fail;refine aD (hK.out _ _ hB1 ?_);clear hK K;repeat(go_big_quiet_step (fail))
   refine wpQuiet_nil ?_;obtain⟨g0,g1,g2,g3⟩:=dL hS1.box rfl rfl rfl rfl;obtain⟨gz0,gz1,gz2,gz3⟩:=iY hS1.box;obtain⟨q0,q1⟩:=aR hp1 rfl rfl;obtain⟨qz0,qz1⟩:=bW hp1;go_upto_region 4 with fail
   obtain⟨w2,hw2⟩:∃w2,w2=(((w1.setCell ⟨bs,0,none⟩ (.int .i64 t')).setCell ⟨bs,1,none⟩ (.slice x1 rs.length c1)).setCell ⟨w.heap.size+1,0,none⟩ (.int .i64 a')).setCell ⟨w.heap.size+1,1,none⟩ (.int .i64 l'):=⟨_,rfl⟩;rw[<-hw2];have hp2:w2.heap[w.heap.size+1]?=some (Y0 a' l'):=by rw[hw2];exact zC (zC ((zB ne4).trans ((zB ne4).trans hp1)))
   have hT2:eT base bs w w2:=by rw[hw2];exact((((eT.of hBw1 (by omega)).set hlow).set hlow).put (by omega) (by omega)).put (by omega) (by omega)
   clear hw2 hS1 hp1 hO2 hbx g0 g1 g2 g3 gz0 gz1 gz2 gz3 q0 q1 qz0 qz1;obtain⟨q0,q1⟩:=aR hp2 rfl rfl;obtain⟨qz0,qz1⟩:=bW hp2;go_wp2;refine bodyPost_ret (v:= .tuple #[.agg #[.int .i64 0, .int .i64 0], .int .i64 (cE t ps cd.B cd.C cd.A)]) (by simp[results,Tryz.results53,go_sem,q0,q1]) rfl ?_;exact⟨0,0,by rw[hE'.out],(hT2.put (by omega) (by omega)).put (by omega) (by omega),fun h=>absurd (hE'.out.symm.trans h) h0'.out⟩
theorem O6(i j k:Nat)(D1 D2 D3:Array Bool)(hr:Region.ready .any l.toArray listed=[i,j,k])(hi:decide (i<l.length/\j<l.length/\k<l.length)=true)(h1:listed.setIfInBounds i true=D1)(h2:listed.setIfInBounds j true=D2)(h3:listed.setIfInBounds k true=D3)
 (g1:∀K,CK P l Q S T f i D1 K->wpList P l.toArray (mY K Q) [l.getD i lK] a w)(g2:∀K,CK P l Q S T f j D2 K->wpList P l.toArray (mY K Q) [l.getD j lK] a w)(g3:∀K,CK P l Q S T f k D3 K->wpList P l.toArray (mY K Q) [l.getD k lK] a w):qE P l.toArray Q S T (f+1) listed a w:=by
 subst h1;subst h2;subst h3;obtain⟨b1,b2,b3⟩:=of_decide_eq_true hi;refine⟨fun h1=>(by rw[hr]at h1;cases h1),fun m hm=>?_⟩;rw[hr]at hm;have hm':m=i\/m=j\/m=k:=by simpa using hm
 rcases hm' with rfl|rfl|rfl
 ·exact eJ b1 (g1 _ ⟨fun _ _ h1 h2=>⟨fun _=>h1,h2⟩⟩)
 ·exact eJ b2 (g2 _ ⟨fun _ _ h1 h2=>⟨fun _=>h1,h2⟩⟩)
 ·exact eJ b3 (g3 _ ⟨fun _ _ h1 h2=>⟨fun _=>h1,h2⟩⟩)
structure O7(v:Vn)(c m:Int)(i:Nat):Prop where
 lt:i<v.rn
 yes:rpB v.rs c m i=true
 no:∀j,j<i->rpB v.rs c m j=false
def XQ(t:Int)(ps:List Po)(vs:List Vn)(A c m E:Int):Prop:=(aJ vs.length vs A<0/\E=5)\/∃k:Nat,k<vs.length/\aJ vs.length vs A=k/\
 ((fJ (aE vs k).id (aE vs k).rn (aE vs k).rs (aE vs k).sn (aE vs k).ss c m≠0/\E=fJ (aE vs k).id (aE vs k).rn (aE vs k).rs (aE vs k).sn (aE vs k).ss c m)\/
  (fJ (aE vs k).id (aE vs k).rn (aE vs k).rs (aE vs k).sn (aE vs k).ss c m=0/\∃i,O7 (aE vs k) c m i/\E=iQ t ps (aQ (aE vs k).rs i).p (aQ (aE vs k).rs i).a (aQ (aE vs k).rs i).l))
def DpR(t:Int)(ps:List Po)(vs:List Vn)(A c m t':Int)(rs:List Po)(us:List Vn):Prop:=∃(k i:Nat) (u:Vn),k<vs.length/\aJ vs.length vs A=k/\fJ (aE vs k).id (aE vs k).rn (aE vs k).rs (aE vs k).sn (aE vs k).ss c m=0/\O7 (aE vs k) c m i/\
 us=vs.set k u/\u.id=(aE vs k).id/\u.rs=(aE vs k).rs.take i++(aE vs k).rs.drop (i+1)/\u.rn=u.rs.length/\bQ (aE vs k).ss u.ss/\u.sn=u.ss.length/\oE t ps (aQ (aE vs k).rs i).p (aQ (aE vs k).rs i).a (aQ (aE vs k).rs i).l t' rs
def ZA(base bs:Nat)(t:Int)(ps:List Po)(vs:List Vn)(ls:List (Int×Int))(A c m:Int)(w:World)(e:Ending)(w':World):Prop:=
 ∃E,e= .returned (.int .i64 E)/\eT base bs w w'/\XQ t ps vs A c m E/\(E=0->∃t' rs us vB vV vK,kN w' base bs t' rs us ls vB vV vK/\DpR t ps vs A c m t' rs us)
abbrev aBj(u:Vn):Obj:=cY u.id (.slice u.rx u.rn u.rc) (.slice u.sx u.sn u.sc)
def DrK(v:Vn)(c m:Int)(k:Nat)(u:Vn)(r:Rg):Prop:=O7 v c m k/\r=aQ v.rs k/\u.id=v.id/\u.rs=v.rs.take k++v.rs.drop (k+1)/\u.rn=u.rs.length/\bQ v.ss u.ss/\u.sn=u.ss.length
theorem tN{c m ed:Int}(hed:fJ v.id v.rn v.rs v.sn v.ss c m=ed)(h:kB v.id v.rn v.rs v.sn v.ss c m w e w'):∃u r,e= .returned (.tuple #[XM u, .agg #[.int .i64 (Rg.a r), .int .i64 r.l, .int .i64 r.p], .int .i64 ed])/\Below w.heap.size w w'/\
  (ed=0->pZ w' w.heap.size u)/\(ed=0->∃k,DrK v c m k u r):=by
 obtain⟨V,r,rfl,hb,h1,h2⟩:=h;rw[hed]at h1 h2⊢;by_cases h0:ed=0
 ·obtain⟨ts,i,hs,hi,hy,hn,hr,hN⟩:=h2 h0;obtain⟨u,rfl,g1,g2,g3,g4,g5,g6⟩:=hN.vn;exact⟨u,r,rfl,hb,fun _=>g6,fun _=>⟨i,⟨hi,hy,hn⟩,hr,g1,g2,by rw[g3,g2],by rw[g4];exact hs,by rw[g5,g4]⟩⟩
 ·obtain⟨rfl, -⟩:=h1 h0;exact⟨newV 0,r,rfl,hb,fun h=>absurd h h0,fun h=>absurd h h0⟩
theorem bH{E:Prop}(hp:w3.heap[p]?=some (cY 0 (.slice none 0 0) (.slice none 0 0)))(hq:w3.heap[q]?=some (FY ⟨0,0,0⟩))(h1:W.heap.size<=p)(h2:W.heap.size<=q)(hB:Below W.heap.size W w3)(hu:E->pZ w3 W.heap.size u)(hk:E->∀k,(Value.slice u.rx u.rn u.rc).ownBlock=some k->k≠q):
  Below W.heap.size W ((((((w3.setCell ⟨p,0,none⟩ (.int .i64 u.id)).setCell ⟨p,1,none⟩ (.slice u.rx u.rn u.rc)).setCell ⟨p,2,none⟩ (.slice u.sx u.sn u.sc)).setCell ⟨q,0,none⟩ (.int .i64 r.a)).setCell ⟨q,1,none⟩ (.int .i64 r.l)).setCell ⟨q,2,none⟩ (.int .i64 r.p))/\
  ((((((w3.setCell ⟨p,0,none⟩ (.int .i64 u.id)).setCell ⟨p,1,none⟩ (.slice u.rx u.rn u.rc)).setCell ⟨p,2,none⟩ (.slice u.sx u.sn u.sc)).setCell ⟨q,0,none⟩ (.int .i64 r.a)).setCell ⟨q,1,none⟩ (.int .i64 r.l)).setCell ⟨q,2,none⟩ (.int .i64 r.p)).heap[p]?=some (aBj u)/\
  ((((((w3.setCell ⟨p,0,none⟩ (.int .i64 u.id)).setCell ⟨p,1,none⟩ (.slice u.rx u.rn u.rc)).setCell ⟨p,2,none⟩ (.slice u.sx u.sn u.sc)).setCell ⟨q,0,none⟩ (.int .i64 r.a)).setCell ⟨q,1,none⟩ (.int .i64 r.l)).setCell ⟨q,2,none⟩ (.int .i64 r.p)).heap[q]?=some (FY r)/\
  (E->pZ ((((((w3.setCell ⟨p,0,none⟩ (.int .i64 u.id)).setCell ⟨p,1,none⟩ (.slice u.rx u.rn u.rc)).setCell ⟨p,2,none⟩ (.slice u.sx u.sn u.sc)).setCell ⟨q,0,none⟩ (.int .i64 r.a)).setCell ⟨q,1,none⟩ (.int .i64 r.l)).setCell ⟨q,2,none⟩ (.int .i64 r.p)) W.heap.size u):=by
 have hne:p≠q:=fun e=>by rw[<-e,hp]at hq;simp at hq
 have a1:=heap_setCell_same w3 p 0 _ _ (.int .i64 u.id) hp;have a2:=heap_setCell_same _ p 1 _ _ (.slice u.rx u.rn u.rc) a1;have a3:=heap_setCell_same _ p 2 _ _ (.slice u.sx u.sn u.sc) a2;have b0:=(heap_setCell_other _ ⟨p,2,none⟩ _ (.slice u.sx u.sn u.sc) hne.symm).trans ((heap_setCell_other _ ⟨p,1,none⟩ _ (.slice u.rx u.rn u.rc) hne.symm).trans ((heap_setCell_other w3 ⟨p,0,none⟩ _ (.int .i64 u.id) hne.symm).trans hq));have b1:=heap_setCell_same _ q 0 _ _ (.int .i64 r.a) b0;have b2:=heap_setCell_same _ q 1 _ _ (.int .i64 r.l) b1;have b3:=heap_setCell_same _ q 2 _ _ (.int .i64 r.p) b2;refine⟨(((((hB.setCell (p:=⟨p,0,none⟩) h1 _).setCell (p:=⟨p,1,none⟩) h1 _).setCell (p:=⟨p,2,none⟩) h1 _).setCell (p:=⟨q,0,none⟩) h2 _).setCell (p:=⟨q,1,none⟩) h2 _).setCell (p:=⟨q,2,none⟩) h2 _,(zB hne).trans ((zB hne).trans ((zB hne).trans a3)),b3,fun h=>?_⟩;have v1:=(((hu h).kept (aI _ p 0 (.int .i64 u.id)) hp (by decide) (by decide) (by decide) (by decide)).kept (aI _ p 1 (.slice u.rx u.rn u.rc)) a1 (by decide) (by decide) (by decide) (by decide)).kept (aI _ p 2 (.slice u.sx u.sn u.sc)) a2 (by decide) (by decide) (by decide) (by decide);have st:∀(V:World) (cs:Array Value) (o:Nat) (x:Value),V.heap[q]?=some (.cells cs 127)->pZ V W.heap.size u->pZ (V.setCell ⟨q,o,none⟩ x) W.heap.size u:=fun V cs o x hV hv=>
  ⟨hv.1.kept (aI _ _ _ _) (fun k e=>hk h k e),hv.2.1.kept (aI _ _ _ _) (fun _ g e=>by subst e;exact hv.2.1.ne hV (by decide) g),hv.2.2.keptOf (aI _ _ _ _) hV (by decide) (by decide)⟩
 exact st _ _ _ _ b2 (st _ _ _ _ b1 (st _ _ _ _ b0 v1))
theorem O8(base bs:Nat)(t:Int)(ps:List Po)(vs:List Vn)(ls:List (Int×Int))(vB vV vK:Value)(cd:Cd)(w:World)(hS:kN w base bs t ps vs ls vB vV vK)(hB:aS t ps=0)(hv6:vs.length<=64):
  Calls Tryz.prog 54 #[.pointer (some ⟨bs,0,none⟩),L5 cd] w (ZA base bs t ps vs ls cd.A cd.a cd.l w):=by
 have hbl:bs<w.heap.size:=(zG hS.box);have hlow:=hS.low;obtain⟨x,c,X,C,Y,D,rfl,rfl,rfl,hk,hvs,hvc,hv63,hps,hl63⟩:=hS.see hB;go_enter Tryz.func54,Tryz.ntmps54;go_upto_region 1 with fail
 obtain⟨w0,hw0⟩:∃w0,w0=w.alloc (rT cd):=⟨_,rfl⟩;rw[<-hw0];have hB0:Below w.heap.size w w0:=by rw[hw0];exact bl1 w _
 have hq0:w0.heap[w.heap.size]?=some (rT cd):=by rw[hw0];exact aB _ rfl
 have hS0:=hS.later hB0;clear hw0;have s2:=Ws.here (aP hS0.box 2 rfl);have s3:=Ws.here (aP hS0.box 3 rfl);have k1:=Ws.here (aP hq0 1 rfl);obtain⟨tp,htp⟩:∃tp,aJ vs.length vs cd.A=tp:=⟨_,rfl⟩;have hpc:=vplace_cases vs.length vs cd.A;rw[htp]at hpc;refine aH w0.heap.size (by kernel_rfl) (by kernel_rfl) ?_;repeat(go_big_quiet_step (first|(go_at_call 96;exact Calls.in_ws (zE) (vM cd.A X vs.length C vs Y ls.length D tp htp _ (hvs.later (hB0.trans ((Ws.property _).mono hB0.size))) (by omega)))))
 refine wpQuiet_nil ?_;rintro _ ⟨u,rfl⟩;have hBu:=hB0.trans (u.property.mono hB0.size);have hcu:=aA u.property hq0;have hSu:=hS0.later u.property;generalize u.val=wu at hBu hcu hSu⊢;clear u;clear s2 s3 k1 hS0 hq0;have hpt:Hid (aJ vs.length vs cd.A=tp):=htp;clear htp;rcases hpc with ⟨i,hi, -,hti⟩|hti
 ·subst hti;have hi0:¬((i:Int)<0):=by omega
  have hi':Hid (i<vs.length):=hi;obtain⟨g,C2,hvV⟩:=hSu.own.row.held (by omega);simp only[Value.slice.injEq]at hvV;obtain⟨rfl, -,rfl⟩:=hvV;have hvt:=hSu.own.net _ (eA hi);have hvp:=hvt.ok;obtain⟨y0,y1,y2⟩:=hSu.own.row.cells i hi;have hdr:=fun W (hW:Below wu.heap.size wu W)=>OG (aE vs i).id (aE vs i).rx (aE vs i).rn (aE vs i).rc (aE vs i).rs (aE vs i).sx (aE vs i).sn (aE vs i).sc (aE vs i).ss cd.a cd.l W (hvp.2.2.2.later hW) hvp.1 hvp.2.1 hvp.2.2.1;have hi1:(i:Int)<vs.length:=by omega
  have hi2:(0:Int)<=i:=by omega
  go_upto_region 4 with fail
  have s2:=Ws.here (aP hSu.box 2 rfl);have a0:=Ws.here y0;have a1:=Ws.here y1;have a2:=Ws.here y2;have k4:=Ws.here (aP hcu 4 rfl);have k5:=Ws.here (aP hcu 5 rfl);clear y0 y1 y2;obtain⟨ed,hed⟩:∃ed,fJ (aE vs i).id (aE vs i).rn (aE vs i).rs (aE vs i).sn (aE vs i).ss cd.a cd.l=ed:=⟨_,rfl⟩;go_cut [6,7,8] (fun p q v wd=>v= .int .i64 ed/\∃bp bq u r,p= .pointer (some ⟨bp,0,none⟩)/\q= .pointer (some ⟨bq,0,none⟩)/\wu.heap.size<=bp/\wu.heap.size<=bq/\Below wu.heap.size wu wd/\wd.heap[bp]?=some (aBj u)/\wd.heap[bq]?=some (FY r)/\
   (ed=0->pZ wd wu.heap.size u)/\(ed=0->∃k,DrK (aE vs i) cd.a cd.l k u r))
  case first=>
   refine bN (fun w'=>∃u:Ws wu.heap.size wu,w'=u.val) (fun j=>decide (j<11)||(decide (j=15)||decide (j=16))) 20 _ (by kernel_rfl) rfl rfl ?_
   refine bL 10 [0,1,2,3,4,5,6,7,8,9] rfl _ rfl (by kernel_rfl) (fun d _ _ _ _ h=>by cases d<;>exact h) ⟨⟨_,(zD).drew⟩,rfl⟩ ?_
   simp only[zK,zM,zI,zJ]
   repeat(go_big_quiet_step (fail))
   refine wpQuiet_nil ?_
   clear s2 a0 a1 a2 k4 k5 hcu hSu hpt hi1 hi2
   refine O6 10 15 16 _ _ _ (by kernel_rfl) (by kernel_rfl) rfl rfl rfl ?_ ?_ ?_
   ·have hW0:Below wu.heap.size wu wu.drew:=(zD).drew;intro K hK;simp only[zI,zJ];go_wp2_with fail;refine(hdr wu.drew hW0).mono ?_;rintro e w1 hpo;obtain⟨u,r,rfl,hbw1,hu,hR⟩:=tN hed hpo;go_wp2_with fail;have hW1:Below wu.heap.size wu w1:=hW0.trans (hbw1.mono hW0.size);refine aD (hK.out _ _ ⟨⟨_,hW1⟩,rfl⟩ ?_);clear hK K;refine nV 5 [11,12,13,14] rfl _ rfl (by kernel_rfl) (fun d _ _ _ _ h=>by cases d<;>exact h) ?_;simp only[zK,zM,zI,zJ];repeat(go_big_quiet_step (fail))
    refine wpQuiet_nil ?_;refine kO 15 16 _ _ _ _ (by kernel_rfl) (by kernel_rfl) rfl rfl rfl rfl ?_ ?_
    ·intro K hK;simp only[zI,zJ];go_wp2_with fail;obtain⟨w2,hww2⟩:∃W,W=w1.alloc (cY 0 (.slice none 0 0) (.slice none 0 0)):=⟨_,rfl⟩;rw[<-hww2];have hbw2:Below w1.heap.size w1 w2:=by rw[hww2];exact bl1 w1 _
     have hx15:w2.heap[w1.heap.size]?=some (cY 0 (.slice none 0 0) (.slice none 0 0)):=by rw[hww2];exact aB _ rfl
     clear hww2;have hW2:Below wu.heap.size wu w2:=hW1.trans (hbw2.mono hW1.size);refine aD (hK.out _ _ ⟨⟨_,hW2⟩,rfl⟩ ?_);clear hK K;refine aZ 16 _ _ (by kernel_rfl) (by kernel_rfl) rfl rfl ?_;intro K hK;simp only[zI,zJ];go_wp2_with fail;obtain⟨w3,hww3⟩:∃W,W=w2.alloc (FY ⟨0,0,0⟩):=⟨_,rfl⟩;rw[<-hww3];have hbw3:Below w2.heap.size w2 w3:=by rw[hww3];exact bl1 w2 _
     have hx16:w3.heap[w2.heap.size]?=some (FY ⟨0,0,0⟩):=by rw[hww3];exact aB _ rfl
     clear hww3;have hW3:Below wu.heap.size wu w3:=hW2.trans (hbw3.mono hW2.size);refine aD (hK.out _ _ ⟨⟨_,hW3⟩,rfl⟩ ?_);clear hK K;have hy15:=aA hbw3 (hx15);have hy16:=hx16;have hu3:ed=0->pZ w3 wu.heap.size u:=fun h=>((((hu h).low (hW0.size))).later hbw2).later hbw3;have e0:wu.heap.size<=w1.heap.size:=hbw1.size;have e1:w1.heap.size<=w2.heap.size:=hbw2.size;have e2:w2.heap.size<=w3.heap.size:=hbw3.size;have l16:w2.heap.size<w3.heap.size:=(zG hx16);have l15:w1.heap.size<w2.heap.size:=(zG hx15);have nq1:¬w1.heap.size=w2.heap.size:=by omega
     have nq2:¬w2.heap.size=w1.heap.size:=by omega
     have hk3:ed=0->∀k,(Value.slice u.rx u.rn u.rc).ownBlock=some k->k≠w2.heap.size:=fun h k hk=>by
      have e:wu.heap.size<=k/\k<w1.heap.size:=(hu h).1.lt k hk;omega
     have hz15:wu.heap.size<=w1.heap.size:=hW1.size;have hz16:wu.heap.size<=w2.heap.size:=hW2.size;clear hu hdr;refine bB [17,18,19] rfl (by kernel_rfl) ?_;simp only[zK,zM,zI,zJ];obtain⟨p0,p1,p2⟩:=bI hy15 rfl rfl rfl;obtain⟨pz0,pz1,pz2⟩:=dQ hy15;obtain⟨q0,q1,q2⟩:=bI hy16 rfl rfl rfl;obtain⟨qz0,qz1,qz2⟩:=dQ hy16;go_wp2_with fail;go_meet
     case rel=>exact⟨rfl,_,_,u,r,rfl,rfl,hz15,hz16,(bH hy15 hy16 hz15 hz16 hW3 hu3 hk3).1,(bH hy15 hy16 hz15 hz16 hW3 hu3 hk3).2.1,(bH hy15 hy16 hz15 hz16 hW3 hu3 hk3).2.2.1,(bH hy15 hy16 hz15 hz16 hW3 hu3 hk3).2.2.2,hR⟩
    ·intro K hK;simp only[zI,zJ];go_wp2_with fail;obtain⟨w2,hww2⟩:∃W,W=w1.alloc (FY ⟨0,0,0⟩):=⟨_,rfl⟩;rw[<-hww2];have hbw2:Below w1.heap.size w1 w2:=by rw[hww2];exact bl1 w1 _
     have hx16:w2.heap[w1.heap.size]?=some (FY ⟨0,0,0⟩):=by rw[hww2];exact aB _ rfl
     clear hww2;have hW2:Below wu.heap.size wu w2:=hW1.trans (hbw2.mono hW1.size);refine aD (hK.out _ _ ⟨⟨_,hW2⟩,rfl⟩ ?_);clear hK K;refine aZ 15 _ _ (by kernel_rfl) (by kernel_rfl) rfl rfl ?_;intro K hK;simp only[zI,zJ];go_wp2_with fail;obtain⟨w3,hww3⟩:∃W,W=w2.alloc (cY 0 (.slice none 0 0) (.slice none 0 0)):=⟨_,rfl⟩;rw[<-hww3];have hbw3:Below w2.heap.size w2 w3:=by rw[hww3];exact bl1 w2 _
     have hx15:w3.heap[w2.heap.size]?=some (cY 0 (.slice none 0 0) (.slice none 0 0)):=by rw[hww3];exact aB _ rfl
     clear hww3;have hW3:Below wu.heap.size wu w3:=hW2.trans (hbw3.mono hW2.size);refine aD (hK.out _ _ ⟨⟨_,hW3⟩,rfl⟩ ?_);clear hK K;have hy15:=hx15;have hy16:=aA hbw3 (hx16);have hu3:ed=0->pZ w3 wu.heap.size u:=fun h=>((((hu h).low (hW0.size))).later hbw2).later hbw3;have e0:wu.heap.size<=w1.heap.size:=hbw1.size;have e1:w1.heap.size<=w2.heap.size:=hbw2.size;have e2:w2.heap.size<=w3.heap.size:=hbw3.size;have l16:w1.heap.size<w2.heap.size:=(zG hx16);have l15:w2.heap.size<w3.heap.size:=(zG hx15);have nq1:¬w2.heap.size=w1.heap.size:=by omega
     have nq2:¬w1.heap.size=w2.heap.size:=by omega
     have hk3:ed=0->∀k,(Value.slice u.rx u.rn u.rc).ownBlock=some k->k≠w1.heap.size:=fun h k hk=>by
      have e:wu.heap.size<=k/\k<w1.heap.size:=(hu h).1.lt k hk;omega
     have hz15:wu.heap.size<=w2.heap.size:=hW2.size;have hz16:wu.heap.size<=w1.heap.size:=hW1.size;clear hu hdr;refine bB [17,18,19] rfl (by kernel_rfl) ?_;simp only[zK,zM,zI,zJ];obtain⟨p0,p1,p2⟩:=bI hy15 rfl rfl rfl;obtain⟨pz0,pz1,pz2⟩:=dQ hy15;obtain⟨q0,q1,q2⟩:=bI hy16 rfl rfl rfl;obtain⟨qz0,qz1,qz2⟩:=dQ hy16;go_wp2_with fail;go_meet
     case rel=>exact⟨rfl,_,_,u,r,rfl,rfl,hz15,hz16,(bH hy15 hy16 hz15 hz16 hW3 hu3 hk3).1,(bH hy15 hy16 hz15 hz16 hW3 hu3 hk3).2.1,(bH hy15 hy16 hz15 hz16 hW3 hu3 hk3).2.2.1,(bH hy15 hy16 hz15 hz16 hW3 hu3 hk3).2.2.2,hR⟩
   ·have hW0:Below wu.heap.size wu wu.drew:=(zD).drew;intro K hK;simp only[zI,zJ];go_wp2_with fail;obtain⟨w1,hww1⟩:∃W,W=(wu.alloc (cY 0 (.slice none 0 0) (.slice none 0 0))).drew:=⟨_,rfl⟩;rw[<-hww1];have hbw1:Below wu.drew.heap.size wu.drew w1:=by rw[hww1];exact⟨rfl,rfl,rfl,(bl1 wu _).size,(bl1 wu _).block⟩
    have hx15:w1.heap[wu.heap.size]?=some (cY 0 (.slice none 0 0) (.slice none 0 0)):=by rw[hww1];exact aB (W:=wu) _ rfl
    clear hww1;have hW1:Below wu.heap.size wu w1:=hW0.trans (hbw1.mono hW0.size);refine aD (hK.out _ _ ⟨⟨_,hW1⟩,rfl⟩ ?_);clear hK K;refine kO 10 16 _ _ _ _ (by kernel_rfl) (by kernel_rfl) rfl rfl rfl rfl ?_ ?_
    ·intro K hK;simp only[zI,zJ];go_wp2_with fail;refine(hdr w1 hW1).mono ?_;rintro e w2 hpo;obtain⟨u,r,rfl,hbw2,hu,hR⟩:=tN hed hpo;go_wp2_with fail;have hW2:Below wu.heap.size wu w2:=hW1.trans (hbw2.mono hW1.size);refine aD (hK.out _ _ ⟨⟨_,hW2⟩,rfl⟩ ?_);clear hK K;refine nV 4 [11,12,13,14] rfl _ rfl (by kernel_rfl) (fun d _ _ _ _ h=>by cases d<;>exact h) ?_;simp only[zK,zM,zI,zJ];repeat(go_big_quiet_step (fail))
     refine wpQuiet_nil ?_;refine aZ 16 _ _ (by kernel_rfl) (by kernel_rfl) rfl rfl ?_;intro K hK;simp only[zI,zJ];go_wp2_with fail;obtain⟨w3,hww3⟩:∃W,W=w2.alloc (FY ⟨0,0,0⟩):=⟨_,rfl⟩;rw[<-hww3];have hbw3:Below w2.heap.size w2 w3:=by rw[hww3];exact bl1 w2 _
     have hx16:w3.heap[w2.heap.size]?=some (FY ⟨0,0,0⟩):=by rw[hww3];exact aB _ rfl
     clear hww3;have hW3:Below wu.heap.size wu w3:=hW2.trans (hbw3.mono hW2.size);refine aD (hK.out _ _ ⟨⟨_,hW3⟩,rfl⟩ ?_);clear hK K;have hy15:=aA hbw3 (aA hbw2 (hx15));have hy16:=hx16;have hu3:ed=0->pZ w3 wu.heap.size u:=fun h=>(((hu h).low (hW1.size))).later hbw3;have e0:wu.heap.size<=w1.heap.size:=hbw1.size;have e1:w1.heap.size<=w2.heap.size:=hbw2.size;have e2:w2.heap.size<=w3.heap.size:=hbw3.size;have l16:w2.heap.size<w3.heap.size:=(zG hx16);have l15:wu.heap.size<w1.heap.size:=(zG hx15);have nq1:¬wu.heap.size=w2.heap.size:=by omega
     have nq2:¬w2.heap.size=wu.heap.size:=by omega
     have hk3:ed=0->∀k,(Value.slice u.rx u.rn u.rc).ownBlock=some k->k≠w2.heap.size:=fun h k hk=>by
      have e:w1.heap.size<=k/\k<w2.heap.size:=(hu h).1.lt k hk;omega
     have hz15:wu.heap.size<=wu.heap.size:=zE;have hz16:wu.heap.size<=w2.heap.size:=hW2.size;clear hu hdr;refine bB [17,18,19] rfl (by kernel_rfl) ?_;simp only[zK,zM,zI,zJ];obtain⟨p0,p1,p2⟩:=bI hy15 rfl rfl rfl;obtain⟨pz0,pz1,pz2⟩:=dQ hy15;obtain⟨q0,q1,q2⟩:=bI hy16 rfl rfl rfl;obtain⟨qz0,qz1,qz2⟩:=dQ hy16;go_wp2_with fail;go_meet
     case rel=>exact⟨rfl,_,_,u,r,rfl,rfl,hz15,hz16,(bH hy15 hy16 hz15 hz16 hW3 hu3 hk3).1,(bH hy15 hy16 hz15 hz16 hW3 hu3 hk3).2.1,(bH hy15 hy16 hz15 hz16 hW3 hu3 hk3).2.2.1,(bH hy15 hy16 hz15 hz16 hW3 hu3 hk3).2.2.2,hR⟩
    ·intro K hK;simp only[zI,zJ];go_wp2_with fail;obtain⟨w2,hww2⟩:∃W,W=w1.alloc (FY ⟨0,0,0⟩):=⟨_,rfl⟩;rw[<-hww2];have hbw2:Below w1.heap.size w1 w2:=by rw[hww2];exact bl1 w1 _
     have hx16:w2.heap[w1.heap.size]?=some (FY ⟨0,0,0⟩):=by rw[hww2];exact aB _ rfl
     clear hww2;have hW2:Below wu.heap.size wu w2:=hW1.trans (hbw2.mono hW1.size);refine aD (hK.out _ _ ⟨⟨_,hW2⟩,rfl⟩ ?_);clear hK K;refine aZ 10 _ _ (by kernel_rfl) (by kernel_rfl) rfl rfl ?_;intro K hK;simp only[zI,zJ];go_wp2_with fail;refine(hdr w2 hW2).mono ?_;rintro e w3 hpo;obtain⟨u,r,rfl,hbw3,hu,hR⟩:=tN hed hpo;go_wp2_with fail;have hW3:Below wu.heap.size wu w3:=hW2.trans (hbw3.mono hW2.size);refine aD (hK.out _ _ ⟨⟨_,hW3⟩,rfl⟩ ?_);clear hK K;refine nV 3 [11,12,13,14] rfl _ rfl (by kernel_rfl) (fun d _ _ _ _ h=>by cases d<;>exact h) ?_;simp only[zK,zM,zI,zJ];repeat(go_big_quiet_step (fail))
     refine wpQuiet_nil ?_;have hy15:=aA hbw3 (aA hbw2 (hx15));have hy16:=aA hbw3 (hx16);have hu3:ed=0->pZ w3 wu.heap.size u:=fun h=>((hu h).low (hW2.size));have e0:wu.heap.size<=w1.heap.size:=hbw1.size;have e1:w1.heap.size<=w2.heap.size:=hbw2.size;have e2:w2.heap.size<=w3.heap.size:=hbw3.size;have l16:w1.heap.size<w2.heap.size:=(zG hx16);have l15:wu.heap.size<w1.heap.size:=(zG hx15);have nq1:¬wu.heap.size=w1.heap.size:=by omega
     have nq2:¬w1.heap.size=wu.heap.size:=by omega
     have hk3:ed=0->∀k,(Value.slice u.rx u.rn u.rc).ownBlock=some k->k≠w1.heap.size:=fun h k hk=>by
      have e:w2.heap.size<=k/\k<w3.heap.size:=(hu h).1.lt k hk;omega
     have hz15:wu.heap.size<=wu.heap.size:=zE;have hz16:wu.heap.size<=w1.heap.size:=hW1.size;clear hu hdr;refine bB [17,18,19] rfl (by kernel_rfl) ?_;simp only[zK,zM,zI,zJ];obtain⟨p0,p1,p2⟩:=bI hy15 rfl rfl rfl;obtain⟨pz0,pz1,pz2⟩:=dQ hy15;obtain⟨q0,q1,q2⟩:=bI hy16 rfl rfl rfl;obtain⟨qz0,qz1,qz2⟩:=dQ hy16;go_wp2_with fail;go_meet
     case rel=>exact⟨rfl,_,_,u,r,rfl,rfl,hz15,hz16,(bH hy15 hy16 hz15 hz16 hW3 hu3 hk3).1,(bH hy15 hy16 hz15 hz16 hW3 hu3 hk3).2.1,(bH hy15 hy16 hz15 hz16 hW3 hu3 hk3).2.2.1,(bH hy15 hy16 hz15 hz16 hW3 hu3 hk3).2.2.2,hR⟩
   ·have hW0:Below wu.heap.size wu wu.drew:=(zD).drew;intro K hK;simp only[zI,zJ];go_wp2_with fail;obtain⟨w1,hww1⟩:∃W,W=(wu.alloc (FY ⟨0,0,0⟩)).drew:=⟨_,rfl⟩;rw[<-hww1];have hbw1:Below wu.drew.heap.size wu.drew w1:=by rw[hww1];exact⟨rfl,rfl,rfl,(bl1 wu _).size,(bl1 wu _).block⟩
    have hx16:w1.heap[wu.heap.size]?=some (FY ⟨0,0,0⟩):=by rw[hww1];exact aB (W:=wu) _ rfl
    clear hww1;have hW1:Below wu.heap.size wu w1:=hW0.trans (hbw1.mono hW0.size);refine aD (hK.out _ _ ⟨⟨_,hW1⟩,rfl⟩ ?_);clear hK K;refine kO 10 15 _ _ _ _ (by kernel_rfl) (by kernel_rfl) rfl rfl rfl rfl ?_ ?_
    ·intro K hK;simp only[zI,zJ];go_wp2_with fail;refine(hdr w1 hW1).mono ?_;rintro e w2 hpo;obtain⟨u,r,rfl,hbw2,hu,hR⟩:=tN hed hpo;go_wp2_with fail;have hW2:Below wu.heap.size wu w2:=hW1.trans (hbw2.mono hW1.size);refine aD (hK.out _ _ ⟨⟨_,hW2⟩,rfl⟩ ?_);clear hK K;refine nV 4 [11,12,13,14] rfl _ rfl (by kernel_rfl) (fun d _ _ _ _ h=>by cases d<;>exact h) ?_;simp only[zK,zM,zI,zJ];repeat(go_big_quiet_step (fail))
     refine wpQuiet_nil ?_;refine aZ 15 _ _ (by kernel_rfl) (by kernel_rfl) rfl rfl ?_;intro K hK;simp only[zI,zJ];go_wp2_with fail;obtain⟨w3,hww3⟩:∃W,W=w2.alloc (cY 0 (.slice none 0 0) (.slice none 0 0)):=⟨_,rfl⟩;rw[<-hww3];have hbw3:Below w2.heap.size w2 w3:=by rw[hww3];exact bl1 w2 _
     have hx15:w3.heap[w2.heap.size]?=some (cY 0 (.slice none 0 0) (.slice none 0 0)):=by rw[hww3];exact aB _ rfl
     clear hww3;have hW3:Below wu.heap.size wu w3:=hW2.trans (hbw3.mono hW2.size);refine aD (hK.out _ _ ⟨⟨_,hW3⟩,rfl⟩ ?_);clear hK K;have hy15:=hx15;have hy16:=aA hbw3 (aA hbw2 (hx16));have hu3:ed=0->pZ w3 wu.heap.size u:=fun h=>(((hu h).low (hW1.size))).later hbw3;have e0:wu.heap.size<=w1.heap.size:=hbw1.size;have e1:w1.heap.size<=w2.heap.size:=hbw2.size;have e2:w2.heap.size<=w3.heap.size:=hbw3.size;have l16:wu.heap.size<w1.heap.size:=(zG hx16);have l15:w2.heap.size<w3.heap.size:=(zG hx15);have nq1:¬w2.heap.size=wu.heap.size:=by omega
     have nq2:¬wu.heap.size=w2.heap.size:=by omega
     have hk3:ed=0->∀k,(Value.slice u.rx u.rn u.rc).ownBlock=some k->k≠wu.heap.size:=fun h k hk=>by
      have e:w1.heap.size<=k/\k<w2.heap.size:=(hu h).1.lt k hk;omega
     have hz15:wu.heap.size<=w2.heap.size:=hW2.size;have hz16:wu.heap.size<=wu.heap.size:=zE;clear hu hdr;refine bB [17,18,19] rfl (by kernel_rfl) ?_;simp only[zK,zM,zI,zJ];obtain⟨p0,p1,p2⟩:=bI hy15 rfl rfl rfl;obtain⟨pz0,pz1,pz2⟩:=dQ hy15;obtain⟨q0,q1,q2⟩:=bI hy16 rfl rfl rfl;obtain⟨qz0,qz1,qz2⟩:=dQ hy16;go_wp2_with fail;go_meet
     case rel=>exact⟨rfl,_,_,u,r,rfl,rfl,hz15,hz16,(bH hy15 hy16 hz15 hz16 hW3 hu3 hk3).1,(bH hy15 hy16 hz15 hz16 hW3 hu3 hk3).2.1,(bH hy15 hy16 hz15 hz16 hW3 hu3 hk3).2.2.1,(bH hy15 hy16 hz15 hz16 hW3 hu3 hk3).2.2.2,hR⟩
    ·intro K hK;simp only[zI,zJ];go_wp2_with fail;obtain⟨w2,hww2⟩:∃W,W=w1.alloc (cY 0 (.slice none 0 0) (.slice none 0 0)):=⟨_,rfl⟩;rw[<-hww2];have hbw2:Below w1.heap.size w1 w2:=by rw[hww2];exact bl1 w1 _
     have hx15:w2.heap[w1.heap.size]?=some (cY 0 (.slice none 0 0) (.slice none 0 0)):=by rw[hww2];exact aB _ rfl
     clear hww2;have hW2:Below wu.heap.size wu w2:=hW1.trans (hbw2.mono hW1.size);refine aD (hK.out _ _ ⟨⟨_,hW2⟩,rfl⟩ ?_);clear hK K;refine aZ 10 _ _ (by kernel_rfl) (by kernel_rfl) rfl rfl ?_;intro K hK;simp only[zI,zJ];go_wp2_with fail;refine(hdr w2 hW2).mono ?_;rintro e w3 hpo;obtain⟨u,r,rfl,hbw3,hu,hR⟩:=tN hed hpo;go_wp2_with fail;have hW3:Below wu.heap.size wu w3:=hW2.trans (hbw3.mono hW2.size);refine aD (hK.out _ _ ⟨⟨_,hW3⟩,rfl⟩ ?_);clear hK K;refine nV 3 [11,12,13,14] rfl _ rfl (by kernel_rfl) (fun d _ _ _ _ h=>by cases d<;>exact h) ?_;simp only[zK,zM,zI,zJ];repeat(go_big_quiet_step (fail))
     refine wpQuiet_nil ?_;have hy15:=aA hbw3 (hx15);have hy16:=aA hbw3 (aA hbw2 (hx16));have hu3:ed=0->pZ w3 wu.heap.size u:=fun h=>((hu h).low (hW2.size));have e0:wu.heap.size<=w1.heap.size:=hbw1.size;have e1:w1.heap.size<=w2.heap.size:=hbw2.size;have e2:w2.heap.size<=w3.heap.size:=hbw3.size;have l16:wu.heap.size<w1.heap.size:=(zG hx16);have l15:w1.heap.size<w2.heap.size:=(zG hx15);have nq1:¬w1.heap.size=wu.heap.size:=by omega
     have nq2:¬wu.heap.size=w1.heap.size:=by omega
     have hk3:ed=0->∀k,(Value.slice u.rx u.rn u.rc).ownBlock=some k->k≠wu.heap.size:=fun h k hk=>by
      have e:w2.heap.size<=k/\k<w3.heap.size:=(hu h).1.lt k hk;omega
     have hz15:wu.heap.size<=w1.heap.size:=hW1.size;have hz16:wu.heap.size<=wu.heap.size:=zE;clear hu hdr;refine bB [17,18,19] rfl (by kernel_rfl) ?_;simp only[zK,zM,zI,zJ];obtain⟨p0,p1,p2⟩:=bI hy15 rfl rfl rfl;obtain⟨pz0,pz1,pz2⟩:=dQ hy15;obtain⟨q0,q1,q2⟩:=bI hy16 rfl rfl rfl;obtain⟨qz0,qz1,qz2⟩:=dQ hy16;go_wp2_with fail;go_meet
     case rel=>exact⟨rfl,_,_,u,r,rfl,rfl,hz15,hz16,(bH hy15 hy16 hz15 hz16 hW3 hu3 hk3).1,(bH hy15 hy16 hz15 hz16 hW3 hu3 hk3).2.1,(bH hy15 hy16 hz15 hz16 hW3 hu3 hk3).2.2.1,(bH hy15 hy16 hz15 hz16 hW3 hu3 hk3).2.2.2,hR⟩
  case rest=>
   clear s2 a0 a1 a2 k4 k5 hdr
   obtain⟨rfl,bp,bq,u,r,rfl,rfl,hbp,hbq,hBc,hxp,hxq,hu,hRk⟩:=hcut
   have hSc:=hSu.later hBc
   have hcc:=aA hBc hcu
   have hBw:=hBu.trans (hBc.mono hBu.size)
   clear hSu hcu
   by_cases h0:ed=0
   ·obtain⟨k,hK0⟩:=hRk h0;have hDk:Hid (DrK (aE vs i) cd.a cd.l k u r):=hK0;have hVt:=hu h0;clear hK0;subst h0;clear hu hRk;go_upto_region 7 with fail
    obtain⟨hgb,cur,hcur⟩:=hSc.own.row.block;obtain⟨y0,y1,y2⟩:=hSc.own.row.cells i hi;have z0:=hSc.own.row.frozen (i*3);have z1:=hSc.own.row.frozen (i*3+1);have z2:=hSc.own.row.frozen (i*3+2);have m2:=Ws.here (aP hSc.box 2 rfl);have u0:=Ws.here (aP hxp 0 rfl);have u1:=Ws.here (aP hxp 1 rfl);have u2:=Ws.here (aP hxp 2 rfl);refine bN (fun w'=>∃u:Ws wc.heap.size wc,w'=u.val) (fun j=>decide (j<8)) 9 _ (by kernel_rfl) rfl rfl ?_;refine bL 1 [0,1,2,3,4,5,6,7] rfl _ rfl (by kernel_rfl) (fun d _ _ _ _ h=>by cases d<;>exact h) ⟨⟨_,(zD).drew⟩,rfl⟩ ?_;simp only[zK,zM,zI,zJ];repeat(go_big_quiet_step (fail))
    refine wpQuiet_nil ?_;clear m2 u0 u1 u2;refine bB [8] rfl (by kernel_rfl) ?_;simp only[zK,zM,zI,zJ];have y0:wc.drew.cell? ⟨g,i*3,none⟩=some (.int .i64 (aE vs i).id):=y0;have y1:wc.drew.cell? ⟨g,i*3+1,none⟩=some (.slice (aE vs i).rx (aE vs i).rn (aE vs i).rc):=y1;have y2:wc.drew.cell? ⟨g,i*3+2,none⟩=some (.slice (aE vs i).sx (aE vs i).sn (aE vs i).sc):=y2;go_upto_region 8 with fail
    obtain⟨w5,hw5⟩:∃w5,w5=(iZ wc g i u).drew:=⟨_,rfl⟩;have hwu:=hBu.size;have hS5:=(hSc.setV hi (hVt.low (base':=base) (by omega))).later (zD).drew;have hng:∀b ty cs,wc.heap[b]?=some (.cells cs ty)->ty≠92->b≠g:=fun b ty cs h1 h2 e=>by rw[e,hcur]at h1;simp only[Option.some.injEq,Obj.cells.injEq]at h1;exact h2 h1.2.1.symm
    have hxq5:(iZ wc g i u).drew.heap[bq]?=some (FY r):=(fZ (hng _ _ _ hxq (by decide))).trans hxq;have hT5:eT base bs w (iZ wc g i u).drew:=⟨(mN (hBw.mono (by omega)) hgb).drew,fun k cs ty _ h2 h3=>(fZ (hng _ _ _ (aA hBw h3) h2)).trans (aA hBw h3)⟩;rw[<-hw5]at hS5 hxq5 hT5;unfold iZ at hw5;rw[<-hw5];clear hw5 hSc hcc hxp hxq y0 y1 y2 z0 z1 z2 hcur hng hVt;have hO5:=hS5.own.bk;have hk5:Bk w5 x ps.length c ps:=by
     obtain⟨x',c',e',h'⟩:=hO5.bk (fun i hi=>by
      have:=(nB hO5.full hB).n32 _ (poAt_mem hi);rw[hO5.full i hi]at this;omega)
     simp only[Value.slice.injEq]at e';obtain⟨rfl, -,rfl⟩:=e';exact h'
    have s0:=Ws.here (aP hS5.box 0 rfl);have s1:=Ws.here (aP hS5.box 1 rfl);have r0:=Ws.here (aP hxq5 0 rfl);have r1:=Ws.here (aP hxq5 1 rfl);have r2:=Ws.here (aP hxq5 2 rfl);refine aT [0,1,2,3,4,5,6,7,8] 9 [10,11,12,13,14] [15,16] (by kernel_rfl) (by kernel_rfl) (fun d _ _ _ _ h=>by cases d<;>exact h) ?_;simp only[zK,zM,zI,zJ];repeat(go_big_quiet_step (fail))
    refine wpQuiet_nil ?_;clear s0 s1 r0 r1 r2;intro K hK;go_wp2_with fail;refine(GX t x ps.length c ps r.p r.a r.l w5.drew (hk5.later (zD).drew)).mono ?_;rintro e w6 ⟨v,rs,t',rfl,hb6,hO6,hE0,hE2⟩;have hB1:Below w5.heap.size w5 w6:=⟨hb6.os,hb6.tape,hb6.output,hb6.size,hb6.block⟩;go_wp2_with fail;refine aD (hK.out _ _ hB1 ?_);clear hK K;repeat(go_big_quiet_step (fail))
    refine wpQuiet_nil ?_;have hS6:=hS5.later hB1;have hsz5:base<=w5.heap.size:=Nat.le_trans hlow (Nat.le_of_lt (zG hS5.box));have hT6:eT base bs w w6:=hT5.trans (eT.of hB1 hsz5);have hO7:dJ w6 base v rs rs.length:=hO6.low hsz5;obtain⟨x1,c1,hv1, -⟩:=hO6.row.mem;subst hv1;clear hb6 hO6 hE0;obtain⟨g0,g1,g2,g3⟩:=dL hS6.box rfl rfl rfl rfl;obtain⟨gz0,gz1,gz2,gz3⟩:=iY hS6.box;go_wp2;go_ret;obtain⟨hRg,hr,hu1,hu2,hu3,hu4,hu5⟩:=hDk.out;refine⟨_,rfl,(hT6.set hlow).set hlow, .inr ⟨i,hi'.out,hpt.out, .inr ⟨hed,k,hRg,by rw[hr]⟩⟩,fun h=>?_⟩;refine⟨t',rs,_,_,_,_,hS6.putB hO7,i,k,u,hi'.out,hpt.out,hed,hRg,rfl,hu1,hu2,hu3,hu4,hu5,?_⟩;rw[<-hr];exact hE2 h
   ·have hne:(ed !=0)=true:=by simpa using h0
    have h0':Hid (ed≠0):=h0;clear h0 hu hRk;go_wp2;go_ret;exact⟨_,rfl,eT.of hBw (by omega), .inr ⟨i,hi'.out,hpt.out, .inl ⟨by rw[hed];exact h0'.out,hed.symm⟩⟩,fun h=>absurd h h0'.out⟩
 ·subst hti;go_wp2;go_ret;exact⟨5,rfl,eT.of hBu (by omega), .inl ⟨by rw[hpt.out];decide,rfl⟩,fun h=>absurd h (by decide)⟩
def tY(v:Vn)(cd:Cd)(E n:Int):Prop:=
 if cd.op=10 then E=oR v.id v.rn v.rs v.sn v.ss cd.B cd.a cd.l/\n=0 else if cd.op=11 then E=gR v.id v.rn v.rs v.sn v.ss cd.B/\n=0 else if cd.op=12 then kC v.id v.rn v.rs v.sn v.ss cd.B cd.C E n else if cd.op=13 then oU v.id v.rn v.rs v.sn v.ss cd.B cd.C E n else E=tH v.id v.rn v.rs v.sn v.ss cd.B cd.C/\n=0
def L7(v:Vn)(cd:Cd)(y:Int)(ss':List Sb):Prop:=
 if cd.op=10 then∃ts,bQ v.ss ts/\DE ⟨cd.B,cd.a,cd.l,none,0,0,[]⟩ ts ss'
 else if cd.op=11 then∃ts i,bQ v.ss ts/\i<ts.length/\(sbAt v.ss i).id=cd.B/\(∀j,j<i->(sbAt v.ss j).id≠cd.B)/\ss'=ts.take i++ts.drop (i+1)
 else if cd.op=12 then∃ts i x n c fx gs,oT v.sn v.ss cd.B i/\tK (sbAt v.ss i) cd.C 0 y/\bQ v.ss ts/\wR ⟨cd.C,fx,1,1,[y]⟩ (sbAt ts i).fs gs/\n=gs.length/\ss'=ts.set i (cX (sbAt ts i) x n c gs)
 else if cd.op=13 then∃ts i j x c ns,fY v.sn v.ss cd.B cd.C i j/\tL (sbAt v.ss i) (fcAt (sbAt v.ss i).fs j) 0 y/\bQ v.ss ts/\DH y (fcAt (sbAt ts i).fs j).ns ns/\ss'=ts.set i (cX (sbAt ts i) (sbAt ts i).x (sbAt ts i).n (sbAt ts i).c ((sbAt ts i).fs.set j (withA (fcAt (sbAt ts i).fs j) x ns.length c ns)))
 else∃ts i j x n c,fY v.sn v.ss cd.B cd.C i j/\bQ v.ss ts/\n=((sbAt ts i).fs.take j++(sbAt ts i).fs.drop (j+1)).length/\ss'=ts.set i (cX (sbAt ts i) x n c ((sbAt ts i).fs.take j++(sbAt ts i).fs.drop (j+1)))
def UT(v:Vn)(cd:Cd)(y:Int)(u:Vn):Prop:=u.id=v.id/\u.rs=v.rs/\u.rn=v.rs.length/\L7 v cd y u.ss/\u.sn=u.ss.length
def rU(F:Value->Int->Int->Value)(v:Vn)(cd:Cd)(w:World)(e:Ending)(w':World):Prop:=
 ∃u n E,e= .returned (F (XM u) n E)/\Below w.heap.size w w'/\tY v cd E n/\(E=0->pZ w' w.heap.size u)/\(E=0->UT v cd n u)
def xS(V:Value)(_ E:Int):Value:= .tuple #[V, .int .i64 E]
def H9(V:Value)(n E:Int):Value:= .tuple #[V, .int .i64 n, .int .i64 E]
theorem AW{F:Value->Int->Int->Value}(h0:E≠0)(hV:V= .agg #[.int .i64 0, .slice none 0 0, .slice none 0 0])(he:e= .returned (F V n E))(hb:Below w.heap.size w w')(hA:tY v cd E n):rU F v cd w e w':=
 ⟨newV 0,n,E,by rw[he,hV];rfl,hb,hA,fun h=>absurd h h0,fun h=>absurd h h0⟩
theorem IA{F:Value->Int->Int->Value}(h:HS w' w.heap.size v.id V v.rs ss')(he:e= .returned (F V n E))(hb:Below w.heap.size w w')(hA:tY v cd E n)(hR:L7 v cd n ss'):rU F v cd w e w':=by
 obtain⟨u,rfl,g1,g2,g3,g4,g5,g6⟩:=h.vn;exact⟨u,n,E,he,hb,hA,fun _=>g6,fun _=>⟨g1,g2,g3,by rw[g4];exact hR,by rw[g5,g4]⟩⟩
theorem ZB(v:Vn)(cd:Cd)(w:World)(hv:kE w v)(h:cd.op=10):
  Calls Tryz.prog 102 #[XM v, .int .i64 cd.B, .agg #[.int .i64 cd.a, .int .i64 cd.l]] w (rU xS v cd w):=by
 refine(R9 v.id v.rx v.rn v.rc v.rs v.sx v.sn v.sc v.ss cd.B cd.a cd.l w hv.2.2.2 hv.1 hv.2.1 hv.2.2.1).mono ?_;rintro e w' ⟨V,he,hb,h0,h1⟩;have hA:tY v cd (oR v.id v.rn v.rs v.sn v.ss cd.B cd.a cd.l) 0:=by unfold tY;rw[if_pos h];exact⟨rfl,rfl⟩
 by_cases hE:oR v.id v.rn v.rs v.sn v.ss cd.B cd.a cd.l=0
 ·obtain⟨ts,ss',hN,hs,hp⟩:=h1 hE;exact IA (F:=xS) hN he hb hA (by unfold L7;rw[if_pos h];exact⟨ts,hs,hp⟩)
 ·exact AW (F:=xS) hE (h0 hE) he hb hA
theorem S6(v:Vn)(cd:Cd)(w:World)(hv:kE w v)(h:cd.op=11):
  Calls Tryz.prog 103 #[XM v, .int .i64 cd.B] w (rU xS v cd w):=by
 refine(KF v.id v.rx v.rn v.rc v.rs v.sx v.sn v.sc v.ss cd.B w hv.2.2.2 hv.1 hv.2.1 hv.2.2.1).mono ?_;rintro e w' ⟨V,he,hb,h0,h1⟩;have hA:tY v cd (gR v.id v.rn v.rs v.sn v.ss cd.B) 0:=by unfold tY;rw[if_neg (by omega),if_pos h];exact⟨rfl,rfl⟩
 by_cases hE:gR v.id v.rn v.rs v.sn v.ss cd.B=0
 ·obtain⟨ts,i,hs,hi,hy,hn,hN⟩:=h1 hE;exact IA (F:=xS) hN he hb hA (by unfold L7;rw[if_neg (by omega),if_pos h];exact⟨ts,i,hs,hi,hy,hn,rfl⟩)
 ·exact AW (F:=xS) hE (h0 hE) he hb hA
theorem V0(v:Vn)(cd:Cd)(w:World)(hv:kE w v)(h:cd.op=12):
  Calls Tryz.prog 104 #[XM v, .int .i64 cd.B, .int .i64 cd.C] w (rU H9 v cd w):=by
 refine(OK v.id v.rx v.rn v.rc v.rs v.sx v.sn v.sc v.ss cd.B cd.C w hv.2.2.2 hv.1 hv.2.1 hv.2.2.1).mono ?_;rintro e w' ⟨V,y,E,he,hb,hA0,h0,h1⟩;have hA:tY v cd E y:=by unfold tY;rw[if_neg (by omega),if_neg (by omega),if_pos h];exact hA0
 by_cases hE:E=0
 ·obtain⟨-,ts,i,x,n,c,fx,gs,g1,g2,g3,g4,g5,hN⟩:=h1 hE;exact IA (F:=H9) hN he hb hA (by unfold L7;rw[if_neg (by omega),if_neg (by omega),if_pos h];exact⟨ts,i,x,n,c,fx,gs,g1,g2,g3,g4,g5,rfl⟩)
 ·exact AW (F:=H9) hE (h0 hE).1 he hb hA
theorem V1(v:Vn)(cd:Cd)(w:World)(hv:kE w v)(h:cd.op=13):
  Calls Tryz.prog 105 #[XM v, .int .i64 cd.B, .int .i64 cd.C] w (rU H9 v cd w):=by
 refine(OL v.id v.rx v.rn v.rc v.rs v.sx v.sn v.sc v.ss cd.B cd.C w hv.2.2.2 hv.1 hv.2.1 hv.2.2.1).mono ?_;rintro e w' ⟨V,y,E,he,hb,hA0,h0,h1⟩;have hA:tY v cd E y:=by unfold tY;rw[if_neg (by omega),if_neg (by omega),if_neg (by omega),if_pos h];exact hA0
 by_cases hE:E=0
 ·obtain⟨-,ts,i,j,x,c,ns,g1,g2,g3,g4,hN⟩:=h1 hE;exact IA (F:=H9) hN he hb hA (by unfold L7;rw[if_neg (by omega),if_neg (by omega),if_neg (by omega),if_pos h];exact⟨ts,i,j,x,c,ns,g1,g2,g3,g4,rfl⟩)
 ·exact AW (F:=H9) hE (h0 hE).1 he hb hA
theorem O9(v:Vn)(cd:Cd)(w:World)(hv:kE w v)(h:¬cd.op=10/\¬cd.op=11/\¬cd.op=12/\¬cd.op=13):
  Calls Tryz.prog 106 #[XM v, .int .i64 cd.B, .int .i64 cd.C] w (rU xS v cd w):=by
 refine(HT v.id v.rx v.rn v.rc v.rs v.sx v.sn v.sc v.ss cd.B cd.C w hv.2.2.2 hv.1 hv.2.1 hv.2.2.1).mono ?_;rintro e w' ⟨V,he,hb,h0,h1⟩;have hA:tY v cd (tH v.id v.rn v.rs v.sn v.ss cd.B cd.C) 0:=by unfold tY;rw[if_neg h.1,if_neg h.2.1,if_neg h.2.2.1,if_neg h.2.2.2];exact⟨rfl,rfl⟩
 by_cases hE:tH v.id v.rn v.rs v.sn v.ss cd.B cd.C=0
 ·obtain⟨ts,i,j,x,n,c,g1,g2,g3,hN⟩:=h1 hE;exact IA (F:=xS) hN he hb hA (by unfold L7;rw[if_neg h.1,if_neg h.2.1,if_neg h.2.2.1,if_neg h.2.2.2];exact⟨ts,i,j,x,n,c,g1,g2,g3,rfl⟩)
 ·exact AW (F:=xS) hE (h0 hE) he hb hA
theorem FF(h:cd.op≠12/\cd.op≠13)(hA:tY v cd E n):n=0:=by
 unfold tY at hA;rw[if_neg h.1,if_neg h.2]at hA;split at hA
 ·exact hA.2
 ·split at hA
  ·exact hA.2
  ·exact hA.2
def S7(base bs:Nat)(t:Int)(ps:List Po)(vs:List Vn)(ls:List (Int×Int))(cd:Cd)(w:World)(e:Ending)(w':World):Prop:=
 ∃E n,e= .returned (.tuple #[.int .i64 n, .int .i64 E])/\eT base bs w w'/\((aJ vs.length vs cd.A<0/\E=5/\n=0)\/∃k:Nat,k<vs.length/\aJ vs.length vs cd.A=k/\tY (aE vs k) cd E n)/\
  (E=0->∃(k:Nat) (u:Vn) (vB vV vK:Value),k<vs.length/\aJ vs.length vs cd.A=k/\UT (aE vs k) cd n u/\kN w' base bs t ps (vs.set k u) ls vB vV vK)
theorem AX{bs g n cap i:Nat}{y:Int}{wu w1:World}(hBw:Below w.heap.size w wu)(hlow:base<=bs)(hbl:bs<w.heap.size)(hS:kN wu base bs t ps vs ls vB (.slice (some ⟨g,0,none⟩) n cap) vK)(hi:i<vs.length)(hpt:aJ vs.length vs cd.A=i)(hb:Below wu.heap.size wu w1)
 (hA:tY (aE vs i) cd E y)(hV:E=0->pZ w1 wu.heap.size u)(hR:E=0->UT (aE vs i) cd y u):S7 base bs t ps vs ls cd w (.returned (.tuple #[.int .i64 y, .int .i64 E])) (iZ w1 g i u):=by
 have hS1:=hS.later hb;obtain⟨hgb,cur,hcur⟩:=hS1.own.row.block;have hBw1:=hBw.trans (hb.mono hBw.size);have hng:∀b ty cs,w1.heap[b]?=some (.cells cs ty)->ty≠92->b≠g:=fun b ty cs h1 h2 e=>by rw[e,hcur]at h1;simp only[Option.some.injEq,Obj.cells.injEq]at h1;exact h2 h1.2.1.symm
 have hz:=hBw.size;refine⟨E,y,rfl,⟨mN (hBw1.mono (by omega)) hgb,fun k cs ty _ h2 h3=>(fZ (hng _ _ _ (aA hBw1 h3) h2)).trans (aA hBw1 h3)⟩, .inr ⟨i,hi,hpt,hA⟩,fun h=>⟨i,u,_,_,_,hi,hpt,hR h,hS1.setV hi ((hV h).low (by omega))⟩⟩
theorem iF(base bs:Nat)(t:Int)(ps:List Po)(vs:List Vn)(ls:List (Int×Int))(vB vV vK:Value)(cd:Cd)(w:World)(hS:kN w base bs t ps vs ls vB vV vK)(hB:aS t ps=0)(hv6:vs.length<=64):
  Calls Tryz.prog 55 #[.pointer (some ⟨bs,0,none⟩),L5 cd] w (S7 base bs t ps vs ls cd w):=by
 have hbl:bs<w.heap.size:=(zG hS.box);have hlow:=hS.low;obtain⟨x,c,X,C,Y,D,rfl,rfl,rfl,hk,hvs,hvc,hv63,hps,hl63⟩:=hS.see hB;go_enter Tryz.func55,Tryz.ntmps55;go_upto_region 1 with fail
 obtain⟨w0,hw0⟩:∃w0,w0=w.alloc (rT cd):=⟨_,rfl⟩;rw[<-hw0];have hB0:Below w.heap.size w w0:=by rw[hw0];exact bl1 w _
 have hq0:w0.heap[w.heap.size]?=some (rT cd):=by rw[hw0];exact aB _ rfl
 have hS0:=hS.later hB0;clear hw0;have s2:=Ws.here (aP hS0.box 2 rfl);have s3:=Ws.here (aP hS0.box 3 rfl);have k1:=Ws.here (aP hq0 1 rfl);obtain⟨tp,htp⟩:∃tp,aJ vs.length vs cd.A=tp:=⟨_,rfl⟩;have hpc:=vplace_cases vs.length vs cd.A;rw[htp]at hpc;refine aH w0.heap.size (by kernel_rfl) (by kernel_rfl) ?_;repeat(go_big_quiet_step (first|(go_at_call 96;exact Calls.in_ws (zE) (vM cd.A X vs.length C vs Y ls.length D tp htp _ (hvs.later (hB0.trans ((Ws.property _).mono hB0.size))) (by omega)))))
 refine wpQuiet_nil ?_;rintro _ ⟨u,rfl⟩;have hBu:=hB0.trans (u.property.mono hB0.size);have hcu:=aA u.property hq0;have hSu:=hS0.later u.property;generalize u.val=wu at hBu hcu hSu⊢;clear u;clear s2 s3 k1 hS0 hq0;have hpt:Hid (aJ vs.length vs cd.A=tp):=htp;clear htp;rcases hpc with ⟨i,hi, -,hti⟩|hti
 ·subst hti;have hi0:¬((i:Int)<0):=by omega
  have hi':Hid (i<vs.length):=hi;obtain⟨g,C2,hvV⟩:=hSu.own.row.held (by omega);simp only[Value.slice.injEq]at hvV;obtain⟨rfl, -,rfl⟩:=hvV;have hvp:=(hSu.own.net _ (eA hi)).ok;have hi1:(i:Int)<vs.length:=by omega
  have hi2:(0:Int)<=i:=by omega
  have m2:=aP hSu.box 2 rfl;have m0:=aP hcu 0 rfl;obtain⟨y0,y1,y2⟩:=hSu.own.row.cells i hi;by_cases h10:cd.op=10
  ·have hd10:(cd.op==10)=true:=by simpa using h10
   have hq:Hid (cd.op=10):=h10;clear h10;go_upto_region 8 with fail
   have a0:=Ws.here y0;have a1:=Ws.here y1;have a2:=Ws.here y2;have k2:=Ws.here (aP hcu 2 rfl);have k4:=Ws.here (aP hcu 4 rfl);have k5:=Ws.here (aP hcu 5 rfl);refine aT [0,1,2,3,4,5,6,7] 8 [9,10,11,12] [13,14] (by kernel_rfl) (by kernel_rfl) (fun d _ _ _ _ h=>by cases d<;>exact h) ?_;simp only[zK,zM,zI,zJ];repeat(go_big_quiet_step (fail))
   refine wpQuiet_nil ?_;clear a0 a1 a2 k2 k4 k5;intro K hK;go_wp2_with fail;refine(ZB (aE vs i) cd wu.drew (hvp.later (zD).drew) hq.out).mono ?_;rintro e w1 ⟨u,n,E,rfl,hb1,hA,hV,hR⟩;have hB1:Below wu.heap.size wu w1:=⟨hb1.os,hb1.tape,hb1.output,hb1.size,hb1.block⟩;unfold xS;go_wp2_with fail;refine aD (hK.out _ _ hB1 ?_);clear hK K;repeat(go_big_quiet_step (fail))
   refine wpQuiet_nil ?_;obtain⟨b0,b1,b2⟩:=(hSu.later hB1).own.row.cells i hi;have z0:=(hSu.later hB1).own.row.frozen (i*3);have z1:=(hSu.later hB1).own.row.frozen (i*3+1);have z2:=(hSu.later hB1).own.row.frozen (i*3+2);go_wp2;refine bodyPost_ret (v:= .tuple #[.int .i64 0, .int .i64 E]) (by simp[results,Tryz.results55,go_sem]) rfl ?_;have hn0:n=0:=FF (by have:=hq.out;omega) hA;subst hn0;exact AX hBu hlow hbl hSu hi'.out hpt.out hB1 hA hV hR
  ·have hd10:(cd.op==10)=false:=by simpa using h10
   by_cases h11:cd.op=11
   ·have hd11:(cd.op==11)=true:=by simpa using h11
    have hq:Hid (cd.op=11):=h11;clear h11;go_upto_region 10 with fail
    have a0:=Ws.here y0;have a1:=Ws.here y1;have a2:=Ws.here y2;have k2:=Ws.here (aP hcu 2 rfl);refine aT [0,1,2,3,4,5] 6 [7,8,9,10] [11,12] (by kernel_rfl) (by kernel_rfl) (fun d _ _ _ _ h=>by cases d<;>exact h) ?_;simp only[zK,zM,zI,zJ];repeat(go_big_quiet_step (fail))
    refine wpQuiet_nil ?_;clear a0 a1 a2 k2;intro K hK;go_wp2_with fail;refine(S6 (aE vs i) cd wu.drew (hvp.later (zD).drew) hq.out).mono ?_;rintro e w1 ⟨u,n,E,rfl,hb1,hA,hV,hR⟩;have hB1:Below wu.heap.size wu w1:=⟨hb1.os,hb1.tape,hb1.output,hb1.size,hb1.block⟩;unfold xS;go_wp2_with fail;refine aD (hK.out _ _ hB1 ?_);clear hK K;repeat(go_big_quiet_step (fail))
    refine wpQuiet_nil ?_;obtain⟨b0,b1,b2⟩:=(hSu.later hB1).own.row.cells i hi;have z0:=(hSu.later hB1).own.row.frozen (i*3);have z1:=(hSu.later hB1).own.row.frozen (i*3+1);have z2:=(hSu.later hB1).own.row.frozen (i*3+2);go_wp2;refine bodyPost_ret (v:= .tuple #[.int .i64 0, .int .i64 E]) (by simp[results,Tryz.results55,go_sem]) rfl ?_;have hn0:n=0:=FF (by have:=hq.out;omega) hA;subst hn0;exact AX hBu hlow hbl hSu hi'.out hpt.out hB1 hA hV hR
   ·have hd11:(cd.op==11)=false:=by simpa using h11
    by_cases h12:cd.op=12
    ·have hd12:(cd.op==12)=true:=by simpa using h12
     have hq:Hid (cd.op=12):=h12;clear h12;go_upto_region 12 with fail
     have a0:=Ws.here y0;have a1:=Ws.here y1;have a2:=Ws.here y2;have k2:=Ws.here (aP hcu 2 rfl);have k3:=Ws.here (aP hcu 3 rfl);refine aT [0,1,2,3,4,5,6,7] 8 [9,10,11,12,13] [14,15,16] (by kernel_rfl) (by kernel_rfl) (fun d _ _ _ _ h=>by cases d<;>exact h) ?_;simp only[zK,zM,zI,zJ];repeat(go_big_quiet_step (fail))
     refine wpQuiet_nil ?_;clear a0 a1 a2 k2 k3;intro K hK;go_wp2_with fail;refine(V0 (aE vs i) cd wu.drew (hvp.later (zD).drew) hq.out).mono ?_;rintro e w1 ⟨u,n,E,rfl,hb1,hA,hV,hR⟩;have hB1:Below wu.heap.size wu w1:=⟨hb1.os,hb1.tape,hb1.output,hb1.size,hb1.block⟩;unfold H9;go_wp2_with fail;refine aD (hK.out _ _ hB1 ?_);clear hK K;repeat(go_big_quiet_step (fail))
     refine wpQuiet_nil ?_;obtain⟨b0,b1,b2⟩:=(hSu.later hB1).own.row.cells i hi;have z0:=(hSu.later hB1).own.row.frozen (i*3);have z1:=(hSu.later hB1).own.row.frozen (i*3+1);have z2:=(hSu.later hB1).own.row.frozen (i*3+2);go_wp2;refine bodyPost_ret (v:= .tuple #[.int .i64 n, .int .i64 E]) (by simp[results,Tryz.results55,go_sem]) rfl ?_;exact AX hBu hlow hbl hSu hi'.out hpt.out hB1 hA hV hR
    ·have hd12:(cd.op==12)=false:=by simpa using h12
     by_cases h13:cd.op=13
     ·have hd13:(cd.op==13)=true:=by simpa using h13
      have hq:Hid (cd.op=13):=h13;clear h13;go_upto_region 14 with fail
      have a0:=Ws.here y0;have a1:=Ws.here y1;have a2:=Ws.here y2;have k2:=Ws.here (aP hcu 2 rfl);have k3:=Ws.here (aP hcu 3 rfl);refine aT [0,1,2,3,4,5,6,7] 8 [9,10,11,12,13] [14,15,16] (by kernel_rfl) (by kernel_rfl) (fun d _ _ _ _ h=>by cases d<;>exact h) ?_;simp only[zK,zM,zI,zJ];repeat(go_big_quiet_step (fail))
      refine wpQuiet_nil ?_;clear a0 a1 a2 k2 k3;intro K hK;go_wp2_with fail;refine(V1 (aE vs i) cd wu.drew (hvp.later (zD).drew) hq.out).mono ?_;rintro e w1 ⟨u,n,E,rfl,hb1,hA,hV,hR⟩;have hB1:Below wu.heap.size wu w1:=⟨hb1.os,hb1.tape,hb1.output,hb1.size,hb1.block⟩;unfold H9;go_wp2_with fail;refine aD (hK.out _ _ hB1 ?_);clear hK K;repeat(go_big_quiet_step (fail))
      refine wpQuiet_nil ?_;obtain⟨b0,b1,b2⟩:=(hSu.later hB1).own.row.cells i hi;have z0:=(hSu.later hB1).own.row.frozen (i*3);have z1:=(hSu.later hB1).own.row.frozen (i*3+1);have z2:=(hSu.later hB1).own.row.frozen (i*3+2);go_wp2;refine bodyPost_ret (v:= .tuple #[.int .i64 n, .int .i64 E]) (by simp[results,Tryz.results55,go_sem]) rfl ?_;exact AX hBu hlow hbl hSu hi'.out hpt.out hB1 hA hV hR
     ·have hd13:(cd.op==13)=false:=by simpa using h13
      have hq:Hid (¬cd.op=10/\¬cd.op=11/\¬cd.op=12/\¬cd.op=13):=⟨h10,h11,h12,h13⟩;clear h10 h11 h12 h13;go_upto_region 6 with fail
      have a0:=Ws.here y0;have a1:=Ws.here y1;have a2:=Ws.here y2;have k2:=Ws.here (aP hcu 2 rfl);have k3:=Ws.here (aP hcu 3 rfl);refine aT [0,1,2,3,4,5,6,7] 8 [9,10,11,12] [13,14] (by kernel_rfl) (by kernel_rfl) (fun d _ _ _ _ h=>by cases d<;>exact h) ?_;simp only[zK,zM,zI,zJ];repeat(go_big_quiet_step (fail))
      refine wpQuiet_nil ?_;clear a0 a1 a2 k2 k3;intro K hK;go_wp2_with fail;refine(O9 (aE vs i) cd wu.drew (hvp.later (zD).drew) hq.out).mono ?_;rintro e w1 ⟨u,n,E,rfl,hb1,hA,hV,hR⟩;have hB1:Below wu.heap.size wu w1:=⟨hb1.os,hb1.tape,hb1.output,hb1.size,hb1.block⟩;unfold xS;go_wp2_with fail;refine aD (hK.out _ _ hB1 ?_);clear hK K;repeat(go_big_quiet_step (fail))
      refine wpQuiet_nil ?_;obtain⟨b0,b1,b2⟩:=(hSu.later hB1).own.row.cells i hi;have z0:=(hSu.later hB1).own.row.frozen (i*3);have z1:=(hSu.later hB1).own.row.frozen (i*3+1);have z2:=(hSu.later hB1).own.row.frozen (i*3+2);go_wp2;refine bodyPost_ret (v:= .tuple #[.int .i64 0, .int .i64 E]) (by simp[results,Tryz.results55,go_sem]) rfl ?_;have hn0:n=0:=FF (by have:=hq.out;omega) hA;subst hn0;exact AX hBu hlow hbl hSu hi'.out hpt.out hB1 hA hV hR
 ·subst hti;go_wp2;refine bodyPost_ret (v:= .tuple #[.int .i64 0, .int .i64 5]) (by simp[results,Tryz.results55,go_sem]) rfl ?_;exact⟨5,0,rfl,eT.of hBu (by omega), .inl ⟨by rw[hpt.out];decide,rfl,rfl⟩,fun h=>absurd h (by decide)⟩
def KZ(vn:Nat)(vs:List Vn)(ln:Nat):Prop:=vn<=64/\ln<=64/\∀i,i<vn->YZ (aE vs i)
theorem aBk(h:cW vn vs ln ls=0):KZ vn vs ln:=⟨by have:=(mO h).1;omega,by have:=(mO h).2.1;omega,(mO h).2.2⟩
def ZC(t:Int)(ps:List Po)(vs:List Vn)(ls:List (Int×Int))(w:World)(e:Ending)(w':World):Prop:=
 ∃vB vV vK qs us,e= .returned (AV t vB vV vK)/\Below w.heap.size w w'/\SO w' w.heap.size qs us ls vB vV vK/\cB ps qs/\bV vs us
theorem DN(t:Int)(x:Option Addr)(n c:Nat)(ps:List Po)(X:Option Addr)(vn C:Nat)(vs:List Vn)(Y:Option Addr)(ln D:Nat)(ls:List (Int×Int))(w:World)(hs:Si w x n c ps X vn C vs Y ln ls)(hB:aS t ps=0)(hN:KZ vn vs ln):
  Calls Tryz.prog 28 #[AV t (.slice x n c) (.slice X vn C) (.slice Y ln D)] w (ZC t ps vs ls w):=by
 obtain⟨h6,h12,hfew⟩:=hN;have h8:=(nB hs.bk.full hB).few;have hpl:=hs.bk.ps.len;go_enter Tryz.func28,Tryz.ntmps28;go_upto_region 1 with fail
 obtain⟨w0,hw0⟩:∃w0,w0=(w.alloc (iI t (.slice x n c) (.slice X vn C) (.slice Y ln D))).alloc (iI 0 (.slice none 0 0) (.slice none 0 0) (.slice none 0 0)):=⟨_,rfl⟩;rw[<-hw0];have hB0:Below w.heap.size w w0:=by rw[hw0];exact bO w _ _
 have hq0:w0.heap[w.heap.size]?=some (iI t (.slice x n c) (.slice X vn C) (.slice Y ln D)):=by rw[hw0];exact aG _ (aB _ rfl)
 have hq1:w0.heap[w.heap.size+1]?=some (iI 0 (.slice none 0 0) (.slice none 0 0) (.slice none 0 0)):=by rw[hw0];exact aB _ (by simp)
 clear hw0;have hs0:=hs.later hB0;have s0:=Ws.here (aP hq0 0 rfl);have s1:=Ws.here (aP hq0 1 rfl);have s2:=Ws.here (aP hq0 2 rfl);have s3:=Ws.here (aP hq0 3 rfl);refine bN (fun w'=>∃u:Ws w0.heap.size w0,w'=u.val) (fun j=>decide (j<6)) 8 _ (by kernel_rfl) rfl rfl ?_;refine bL 4 [0,1,3,4] rfl _ rfl (by kernel_rfl) (fun d _ _ _ _ h=>by cases d<;>exact h) ⟨⟨_,(zD).drew⟩,rfl⟩ ?_;simp only[zK,zM,zI,zJ];repeat(go_big_quiet_step (fail))
 refine wpQuiet_nil ?_;clear s0 s1 s2 s3;refine aZ 2 _ _ (by kernel_rfl) (by kernel_rfl) rfl rfl ?_;intro K hK;simp only[zI,zJ];go_wp2_with fail;refine(dZ t x n c ps w0.drew (hs0.bk.later (zD).drew) (by omega)).mono ?_;rintro e w1 ⟨vB,qs,rfl,hsq,hOB,hb1⟩;obtain⟨xb,cb,hvb, -⟩:=hOB.row.mem;subst hvb;have hB1:Below w0.heap.size w0 w1:=⟨hb1.os,hb1.tape,hb1.output,hb1.size,hb1.block⟩;go_wp2_with fail;refine aD (hK.out _ _ ⟨⟨_,hB1⟩,rfl⟩ ?_);clear hK K;refine aZ 5 _ _ (by kernel_rfl) (by kernel_rfl) rfl rfl ?_;intro K hK;simp only[zI,zJ];go_wp2_with fail;refine(gA X vn C vs Y ln D ls w1 (hs0.vps.later hB1) (by omega) (hs0.lk.later hB1) (by omega) hfew).mono ?_;rintro e w2 ⟨vV,vK,us,rfl,hsu,hOV,hVo,hOK,hb2⟩;obtain⟨xv,cv,hvv, -⟩:=hOV.mem;subst hvv;obtain⟨xk,ck,hvk, -⟩:=hOK.mem;subst hvk;have hB2:Below w0.heap.size w0 w2:=hB1.trans (hb2.mono hB1.size);go_wp2_with fail;refine aD (hK.out _ _ ⟨⟨_,hB2⟩,rfl⟩ ?_);clear hK K;refine bB [6,7] rfl (by kernel_rfl) ?_;simp only[zK,zM,zI,zJ];have hz1:w.heap.size<=w1.heap.size:=Nat.le_trans hB0.size hB1.size;have hSO:SO w2 w.heap.size qs us ls (.slice xb qs.length cb) (.slice xv us.length cv) (.slice xk ls.length ck):=
  ⟨(hOB.later hb2).low hB0.size,hOV.low hz1,fun u hu=>by
   obtain⟨j,hj,rfl⟩:=dH hu;exact((hVo j hj).low hz1).vty,hOK.low hz1⟩
 have hy:=aA hB2 hq1;have hBw:=hB0.trans (hB2.mono hB0.size);clear hb1 hb2 hOB hOV hVo hOK hB1 hB2 hs0 hq0 hq1;obtain⟨q0,q1,q2,q3⟩:=dL hy rfl rfl rfl rfl;obtain⟨qz0,qz1,qz2,qz3⟩:=iY hy;have hbx:lH w2 (w.heap.size+1) 43:=⟨_,hy⟩;go_wp2;refine bodyPost_ret (v:=AV t (.slice xb qs.length cb) (.slice xv us.length cv) (.slice xk ls.length ck)) (by simp[results,Tryz.results28,go_sem,q0,q1,q2,q3]) rfl ?_;exact⟨_,_,_,qs,us,rfl,(((hBw.setCell (p:=⟨w.heap.size+1,0,none⟩) (zA) _).setCell (p:=⟨w.heap.size+1,1,none⟩) (zA) _).setCell (p:=⟨w.heap.size+1,2,none⟩) (zA) _).setCell (p:=⟨w.heap.size+1,3,none⟩) (zA) _,(((hSO.put hbx (by decide)).put hbx.put (by decide)).put hbx.put.put (by decide)).put hbx.put.put.put (by decide),hsq,hsu⟩
end Go.Proofs.YtjphnaccgfjnjaaGreatDoor
