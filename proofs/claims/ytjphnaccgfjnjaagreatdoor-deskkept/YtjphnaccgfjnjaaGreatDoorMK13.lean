/- A part of the proof. -/
import Derived.Test.YtjphnaccgfjnjaaGreatDoorMK12
set_option maxRecDepth 100000
set_option maxHeartbeats 20000000
namespace Go.Proofs.YtjphnaccgfjnjaaGreatDoor
variable {w w' wr : World} {base p q k bs c j0 : Nat} {ps qs : List Po} {vs V : List Vn} {ls ls' m : List Le} {vB vV vK uB uV uK : Value} {v u : Vn} {ss ts : List Sb} {us t z a l n y E t' A B C a0 l0 mn mx co vid : Int} {rs : List Rg} {cd : Cd} {x : Int × Int × Int × Int} {cs : List Cd} {ms L : List (Int × Int)} {e : Le} {g : Rg}
open Go.RowKit Go.Shelf
abbrev FZ(E a l n:Int):Obj:= .cells #[.int .i64 E, .int .i64 a, .int .i64 l, .int .i64 n] 28
abbrev L8(E a l n:Int):Value:= .agg #[.int .i64 E, .int .i64 a, .int .i64 l, .int .i64 n]
structure dP where
 t:Int
 ps:List Po
 vs:List Vn
 ls:List (Int×Int)
def jA(s:dP)(cd:Cd)(E n:Int):Prop:=
 if cd.op=1 then E=eV s.t s.ps cd.A cd.a cd.l cd.mn cd.mx cd.us cd.co else
 if cd.op=2 then E=jV s.t s.ps cd.A cd.B cd.C cd.mn cd.mx cd.us cd.co else
 if cd.op=3 then E=gO s.t s.ps cd.A else
 if cd.op=4 then E=qJ s.t s.ps cd.A else
 if cd.op=5 then E=XO s.t s.ps s.vs cd.A cd.B cd.C else
 if cd.op=6 then E=VZ s.t s.ps s.vs cd.A cd.a cd.l else
 if cd.op=7 then E=VY s.ps s.vs s.ls cd.A else
 if cd.op=8 then E=P0 s.t s.ps s.vs s.ls cd.A cd.B cd.C else
 if cd.op=9 then XQ s.t s.ps s.vs cd.A cd.a cd.l E else
 if cd.op=15 then E=oV s.vs.length s.vs s.ls.length s.ls cd.A cd.B else
 if cd.op=16 then E=lX s.vs.length s.vs s.ls.length s.ls cd.A cd.B else
 if 10<=cd.op/\cd.op<=14 then(aJ s.vs.length s.vs cd.A<0/\E=5/\n=0)\/∃k:Nat,k<s.vs.length/\aJ s.vs.length s.vs cd.A=k/\tY (aE s.vs k) cd E n else E=4
def mD(s:dP)(cd:Cd)(a l n:Int)(r:dP):Prop:=
 if cd.op=1 then a=0/\l=0/\n=0/\r.t=s.t/\r.vs=s.vs/\r.ls=s.ls/\∃qs,cB s.ps qs/\gZ ⟨cd.A,0,cd.a,cd.l,cd.mn,cd.mx,cd.us,cd.co,none,0,0,[]⟩ qs r.ps else
 if cd.op=2 then n=0/\r.t=s.t/\r.vs=s.vs/\r.ls=s.ls/\(a,l)=eQ s.t s.ps cd.A cd.B cd.C/\oH s.ps ⟨cd.A,cd.B,a,l,cd.mn,cd.mx,cd.us,cd.co,none,0,0,[]⟩ cd.B r.ps else
 if cd.op=3 then a=0/\l=0/\n=0/\r.vs=s.vs/\r.ls=s.ls/\lE s.t s.ps cd.A r.t r.ps else
 if cd.op=4 then a=0/\l=0/\n=0/\r.vs=s.vs/\r.ls=s.ls/\CR s.t s.ps cd.A r.t r.ps else
 if cd.op=5 then n=0/\r.t=s.t/\r.vs=s.vs/\r.ls=s.ls/\kJ s.ps cd.A cd.B cd.C a l r.ps else
 if cd.op=6 then a=0/\l=0/\n=0/\r.vs=s.vs/\r.ls=s.ls/\oE s.t s.ps cd.A cd.a cd.l r.t r.ps else
 if cd.op=7 then a=0/\l=0/\n=0/\r.t=s.t/\r.ps=s.ps/\H0 s.vs s.ls cd.A r.vs r.ls else
 if cd.op=8 then n=0/\r.t=s.t/\kJ s.ps cd.B cd.C cd.A a l r.ps/\vH s.vs.length s.vs s.ls cd.A ⟨a,l,cd.B⟩ r.vs r.ls else
 if cd.op=9 then a=0/\l=0/\n=0/\r.ls=s.ls/\DpR s.t s.ps s.vs cd.A cd.a cd.l r.t r.ps r.vs else
 if cd.op=15 then a=0/\l=0/\n=0/\r.t=s.t/\r.ps=s.ps/\LZ s.vs s.ls cd.A cd.B r.vs r.ls else
 if cd.op=16 then a=0/\l=0/\n=0/\r.t=s.t/\r.ps=s.ps/\SM s.vs s.ls cd.A cd.B r.vs r.ls else
 a=0/\l=0/\r.t=s.t/\r.ps=s.ps/\r.ls=s.ls/\∃(k:Nat) (u:Vn),k<s.vs.length/\aJ s.vs.length s.vs cd.A=k/\UT (aE s.vs k) cd n u/\r.vs=s.vs.set k u
def ZD(base bs:Nat)(s:dP)(cd:Cd)(w:World)(e:Ending)(w':World):Prop:=
 ∃E a l n,e= .returned (L8 E a l n)/\eT base bs w w'/\jA s cd E n/\(E=0->∃r vB vV vK,kN w' base bs r.t r.ps r.vs r.ls vB vV vK/\mD s cd a l n r)
def aBl(base bs:Nat)(s:dP)(cd:Cd)(w wd:World):Prop:=
 ∃E a l n,wd.heap[w.heap.size+1]?=some (FZ E a l n)/\eT base bs w wd/\jA s cd E n/\(E=0->∃r vB vV vK,kN wd base bs r.t r.ps r.vs r.ls vB vV vK/\mD s cd a l n r)
theorem V4(base bs:Nat)(t:Int)(ps:List Po)(vs:List Vn)(ls:List (Int×Int))(vB vV vK:Value)(cd:Cd)(w:World)(hS:kN w base bs t ps vs ls vB vV vK)(hB:aS t ps=0)(hv6:vs.length<=64)(hcw:tX cd.A cd.a cd.l):
  Calls Tryz.prog 29 #[.pointer (some ⟨bs,0,none⟩),L5 cd] w (ZD base bs ⟨t,ps,vs,ls⟩ cd w):=by
 have hbl:bs<w.heap.size:=(zG hS.box);have hlow:=hS.low;obtain⟨x,c,X,C,Y,D,rfl,rfl,rfl,hk,hvs,hvc,hv63,hps,hl63⟩:=hS.see hB;obtain⟨op,A,B,C0,a,l,mn,mx,us,co⟩:=cd;go_enter Tryz.func29,Tryz.ntmps29;go_upto_region 1 with fail
 obtain⟨w0,hw0⟩:∃w0,w0=(w.alloc (rT ⟨op,A,B,C0,a,l,mn,mx,us,co⟩)).alloc (FZ 0 0 0 0):=⟨_,rfl⟩;rw[<-hw0];have hB0:Below w.heap.size w w0:=by rw[hw0];exact bO w _ _
 have hq0:w0.heap[w.heap.size]?=some (rT ⟨op,A,B,C0,a,l,mn,mx,us,co⟩):=by rw[hw0];exact aG _ (aB _ rfl)
 have hq1:w0.heap[w.heap.size+1]?=some (FZ 0 0 0 0):=by rw[hw0];exact aB _ (by simp)
 have hS0:=hS.later hB0;clear hw0;have hT0:eT base bs w w0:=eT.of hB0 (by omega);have ne1:bs≠w.heap.size+1:=by omega
 have ne4:w.heap.size+1≠bs:=by omega
 have hlo0:base<=w0.heap.size:=Nat.le_trans (by omega) hB0.size;have k0:=aP hq0 0 rfl;go_upto_block 0 with fail
 clear k0;go_cut [4] (fun p wd=>p= .pointer (some ⟨w.heap.size+1,0,none⟩)/\aBl base bs ⟨t,ps,vs,ls⟩ ⟨op,A,B,C0,a,l,mn,mx,us,co⟩ w wd)
 case first=>
  by_cases h1:op=1
  ·subst h1;go_upto_region 4 with fail
   have s0:=Ws.here (aP hS0.box 0 rfl);have s1:=Ws.here (aP hS0.box 1 rfl);have k1:=Ws.here (aP hq0 1 rfl);have k4:=Ws.here (aP hq0 4 rfl);have k5:=Ws.here (aP hq0 5 rfl);have k6:=Ws.here (aP hq0 6 rfl);have k7:=Ws.here (aP hq0 7 rfl);have k8:=Ws.here (aP hq0 8 rfl);have k9:=Ws.here (aP hq0 9 rfl);refine aT [0,1,2,3,4,5,6,7,8,9,10] 11 [12,13,14,15,16] [17,18,19] (by kernel_rfl) (by kernel_rfl) (fun d _ _ _ _ h=>by cases d<;>exact h) ?_;simp only[zK,zM,zI,zJ];repeat(go_big_quiet_step (fail))
   refine wpQuiet_nil ?_;clear s0 s1 k1 k4 k5 k6 k7 k8 k9;intro K hK;go_wp2_with fail;refine(Q2 t x ps.length c ps A a l mn mx us co w0.drew ((hk.later hB0).later (zD).drew)).mono ?_;rintro e w1 ⟨v,rs,t',rfl,hb1,hO1,hE0,hE2⟩;have hB1:Below w0.heap.size w0 w1:=⟨hb1.os,hb1.tape,hb1.output,hb1.size,hb1.block⟩;obtain⟨x1,c1,hv1, -⟩:=hO1.row.mem;subst hv1;go_wp2_with fail;refine aD (hK.out _ _ hB1 ?_);clear hK K;repeat(go_big_quiet_step (fail))
   refine wpQuiet_nil ?_;have hS1:=hS0.later hB1;have hy1:=aA hB1 hq1;have hT1:eT base bs w w1:=hT0.trans (eT.of hB1 hlo0);have hO2:dJ w1 base (.slice x1 rs.length c1) rs rs.length:=hO1.low hlo0;have hbx:lH w1 (w.heap.size+1) 28:=⟨_,hy1⟩;clear hb1 hO1;obtain⟨g0,g1,g2,g3⟩:=dL hS1.box rfl rfl rfl rfl;obtain⟨gz0,gz1,gz2,gz3⟩:=iY hS1.box;obtain⟨q0,q1,q2,q3⟩:=dL hy1 rfl rfl rfl rfl;obtain⟨qz0,qz1,qz2,qz3⟩:=iY hy1;go_wp2_with fail;go_meet
   case rel=>
    refine⟨rfl,eV t ps A a l mn mx us co,0,0,0,zC ((zB ne4).trans ((zB ne4).trans (hy1))),((hT1.set hlow).set hlow).put (by omega) (by omega),?_,fun h=>?_⟩
    ·unfold jA;rw[if_pos rfl]
    ·obtain⟨rfl,hq⟩:=hE2 h;refine⟨⟨t',rs,vs,ls⟩,_,_,_,(hS1.putB hO2).put hbx.put.put (by decide) ne1,?_⟩;unfold mD;rw[if_pos rfl];exact⟨rfl,rfl,rfl,rfl,rfl,rfl,hq⟩
  have n1:(op==1)=false:=by simpa using h1
  by_cases h2:op=2
  ·subst h2;go_upto_region 6 with fail
   have s0:=Ws.here (aP hS0.box 0 rfl);have s1:=Ws.here (aP hS0.box 1 rfl);have k1:=Ws.here (aP hq0 1 rfl);have k2:=Ws.here (aP hq0 2 rfl);have k3:=Ws.here (aP hq0 3 rfl);have k6:=Ws.here (aP hq0 6 rfl);have k7:=Ws.here (aP hq0 7 rfl);have k8:=Ws.here (aP hq0 8 rfl);have k9:=Ws.here (aP hq0 9 rfl);refine aT [0,1,2,3,4,5,6,7,8,9,10,11,12] 13 [14,15,16,17,18,19] [20,21,22,23,24] (by kernel_rfl) (by kernel_rfl) (fun d _ _ _ _ h=>by cases d<;>exact h) ?_;simp only[zK,zM,zI,zJ];repeat(go_big_quiet_step (fail))
   refine wpQuiet_nil ?_;clear s0 s1 k1 k2 k3 k6 k7 k8 k9;intro K hK;go_wp2_with fail;refine(RC t x ps.length c ps A B C0 mn mx us co w0.drew ((hk.later hB0).later (zD).drew)).mono ?_;rintro e w1 ⟨v,rs,t',a',l',rfl,hb1,hO1,hE0,hE2⟩;have hB1:Below w0.heap.size w0 w1:=⟨hb1.os,hb1.tape,hb1.output,hb1.size,hb1.block⟩;obtain⟨x1,c1,hv1, -⟩:=hO1.row.mem;subst hv1;go_wp2_with fail;refine aD (hK.out _ _ hB1 ?_);clear hK K;repeat(go_big_quiet_step (fail))
   refine wpQuiet_nil ?_;have hS1:=hS0.later hB1;have hy1:=aA hB1 hq1;have hT1:eT base bs w w1:=hT0.trans (eT.of hB1 hlo0);have hO2:dJ w1 base (.slice x1 rs.length c1) rs rs.length:=hO1.low hlo0;have hbx:lH w1 (w.heap.size+1) 28:=⟨_,hy1⟩;clear hb1 hO1;obtain⟨g0,g1,g2,g3⟩:=dL hS1.box rfl rfl rfl rfl;obtain⟨gz0,gz1,gz2,gz3⟩:=iY hS1.box;obtain⟨q0,q1,q2,q3⟩:=dL hy1 rfl rfl rfl rfl;obtain⟨qz0,qz1,qz2,qz3⟩:=iY hy1;go_wp2_with fail;go_meet
   case rel=>
    refine⟨rfl,jV t ps A B C0 mn mx us co,a',l',0,zC (zC (zC ((zB ne4).trans ((zB ne4).trans (hy1))))),((((hT1.set hlow).set hlow).put (by omega) (by omega)).put (by omega) (by omega)).put (by omega) (by omega),?_,fun h=>?_⟩
    ·unfold jA;rw[if_neg (by simp),if_pos rfl]
    ·obtain⟨rfl,hal,hq⟩:=hE2 h;refine⟨⟨t',rs,vs,ls⟩,_,_,_,(((hS1.putB hO2).put hbx.put.put (by decide) ne1).put hbx.put.put.put (by decide) ne1).put hbx.put.put.put.put (by decide) ne1,?_⟩;unfold mD;rw[if_neg (by simp),if_pos rfl];exact⟨rfl,rfl,rfl,rfl,hal,hq⟩
  have n2:(op==2)=false:=by simpa using h2
  by_cases h3:op=3
  ·subst h3;go_upto_region 8 with fail
   have s0:=Ws.here (aP hS0.box 0 rfl);have s1:=Ws.here (aP hS0.box 1 rfl);have k1:=Ws.here (aP hq0 1 rfl);refine aT [0,1,2,3,4,5,6] 7 [8,9,10,11,12] [13,14,15] (by kernel_rfl) (by kernel_rfl) (fun d _ _ _ _ h=>by cases d<;>exact h) ?_;simp only[zK,zM,zI,zJ];repeat(go_big_quiet_step (fail))
   refine wpQuiet_nil ?_;clear s0 s1 k1;intro K hK;go_wp2_with fail;refine(NM t x ps.length c ps A w0.drew ((hk.later hB0).later (zD).drew)).mono ?_;rintro e w1 ⟨v,rs,t',rfl,hb1,hO1,hE0,hE2⟩;have hB1:Below w0.heap.size w0 w1:=⟨hb1.os,hb1.tape,hb1.output,hb1.size,hb1.block⟩;obtain⟨x1,c1,hv1, -⟩:=hO1.row.mem;subst hv1;go_wp2_with fail;refine aD (hK.out _ _ hB1 ?_);clear hK K;repeat(go_big_quiet_step (fail))
   refine wpQuiet_nil ?_;have hS1:=hS0.later hB1;have hy1:=aA hB1 hq1;have hT1:eT base bs w w1:=hT0.trans (eT.of hB1 hlo0);have hO2:dJ w1 base (.slice x1 rs.length c1) rs rs.length:=hO1.low hlo0;have hbx:lH w1 (w.heap.size+1) 28:=⟨_,hy1⟩;clear hb1 hO1;obtain⟨g0,g1,g2,g3⟩:=dL hS1.box rfl rfl rfl rfl;obtain⟨gz0,gz1,gz2,gz3⟩:=iY hS1.box;obtain⟨q0,q1,q2,q3⟩:=dL hy1 rfl rfl rfl rfl;obtain⟨qz0,qz1,qz2,qz3⟩:=iY hy1;go_wp2_with fail;go_meet
   case rel=>
    refine⟨rfl,gO t ps A,0,0,0,zC ((zB ne4).trans ((zB ne4).trans (hy1))),((hT1.set hlow).set hlow).put (by omega) (by omega),?_,fun h=>?_⟩
    ·unfold jA;rw[if_neg (by simp),if_neg (by simp),if_pos rfl]
    ·refine⟨⟨t',rs,vs,ls⟩,_,_,_,(hS1.putB hO2).put hbx.put.put (by decide) ne1,?_⟩;unfold mD;rw[if_neg (by simp),if_neg (by simp),if_pos rfl];exact⟨rfl,rfl,rfl,rfl,rfl,hE2 h⟩
  have n3:(op==3)=false:=by simpa using h3
  by_cases h4:op=4
  ·subst h4;go_upto_region 10 with fail
   have s0:=Ws.here (aP hS0.box 0 rfl);have s1:=Ws.here (aP hS0.box 1 rfl);have k1:=Ws.here (aP hq0 1 rfl);refine aT [0,1,2,3,4,5,6] 7 [8,9,10,11,12] [13,14,15] (by kernel_rfl) (by kernel_rfl) (fun d _ _ _ _ h=>by cases d<;>exact h) ?_;simp only[zK,zM,zI,zJ];repeat(go_big_quiet_step (fail))
   refine wpQuiet_nil ?_;clear s0 s1 k1;intro K hK;go_wp2_with fail;refine(Q9 t x ps.length c ps A w0.drew ((hk.later hB0).later (zD).drew)).mono ?_;rintro e w1 ⟨v,rs,t',rfl,hb1,hO1,hE0,hE2⟩;have hB1:Below w0.heap.size w0 w1:=⟨hb1.os,hb1.tape,hb1.output,hb1.size,hb1.block⟩;obtain⟨x1,c1,hv1, -⟩:=hO1.row.mem;subst hv1;go_wp2_with fail;refine aD (hK.out _ _ hB1 ?_);clear hK K;repeat(go_big_quiet_step (fail))
   refine wpQuiet_nil ?_;have hS1:=hS0.later hB1;have hy1:=aA hB1 hq1;have hT1:eT base bs w w1:=hT0.trans (eT.of hB1 hlo0);have hO2:dJ w1 base (.slice x1 rs.length c1) rs rs.length:=hO1.low hlo0;have hbx:lH w1 (w.heap.size+1) 28:=⟨_,hy1⟩;clear hb1 hO1;obtain⟨g0,g1,g2,g3⟩:=dL hS1.box rfl rfl rfl rfl;obtain⟨gz0,gz1,gz2,gz3⟩:=iY hS1.box;obtain⟨q0,q1,q2,q3⟩:=dL hy1 rfl rfl rfl rfl;obtain⟨qz0,qz1,qz2,qz3⟩:=iY hy1;go_wp2_with fail;go_meet
   case rel=>
    refine⟨rfl,qJ t ps A,0,0,0,zC ((zB ne4).trans ((zB ne4).trans (hy1))),((hT1.set hlow).set hlow).put (by omega) (by omega),?_,fun h=>?_⟩
    ·unfold jA;(iterate 3 rw[if_neg (by simp)]);rw[if_pos rfl]
    ·refine⟨⟨t',rs,vs,ls⟩,_,_,_,(hS1.putB hO2).put hbx.put.put (by decide) ne1,?_⟩;unfold mD;(iterate 3 rw[if_neg (by simp)]);rw[if_pos rfl]
     exact⟨rfl,rfl,rfl,rfl,rfl,hE2 h⟩
  have n4:(op==4)=false:=by simpa using h4
  by_cases h5:op=5
  ·subst h5;obtain⟨k0,k1,k2,k3,k4,k5,k6,k7,k8,k9⟩:=uJ hq0 rfl rfl rfl rfl rfl rfl rfl rfl rfl rfl;go_wp2_with fail;refine(O3 base bs t ps vs ls _ _ _ ⟨5,A,B,C0,a,l,mn,mx,us,co⟩ w0 hS0 hB hv6).mono ?_;rintro e w1 ⟨a',l',rfl,hTi,hE2⟩;have hy1:=hTi.box _ _ _ ne4 (by decide) hq1;have hT1:eT base bs w w1:=hT0.trans hTi;have hbx:lH w1 (w.heap.size+1) 28:=⟨_,hy1⟩;clear k0 k1 k2 k3 k4 k5 k6 k7 k8 k9;obtain⟨q0,q1,q2,q3⟩:=dL hy1 rfl rfl rfl rfl;obtain⟨qz0,qz1,qz2,qz3⟩:=iY hy1;go_wp2_with fail;go_meet
   case rel=>
    refine⟨rfl,XO t ps vs A B C0,a',l',0,zC (zC (zC (hy1))),(((hT1).put (by omega) (by omega)).put (by omega) (by omega)).put (by omega) (by omega),?_,fun h=>?_⟩
    ·unfold jA;(iterate 4 rw[if_neg (by simp)]);rw[if_pos rfl]
    ·obtain⟨rs,vB,vV,vK,hSr,hR⟩:=hE2 h;refine⟨⟨t,rs,vs,ls⟩,vB,vV,vK,(((hSr).put hbx (by decide) ne1).put hbx.put (by decide) ne1).put hbx.put.put (by decide) ne1,?_⟩;unfold mD;(iterate 4 rw[if_neg (by simp)]);rw[if_pos rfl]
     exact⟨rfl,rfl,rfl,rfl,hR⟩
  have n5:(op==5)=false:=by simpa using h5
  by_cases h6:op=6
  ·subst h6;obtain⟨k0,k1,k2,k3,k4,k5,k6,k7,k8,k9⟩:=uJ hq0 rfl rfl rfl rfl rfl rfl rfl rfl rfl rfl;go_wp2_with fail;refine(O4 base bs t ps vs ls _ _ _ ⟨6,A,B,C0,a,l,mn,mx,us,co⟩ w0 hS0 hB hv6 hcw).mono ?_;rintro e w1 ⟨rfl,hTi,hE2⟩;have hy1:=hTi.box _ _ _ ne4 (by decide) hq1;have hT1:eT base bs w w1:=hT0.trans hTi;have hbx:lH w1 (w.heap.size+1) 28:=⟨_,hy1⟩;clear k0 k1 k2 k3 k4 k5 k6 k7 k8 k9;obtain⟨q0,q1,q2,q3⟩:=dL hy1 rfl rfl rfl rfl;obtain⟨qz0,qz1,qz2,qz3⟩:=iY hy1;go_wp2_with fail;go_meet
   case rel=>
    refine⟨rfl,VZ t ps vs A a l,0,0,0,zC (hy1),(hT1).put (by omega) (by omega),?_,fun h=>?_⟩
    ·unfold jA;(iterate 5 rw[if_neg (by simp)]);rw[if_pos rfl]
    ·obtain⟨t',rs,vB,vV,vK,hSr,hR⟩:=hE2 h;refine⟨⟨t',rs,vs,ls⟩,vB,vV,vK,(hSr).put hbx (by decide) ne1,?_⟩;unfold mD;(iterate 5 rw[if_neg (by simp)]);rw[if_pos rfl]
     exact⟨rfl,rfl,rfl,rfl,rfl,hR⟩
  have n6:(op==6)=false:=by simpa using h6
  by_cases h7:op=7
  ·subst h7;obtain⟨k0,k1,k2,k3,k4,k5,k6,k7,k8,k9⟩:=uJ hq0 rfl rfl rfl rfl rfl rfl rfl rfl rfl rfl;go_wp2_with fail;refine(KY base bs t ps vs ls _ _ _ ⟨7,A,B,C0,a,l,mn,mx,us,co⟩ w0 hS0 hB).mono ?_;rintro e w1 ⟨rfl,hTi,hE2⟩;have hy1:=hTi.box _ _ _ ne4 (by decide) hq1;have hT1:eT base bs w w1:=hT0.trans hTi;have hbx:lH w1 (w.heap.size+1) 28:=⟨_,hy1⟩;clear k0 k1 k2 k3 k4 k5 k6 k7 k8 k9;obtain⟨q0,q1,q2,q3⟩:=dL hy1 rfl rfl rfl rfl;obtain⟨qz0,qz1,qz2,qz3⟩:=iY hy1;go_wp2_with fail;go_meet
   case rel=>
    refine⟨rfl,VY ps vs ls A,0,0,0,zC (hy1),(hT1).put (by omega) (by omega),?_,fun h=>?_⟩
    ·unfold jA;(iterate 6 rw[if_neg (by simp)]);rw[if_pos rfl]
    ·obtain⟨us',ms,vB,vV,vK,hSr,hR⟩:=hE2 h;refine⟨⟨t,ps,us',ms⟩,vB,vV,vK,(hSr).put hbx (by decide) ne1,?_⟩;unfold mD;(iterate 6 rw[if_neg (by simp)]);rw[if_pos rfl]
     exact⟨rfl,rfl,rfl,rfl,rfl,hR⟩
  have n7:(op==7)=false:=by simpa using h7
  by_cases h8:op=8
  ·subst h8;obtain⟨k0,k1,k2,k3,k4,k5,k6,k7,k8,k9⟩:=uJ hq0 rfl rfl rfl rfl rfl rfl rfl rfl rfl rfl;go_wp2_with fail;refine(O5 base bs t ps vs ls _ _ _ ⟨8,A,B,C0,a,l,mn,mx,us,co⟩ w0 hS0 hB hv6).mono ?_;rintro e w1 ⟨a',l',rfl,hTi,hE2⟩;have hy1:=hTi.box _ _ _ ne4 (by decide) hq1;have hT1:eT base bs w w1:=hT0.trans hTi;have hbx:lH w1 (w.heap.size+1) 28:=⟨_,hy1⟩;clear k0 k1 k2 k3 k4 k5 k6 k7 k8 k9;obtain⟨q0,q1,q2,q3⟩:=dL hy1 rfl rfl rfl rfl;obtain⟨qz0,qz1,qz2,qz3⟩:=iY hy1;go_wp2_with fail;go_meet
   case rel=>
    refine⟨rfl,P0 t ps vs ls A B C0,a',l',0,zC (zC (zC (hy1))),(((hT1).put (by omega) (by omega)).put (by omega) (by omega)).put (by omega) (by omega),?_,fun h=>?_⟩
    ·unfold jA;(iterate 7 rw[if_neg (by simp)]);rw[if_pos rfl]
    ·obtain⟨rs,us',ms,vB,vV,vK,hSr,hR,hR2⟩:=hE2 h;refine⟨⟨t,rs,us',ms⟩,vB,vV,vK,(((hSr).put hbx (by decide) ne1).put hbx.put (by decide) ne1).put hbx.put.put (by decide) ne1,?_⟩;unfold mD;(iterate 7 rw[if_neg (by simp)]);rw[if_pos rfl]
     exact⟨rfl,rfl,hR,hR2⟩
  have n8:(op==8)=false:=by simpa using h8
  by_cases h9:op=9
  ·subst h9;obtain⟨k0,k1,k2,k3,k4,k5,k6,k7,k8,k9⟩:=uJ hq0 rfl rfl rfl rfl rfl rfl rfl rfl rfl rfl;go_wp2_with fail;refine(O8 base bs t ps vs ls _ _ _ ⟨9,A,B,C0,a,l,mn,mx,us,co⟩ w0 hS0 hB hv6).mono ?_;rintro e w1 ⟨E,rfl,hTi,hA,hE2⟩;have hy1:=hTi.box _ _ _ ne4 (by decide) hq1;have hT1:eT base bs w w1:=hT0.trans hTi;have hbx:lH w1 (w.heap.size+1) 28:=⟨_,hy1⟩;clear k0 k1 k2 k3 k4 k5 k6 k7 k8 k9;obtain⟨q0,q1,q2,q3⟩:=dL hy1 rfl rfl rfl rfl;obtain⟨qz0,qz1,qz2,qz3⟩:=iY hy1;go_wp2_with fail;go_meet
   case rel=>
    refine⟨rfl,E,0,0,0,zC (hy1),(hT1).put (by omega) (by omega),?_,fun h=>?_⟩
    ·unfold jA;(iterate 8 rw[if_neg (by simp)]);rw[if_pos rfl];exact hA
    ·obtain⟨t',rs,us',vB,vV,vK,hSr,hR⟩:=hE2 h;refine⟨⟨t',rs,us',ls⟩,vB,vV,vK,(hSr).put hbx (by decide) ne1,?_⟩;unfold mD;(iterate 8 rw[if_neg (by simp)]);rw[if_pos rfl]
     exact⟨rfl,rfl,rfl,rfl,hR⟩
  have n9:(op==9)=false:=by simpa using h9
  by_cases h10:op=10
  ·subst h10;obtain⟨k0,k1,k2,k3,k4,k5,k6,k7,k8,k9⟩:=uJ hq0 rfl rfl rfl rfl rfl rfl rfl rfl rfl rfl;go_wp2_with fail;refine(iF base bs t ps vs ls _ _ _ ⟨10,A,B,C0,a,l,mn,mx,us,co⟩ w0 hS0 hB hv6).mono ?_;rintro e w1 ⟨E,n,rfl,hTi,hA,hE2⟩;have hy1:=hTi.box _ _ _ ne4 (by decide) hq1;have hT1:eT base bs w w1:=hT0.trans hTi;have hbx:lH w1 (w.heap.size+1) 28:=⟨_,hy1⟩;clear k0 k1 k2 k3 k4 k5 k6 k7 k8 k9;obtain⟨q0,q1,q2,q3⟩:=dL hy1 rfl rfl rfl rfl;obtain⟨qz0,qz1,qz2,qz3⟩:=iY hy1;go_wp2_with fail;go_meet
   case rel=>
    refine⟨rfl,E,0,0,n,zC (zC (hy1)),((hT1).put (by omega) (by omega)).put (by omega) (by omega),?_,fun h=>?_⟩
    ·unfold jA;(iterate 11 rw[if_neg (by simp)]);rw[if_pos (show(10:Int)<=10/\(10:Int)<=14 by decide)];exact hA
    ·obtain⟨k,u,vB,vV,vK,hk1,hk2,hR,hSr⟩:=hE2 h;refine⟨⟨t,ps,vs.set k u,ls⟩,vB,vV,vK,((hSr).put hbx (by decide) ne1).put hbx.put (by decide) ne1,?_⟩;unfold mD;(iterate 11 rw[if_neg (by simp)])
     exact⟨rfl,rfl,rfl,rfl,rfl,k,u,hk1,hk2,hR,rfl⟩
  have n10:(op==10)=false:=by simpa using h10
  by_cases h11:op=11
  ·subst h11;obtain⟨k0,k1,k2,k3,k4,k5,k6,k7,k8,k9⟩:=uJ hq0 rfl rfl rfl rfl rfl rfl rfl rfl rfl rfl;go_wp2_with fail;refine(iF base bs t ps vs ls _ _ _ ⟨11,A,B,C0,a,l,mn,mx,us,co⟩ w0 hS0 hB hv6).mono ?_;rintro e w1 ⟨E,n,rfl,hTi,hA,hE2⟩;have hy1:=hTi.box _ _ _ ne4 (by decide) hq1;have hT1:eT base bs w w1:=hT0.trans hTi;have hbx:lH w1 (w.heap.size+1) 28:=⟨_,hy1⟩;clear k0 k1 k2 k3 k4 k5 k6 k7 k8 k9;obtain⟨q0,q1,q2,q3⟩:=dL hy1 rfl rfl rfl rfl;obtain⟨qz0,qz1,qz2,qz3⟩:=iY hy1;go_wp2_with fail;go_meet
   case rel=>
    refine⟨rfl,E,0,0,n,zC (zC (hy1)),((hT1).put (by omega) (by omega)).put (by omega) (by omega),?_,fun h=>?_⟩
    ·unfold jA;(iterate 11 rw[if_neg (by simp)]);rw[if_pos (show(10:Int)<=11/\(11:Int)<=14 by decide)];exact hA
    ·obtain⟨k,u,vB,vV,vK,hk1,hk2,hR,hSr⟩:=hE2 h;refine⟨⟨t,ps,vs.set k u,ls⟩,vB,vV,vK,((hSr).put hbx (by decide) ne1).put hbx.put (by decide) ne1,?_⟩;unfold mD;(iterate 11 rw[if_neg (by simp)])
     exact⟨rfl,rfl,rfl,rfl,rfl,k,u,hk1,hk2,hR,rfl⟩
  have n11:(op==11)=false:=by simpa using h11
  by_cases h12:op=12
  ·subst h12;obtain⟨k0,k1,k2,k3,k4,k5,k6,k7,k8,k9⟩:=uJ hq0 rfl rfl rfl rfl rfl rfl rfl rfl rfl rfl;go_wp2_with fail;refine(iF base bs t ps vs ls _ _ _ ⟨12,A,B,C0,a,l,mn,mx,us,co⟩ w0 hS0 hB hv6).mono ?_;rintro e w1 ⟨E,n,rfl,hTi,hA,hE2⟩;have hy1:=hTi.box _ _ _ ne4 (by decide) hq1;have hT1:eT base bs w w1:=hT0.trans hTi;have hbx:lH w1 (w.heap.size+1) 28:=⟨_,hy1⟩;clear k0 k1 k2 k3 k4 k5 k6 k7 k8 k9;obtain⟨q0,q1,q2,q3⟩:=dL hy1 rfl rfl rfl rfl;obtain⟨qz0,qz1,qz2,qz3⟩:=iY hy1;go_wp2_with fail;go_meet
   case rel=>
    refine⟨rfl,E,0,0,n,zC (zC (hy1)),((hT1).put (by omega) (by omega)).put (by omega) (by omega),?_,fun h=>?_⟩
    ·unfold jA;(iterate 11 rw[if_neg (by simp)]);rw[if_pos (show(10:Int)<=12/\(12:Int)<=14 by decide)];exact hA
    ·obtain⟨k,u,vB,vV,vK,hk1,hk2,hR,hSr⟩:=hE2 h;refine⟨⟨t,ps,vs.set k u,ls⟩,vB,vV,vK,((hSr).put hbx (by decide) ne1).put hbx.put (by decide) ne1,?_⟩;unfold mD;(iterate 11 rw[if_neg (by simp)])
     exact⟨rfl,rfl,rfl,rfl,rfl,k,u,hk1,hk2,hR,rfl⟩
  have n12:(op==12)=false:=by simpa using h12
  by_cases h13:op=13
  ·subst h13;obtain⟨k0,k1,k2,k3,k4,k5,k6,k7,k8,k9⟩:=uJ hq0 rfl rfl rfl rfl rfl rfl rfl rfl rfl rfl;go_wp2_with fail;refine(iF base bs t ps vs ls _ _ _ ⟨13,A,B,C0,a,l,mn,mx,us,co⟩ w0 hS0 hB hv6).mono ?_;rintro e w1 ⟨E,n,rfl,hTi,hA,hE2⟩;have hy1:=hTi.box _ _ _ ne4 (by decide) hq1;have hT1:eT base bs w w1:=hT0.trans hTi;have hbx:lH w1 (w.heap.size+1) 28:=⟨_,hy1⟩;clear k0 k1 k2 k3 k4 k5 k6 k7 k8 k9;obtain⟨q0,q1,q2,q3⟩:=dL hy1 rfl rfl rfl rfl;obtain⟨qz0,qz1,qz2,qz3⟩:=iY hy1;go_wp2_with fail;go_meet
   case rel=>
    refine⟨rfl,E,0,0,n,zC (zC (hy1)),((hT1).put (by omega) (by omega)).put (by omega) (by omega),?_,fun h=>?_⟩
    ·unfold jA;(iterate 11 rw[if_neg (by simp)]);rw[if_pos (show(10:Int)<=13/\(13:Int)<=14 by decide)];exact hA
    ·obtain⟨k,u,vB,vV,vK,hk1,hk2,hR,hSr⟩:=hE2 h;refine⟨⟨t,ps,vs.set k u,ls⟩,vB,vV,vK,((hSr).put hbx (by decide) ne1).put hbx.put (by decide) ne1,?_⟩;unfold mD;(iterate 11 rw[if_neg (by simp)])
     exact⟨rfl,rfl,rfl,rfl,rfl,k,u,hk1,hk2,hR,rfl⟩
  have n13:(op==13)=false:=by simpa using h13
  by_cases h14:op=14
  ·subst h14;obtain⟨k0,k1,k2,k3,k4,k5,k6,k7,k8,k9⟩:=uJ hq0 rfl rfl rfl rfl rfl rfl rfl rfl rfl rfl;go_wp2_with fail;refine(iF base bs t ps vs ls _ _ _ ⟨14,A,B,C0,a,l,mn,mx,us,co⟩ w0 hS0 hB hv6).mono ?_;rintro e w1 ⟨E,n,rfl,hTi,hA,hE2⟩;have hy1:=hTi.box _ _ _ ne4 (by decide) hq1;have hT1:eT base bs w w1:=hT0.trans hTi;have hbx:lH w1 (w.heap.size+1) 28:=⟨_,hy1⟩;clear k0 k1 k2 k3 k4 k5 k6 k7 k8 k9;obtain⟨q0,q1,q2,q3⟩:=dL hy1 rfl rfl rfl rfl;obtain⟨qz0,qz1,qz2,qz3⟩:=iY hy1;go_wp2_with fail;go_meet
   case rel=>
    refine⟨rfl,E,0,0,n,zC (zC (hy1)),((hT1).put (by omega) (by omega)).put (by omega) (by omega),?_,fun h=>?_⟩
    ·unfold jA;(iterate 11 rw[if_neg (by simp)]);rw[if_pos (show(10:Int)<=14/\(14:Int)<=14 by decide)];exact hA
    ·obtain⟨k,u,vB,vV,vK,hk1,hk2,hR,hSr⟩:=hE2 h;refine⟨⟨t,ps,vs.set k u,ls⟩,vB,vV,vK,((hSr).put hbx (by decide) ne1).put hbx.put (by decide) ne1,?_⟩;unfold mD;(iterate 11 rw[if_neg (by simp)])
     exact⟨rfl,rfl,rfl,rfl,rfl,k,u,hk1,hk2,hR,rfl⟩
  have n14:(op==14)=false:=by simpa using h14
  by_cases h15:op=15
  ·subst h15;go_upto_region 28 with fail
   have s2:=Ws.here (aP hS0.box 2 rfl);have s3:=Ws.here (aP hS0.box 3 rfl);have k1:=Ws.here (aP hq0 1 rfl);have k2:=Ws.here (aP hq0 2 rfl);refine aT [0,1,2,3,4,5,6,7,8] 9 [10,11,12,13,14] [15,16,17] (by kernel_rfl) (by kernel_rfl) (fun d _ _ _ _ h=>by cases d<;>exact h) ?_;simp only[zK,zM,zI,zJ];repeat(go_big_quiet_step (fail))
   refine wpQuiet_nil ?_;clear s2 s3 k1 k2;intro K hK;go_wp2_with fail;refine(SR X vs.length C vs Y ls.length D ls A B w0.drew ((hvs.later hB0).later (zD).drew) hv63 hvc ((hps.later hB0).later (zD).drew) hl63).mono ?_;rintro e w1 ⟨V,rfl,hb3,hV0,hV1⟩;have hB1:Below w0.heap.size w0 w1:=⟨hb3.os,hb3.tape,hb3.output,hb3.size,hb3.block⟩;obtain⟨y1,m1,d1,y2,m2,d2,rfl⟩:=qA hV0 hV1;clear hV0;go_wp2_with fail;refine aD (hK.out _ _ hB1 ?_);clear hK K;repeat(go_big_quiet_step (fail))
   refine wpQuiet_nil ?_;have hS1:=hS0.later hB1;have hy1:=aA hB1 hq1;have hT1:eT base bs w w1:=hT0.trans (eT.of hB1 hlo0);have hbx:lH w1 (w.heap.size+1) 28:=⟨_,hy1⟩;obtain⟨g0,g1,g2,g3⟩:=dL hS1.box rfl rfl rfl rfl;obtain⟨gz0,gz1,gz2,gz3⟩:=iY hS1.box;obtain⟨q0,q1,q2,q3⟩:=dL hy1 rfl rfl rfl rfl;obtain⟨qz0,qz1,qz2,qz3⟩:=iY hy1;go_wp2_with fail;go_meet
   case rel=>
    refine⟨rfl,oV vs.length vs ls.length ls A B,0,0,0,zC ((zB ne4).trans ((zB ne4).trans (hy1))),((hT1.set hlow).set hlow).put (by omega) (by omega),?_,fun h=>?_⟩
    ·unfold jA;(iterate 9 rw[if_neg (by simp)]);rw[if_pos rfl]
    ·obtain⟨us',ms,⟨v',k',e',hOV,hVo,hOK⟩,hR⟩:=hV1 h
     cases e';have hlo:base<=w0.drew.heap.size:=hlo0;refine⟨⟨t,ps,us',ms⟩,_,_,_,(hS1.putN (hOV.low hlo) (fun u hu=>((hVo u hu).low hlo).vty) (hOK.low hlo)).put hbx.put.put (by decide) ne1,?_⟩;unfold mD;(iterate 9 rw[if_neg (by simp)]);rw[if_pos rfl]
     exact⟨rfl,rfl,rfl,rfl,rfl,hR⟩
  have n15:(op==15)=false:=by simpa using h15
  by_cases h16:op=16
  ·subst h16;go_upto_region 30 with fail
   have s2:=Ws.here (aP hS0.box 2 rfl);have s3:=Ws.here (aP hS0.box 3 rfl);have k1:=Ws.here (aP hq0 1 rfl);have k2:=Ws.here (aP hq0 2 rfl);refine aT [0,1,2,3,4,5,6,7,8] 9 [10,11,12,13,14] [15,16,17] (by kernel_rfl) (by kernel_rfl) (fun d _ _ _ _ h=>by cases d<;>exact h) ?_;simp only[zK,zM,zI,zJ];repeat(go_big_quiet_step (fail))
   refine wpQuiet_nil ?_;clear s2 s3 k1 k2;intro K hK;go_wp2_with fail;refine(SN X vs.length C vs Y ls.length D ls A B w0.drew ((hvs.later hB0).later (zD).drew) hv63 hvc ((hps.later hB0).later (zD).drew) hl63).mono ?_;rintro e w1 ⟨V,rfl,hb3,hV0,hV1⟩;have hB1:Below w0.heap.size w0 w1:=⟨hb3.os,hb3.tape,hb3.output,hb3.size,hb3.block⟩;obtain⟨y1,m1,d1,y2,m2,d2,rfl⟩:=qA hV0 hV1;clear hV0;go_wp2_with fail;refine aD (hK.out _ _ hB1 ?_);clear hK K;repeat(go_big_quiet_step (fail))
   refine wpQuiet_nil ?_;have hS1:=hS0.later hB1;have hy1:=aA hB1 hq1;have hT1:eT base bs w w1:=hT0.trans (eT.of hB1 hlo0);have hbx:lH w1 (w.heap.size+1) 28:=⟨_,hy1⟩;obtain⟨g0,g1,g2,g3⟩:=dL hS1.box rfl rfl rfl rfl;obtain⟨gz0,gz1,gz2,gz3⟩:=iY hS1.box;obtain⟨q0,q1,q2,q3⟩:=dL hy1 rfl rfl rfl rfl;obtain⟨qz0,qz1,qz2,qz3⟩:=iY hy1;go_wp2_with fail;go_meet
   case rel=>
    refine⟨rfl,lX vs.length vs ls.length ls A B,0,0,0,zC ((zB ne4).trans ((zB ne4).trans (hy1))),((hT1.set hlow).set hlow).put (by omega) (by omega),?_,fun h=>?_⟩
    ·unfold jA;(iterate 10 rw[if_neg (by simp)]);rw[if_pos rfl]
    ·obtain⟨us',ms,⟨v',k',e',hOV,hVo,hOK⟩,hR⟩:=hV1 h
     cases e';have hlo:base<=w0.drew.heap.size:=hlo0;refine⟨⟨t,ps,us',ms⟩,_,_,_,(hS1.putN (hOV.low hlo) (fun u hu=>((hVo u hu).low hlo).vty) (hOK.low hlo)).put hbx.put.put (by decide) ne1,?_⟩;unfold mD;(iterate 10 rw[if_neg (by simp)]);rw[if_pos rfl]
     exact⟨rfl,rfl,rfl,rfl,rfl,hR⟩
  have n16:(op==16)=false:=by simpa using h16
  obtain⟨q0,q1,q2,q3⟩:=dL hq1 rfl rfl rfl rfl
  obtain⟨qz0,qz1,qz2,qz3⟩:=iY hq1
  go_wp2_with fail
  go_meet
  case rel=>
   refine⟨rfl,4,0,0,0,zC hq1,hT0.put (by omega) (by omega),?_,fun h=>absurd h (by decide)⟩
   unfold jA
   rw[if_neg h1,if_neg h2,if_neg h3,if_neg h4,if_neg h5,if_neg h6,if_neg h7,if_neg h8,if_neg h9,if_neg h15,if_neg h16,if_neg (show¬(10<=op/\op<=14) by omega)]
 case rest=>
  obtain⟨rfl,E,a',l',n,hy,hTc,hE,hR⟩:=hcut
  have hbx:lH wc (w.heap.size+1) 28:=⟨_,hy⟩
  obtain⟨q0,q1,q2,q3⟩:=dL hy rfl rfl rfl rfl
  obtain⟨qz0,qz1,qz2,qz3⟩:=iY hy
  go_wp2
  refine bodyPost_ret (v:=L8 E a' l' n) (by simp[results,Tryz.results29,go_sem,q0,q1,q2,q3]) rfl ?_
  refine⟨E,a',l',n,rfl,(((hTc.put (by omega) (by omega)).put (by omega) (by omega)).put (by omega) (by omega)).put (by omega) (by omega),hE,fun h=>?_⟩
  obtain⟨r,vB,vV,vK,hSr,hr⟩:=hR h
  exact⟨r,vB,vV,vK,(((hSr.put hbx (by decide) ne1).put hbx.put (by decide) ne1).put hbx.put.put (by decide) ne1).put hbx.put.put.put (by decide) ne1,hr⟩
def gH(s q:dP):Prop:=q.t=s.t/\cB s.ps q.ps/\bV s.vs q.vs/\q.ls=s.ls
def tZ(s:dP)(cd:Cd)(E a l n:Int)(r:dP):Prop:=∃q,gH s q/\((E≠0/\(∃n',jA q cd E n')/\a=0/\l=0/\n=0/\gH s r)\/(E=0/\jA q cd 0 n/\mD q cd a l n r))
def ZE(s:dP)(cd:Cd)(w:World)(e:Ending)(w':World):Prop:=
 ∃E a l n r vB vV vK,e= .returned (.tuple #[AV r.t vB vV vK,L8 E a l n])/\Below w.heap.size w w'/\SO w' w.heap.size r.ps r.vs r.ls vB vV vK/\tZ s cd E a l n r
structure wW(w:World)(b c:Nat):Type where
 val:World
 p1:val.heap[b]?=w.heap[b]?
 p2:val.heap[c]?=w.heap[c]?
@[simp] theorem wW.all_const(w:World)(b c:Nat)(p:Prop):(wW w b c->p)↔p:=⟨fun h=>h ⟨w,rfl,rfl⟩,fun h _=>h⟩
theorem SO.slices{ls:List (Int×Int)}(h:SO w base ps vs ls vB vV vK):∃x c X C Y D,vB= .slice x ps.length c/\vV= .slice X vs.length C/\vK= .slice Y ls.length D:=by
 obtain⟨x,c,h1, -⟩:=h.bk.row.mem;obtain⟨X,C,h2, -⟩:=h.row.mem;obtain⟨Y,D,h3, -⟩:=h.lks.mem;exact⟨x,c,X,C,Y,D,h1,h2,h3⟩
theorem IB(t:Int)(x:Option Addr)(n c:Nat)(ps:List Po)(X:Option Addr)(vn C:Nat)(vs:List Vn)(Y:Option Addr)(ln D:Nat)(ls:List (Int×Int))(cd:Cd)(w:World)(hs:Si w x n c ps X vn C vs Y ln ls)(hB:aS t ps=0)(hN:KZ vn vs ln)(hcw:tX cd.A cd.a cd.l):
  Calls Tryz.prog 16 #[AV t (.slice x n c) (.slice X vn C) (.slice Y ln D),L5 cd] w (ZE ⟨t,ps,vs,ls⟩ cd w):=by
 have h6:=hN.1;have hvl:Hid (vs.length=vn):=hs.vps.len;go_enter Tryz.func16,Tryz.ntmps16;go_upto_region 1 with fail
 obtain⟨w0,hw0⟩:∃w0,w0=(((w.alloc (iI t (.slice x n c) (.slice X vn C) (.slice Y ln D))).alloc (rT cd)).alloc (iI 0 (.slice none 0 0) (.slice none 0 0) (.slice none 0 0))).alloc (FZ 0 0 0 0):=⟨_,rfl⟩;rw[<-hw0];have hB0:Below w.heap.size w w0:=by rw[hw0];exact((bO w _ _).alloc (by simp;omega) _).alloc (by simp;omega) _
 have hq0:w0.heap[w.heap.size]?=some (iI t (.slice x n c) (.slice X vn C) (.slice Y ln D)):=by rw[hw0];exact aG _ (aG _ (aG _ (aB _ rfl)))
 have hq1:w0.heap[w.heap.size+1]?=some (rT cd):=by rw[hw0];exact aG _ (aG _ (aB _ (by simp)))
 have hq2:w0.heap[w.heap.size+2]?=some (iI 0 (.slice none 0 0) (.slice none 0 0) (.slice none 0 0)):=by rw[hw0];exact aG _ (aB _ (by simp))
 have hq3:w0.heap[w.heap.size+3]?=some (FZ 0 0 0 0):=by rw[hw0];exact aB _ (by simp)
 clear hw0;have hz3:w.heap.size+3<w0.heap.size:=(zG hq3);obtain⟨s0,s1,s2,s3⟩:=dL hq0 rfl rfl rfl rfl;go_wp2_with fail;refine(DN t x n c ps X vn C vs Y ln D ls w0 (hs.later hB0) hB hN).mono ?_;rintro e w1 ⟨vB,vV,vK,qs,us,rfl,hb1,hO1,hsq,hsu⟩;obtain⟨x1,c1,X1,C1,Y1,D1,rfl,rfl,rfl⟩:=hO1.slices;clear s0 s1 s2 s3;go_upto_region 2 with fail
 obtain⟨w2,hw2⟩:∃w2,w2=w1.alloc (iI t (.slice x1 qs.length c1) (.slice X1 us.length C1) (.slice Y1 ls.length D1)):=⟨_,rfl⟩;rw[<-hw2];have hb2:Below w1.heap.size w1 w2:=by rw[hw2];exact bl1 w1 _
 have hbx2:w2.heap[w1.heap.size]?=some (iI t (.slice x1 qs.length c1) (.slice X1 us.length C1) (.slice Y1 ls.length D1)):=by rw[hw2];exact aB _ rfl
 clear hw2;have hz1:=hb1.size;have hS2:kN w2 w.heap.size w1.heap.size t qs us ls (.slice x1 qs.length c1) (.slice X1 us.length C1) (.slice Y1 ls.length D1):=⟨hbx2,by omega,(hO1.low hB0.size).later hb2⟩;have hB2:Below w0.heap.size w0 w2:=hb1.trans (hb2.mono hz1);have hp1:=aA hB2 hq1;have hqB:aS t qs=0:=(jW hs.bk.full hsq hB).1;have hu6:us.length<=64:=by rw[<-hsu.1,hvl.out];exact h6
 obtain⟨k0,k1,k2,k3,k4,k5,k6,k7,k8,k9⟩:=uJ hp1 rfl rfl rfl rfl rfl rfl rfl rfl rfl rfl;go_wp2_with fail;refine(V4 w.heap.size w1.heap.size t qs us ls _ _ _ cd w2 hS2 hqB hu6 hcw).mono ?_;rintro e w3 ⟨E,a,l,n',rfl,hT3,hE,hR⟩;clear k0 k1 k2 k3 k4 k5 k6 k7 k8 k9;have hn:∀k,k<w0.heap.size->k≠w1.heap.size:=fun k hk=>by omega
 have h30:=hT3.box _ _ _ (hn _ (by omega)) (by decide) (aA hB2 hq0);have h32:=hT3.box _ _ _ (hn _ (by omega)) (by decide) (aA hB2 hq2);have h33:=hT3.box _ _ _ (hn _ (by omega)) (by decide) (aA hB2 hq3);have h3x:w1.heap.size<w3.heap.size:=Nat.lt_of_lt_of_le (zG hbx2) hT3.below.size;have hBw3:Below w.heap.size w w3:=(hB0.trans (hB2.mono hB0.size)).trans hT3.below;go_upto_region 3 with fail
 obtain⟨w4,hw4⟩:∃w4,w4=w3.alloc (FZ E a l n'):=⟨_,rfl⟩;rw[<-hw4];have hb4:Below w3.heap.size w3 w4:=by rw[hw4];exact bl1 w3 _
 have h4a:w4.heap[w3.heap.size]?=some (FZ E a l n'):=by rw[hw4];exact aB _ rfl
 clear hw4;have h40:=aA hb4 h30;have h42:=aA hb4 h32;have h43:=aA hb4 h33;have hBw4:Below w.heap.size w w4:=hBw3.trans (hb4.mono hBw3.size);have hsq':Hid (gH ⟨t,ps,vs,ls⟩ ⟨t,qs,us,ls⟩):=⟨rfl,hsq,hsu,rfl⟩;have hE':Hid (jA ⟨t,qs,us,ls⟩ cd E n'):=hE;have e0:=aP h4a 0 rfl;clear hE h30 h32 h33 hsq hsu hbx2 hp1 hq0 hq1 hq2 hq3;by_cases h0:E=0
 ·subst h0;obtain⟨r,vB,vV,vK,hSr,hRr⟩:=hR rfl;have hR':Hid (mD ⟨t,qs,us,ls⟩ cd a l n' r):=hRr;clear hRr hR;obtain⟨x5,c5,X5,C5,Y5,D5,rfl,rfl,rfl⟩:=hSr.own.slices;have hS4:=hSr.later hb4;go_upto_region 5 with fail
  clear e0;have s0:∀u:wW w4 w1.heap.size w3.heap.size,u.val.cell? ⟨w1.heap.size,0,none⟩=some (.int .i64 r.t):=fun u=>(aC (u.p1.trans hS4.box)).1 0;have s1:∀u:wW w4 w1.heap.size w3.heap.size,u.val.cell? ⟨w1.heap.size,1,none⟩=some (.slice x5 r.ps.length c5):=fun u=>(aC (u.p1.trans hS4.box)).1 1;have s2:∀u:wW w4 w1.heap.size w3.heap.size,u.val.cell? ⟨w1.heap.size,2,none⟩=some (.slice X5 r.vs.length C5):=fun u=>(aC (u.p1.trans hS4.box)).1 2;have s3:∀u:wW w4 w1.heap.size w3.heap.size,u.val.cell? ⟨w1.heap.size,3,none⟩=some (.slice Y5 r.ls.length D5):=fun u=>(aC (u.p1.trans hS4.box)).1 3;have a0:∀u:wW w4 w1.heap.size w3.heap.size,u.val.cell? ⟨w3.heap.size,0,none⟩=some (.int .i64 0):=fun u=>(aC (u.p2.trans h4a)).1 0;have a1:∀u:wW w4 w1.heap.size w3.heap.size,u.val.cell? ⟨w3.heap.size,1,none⟩=some (.int .i64 a):=fun u=>(aC (u.p2.trans h4a)).1 1;have a2:∀u:wW w4 w1.heap.size w3.heap.size,u.val.cell? ⟨w3.heap.size,2,none⟩=some (.int .i64 l):=fun u=>(aC (u.p2.trans h4a)).1 2;have a3:∀u:wW w4 w1.heap.size w3.heap.size,u.val.cell? ⟨w3.heap.size,3,none⟩=some (.int .i64 n'):=fun u=>(aC (u.p2.trans h4a)).1 3;refine bN (fun w'=>∃u:wW w4 w1.heap.size w3.heap.size,w'=u.val) (fun j=>decide (j<3)) 4 _ (by kernel_rfl) rfl rfl ?_;refine bL 2 [0,1] rfl _ rfl (by kernel_rfl) (fun d _ _ _ _ h=>by cases d<;>exact h) ⟨⟨w4.drew,rfl,rfl⟩,rfl⟩ ?_;simp only[zK,zM,zI,zJ];repeat(go_big_quiet_step (fail))
  refine wpQuiet_nil ?_;clear s0 s1 s2 s3 a0 a1 a2 a3;have b2:lH w4 (w.heap.size+2) 43:=⟨_,h42⟩;have hO5:=hS4.own;obtain⟨p0,p1,p2,p3⟩:=dL h42 rfl rfl rfl rfl;obtain⟨pz0,pz1,pz2,pz3⟩:=iY h42;refine aZ 2 _ _ (by kernel_rfl) (by kernel_rfl) rfl rfl ?_;intro K hK;simp only[zI,zJ];go_wp2_with fail;obtain⟨w6,hw6⟩:∃w6,w6=((((w4.setCell ⟨w.heap.size+2,0,none⟩ (.int .i64 r.t)).setCell ⟨w.heap.size+2,1,none⟩ (.slice x5 r.ps.length c5)).setCell ⟨w.heap.size+2,2,none⟩ (.slice X5 r.vs.length C5)).setCell ⟨w.heap.size+2,3,none⟩ (.slice Y5 r.ls.length D5)).drew:=⟨_,rfl⟩;rw[<-hw6];have hoth:∀k,k≠w.heap.size+2->w6.heap[k]?=w4.heap[k]?:=fun k hk=>by rw[hw6];exact(zB hk).trans ((zB hk).trans ((zB hk).trans (zB hk)))
  have h62:w6.heap[w.heap.size+2]?=some (iI r.t (.slice x5 r.ps.length c5) (.slice X5 r.vs.length C5) (.slice Y5 r.ls.length D5)):=by rw[hw6];exact zC (zC (zC (zC h42)))
  have hB6:Below w.heap.size w w6:=by rw[hw6];exact(((((hBw4).setCell (p:=⟨w.heap.size+2,0,none⟩) (zA) _).setCell (p:=⟨w.heap.size+2,1,none⟩) (zA) _).setCell (p:=⟨w.heap.size+2,2,none⟩) (zA) _).setCell (p:=⟨w.heap.size+2,3,none⟩) (zA) _).drew
  have hO7:SO w6 w.heap.size r.ps r.vs r.ls (.slice x5 r.ps.length c5) (.slice X5 r.vs.length C5) (.slice Y5 r.ls.length D5):=by rw[hw6];exact(((((hO5).put b2 (by decide)).put b2.put (by decide)).put b2.put.put (by decide)).put b2.put.put.put (by decide)).later (zD).drew
  have h63:=(hoth _ (by omega)).trans h43;have h3w:w3.heap.size≠w.heap.size+2:=by omega
  refine aD (hK.out _ _ ⟨⟨w6,hoth _ (by omega),hoth _ h3w⟩,rfl⟩ ?_);clear hK K hw6 p0 p1 p2 p3 pz0 pz1 pz2 pz3 hoth h42 h43 hO5 b2;refine bB [3] rfl (by kernel_rfl) ?_;simp only[zK,zM,zI,zJ];have b3:lH w6 (w.heap.size+3) 28:=⟨_,h63⟩;obtain⟨p0,p1,p2,p3⟩:=dL h62 rfl rfl rfl rfl;obtain⟨pz0,pz1,pz2,pz3⟩:=iY h62;obtain⟨q0,q1,q2,q3⟩:=dL h63 rfl rfl rfl rfl;obtain⟨qz0,qz1,qz2,qz3⟩:=iY h63;go_wp2;refine bodyPost_ret (v:= .tuple #[AV r.t (.slice x5 r.ps.length c5) (.slice X5 r.vs.length C5) (.slice Y5 r.ls.length D5),L8 0 a l n']) (by simp[results,Tryz.results16,go_sem,p0,p1,p2,p3,q0,q1,q2,q3]) rfl ?_;exact⟨0,a,l,n',r,_,_,_,rfl,((((hB6).setCell (p:=⟨w.heap.size+3,0,none⟩) (zA) _).setCell (p:=⟨w.heap.size+3,1,none⟩) (zA) _).setCell (p:=⟨w.heap.size+3,2,none⟩) (zA) _).setCell (p:=⟨w.heap.size+3,3,none⟩) (zA) _,((((hO7).put b3 (by decide)).put b3.put (by decide)).put b3.put.put (by decide)).put b3.put.put.put (by decide),⟨t,qs,us,ls⟩,hsq'.out, .inr ⟨rfl,hE'.out,hR'.out⟩⟩
 ·have hne:(E !=0)=true:=by simpa using h0
  have h0':Hid (E≠0):=h0;clear hR h0;go_upto_region 4 with fail
  clear e0 hne;have s0:∀u:wW w4 w.heap.size w3.heap.size,u.val.cell? ⟨w.heap.size,0,none⟩=some (.int .i64 t):=fun u=>(aC (u.p1.trans h40)).1 0;have s1:∀u:wW w4 w.heap.size w3.heap.size,u.val.cell? ⟨w.heap.size,1,none⟩=some (.slice x n c):=fun u=>(aC (u.p1.trans h40)).1 1;have s2:∀u:wW w4 w.heap.size w3.heap.size,u.val.cell? ⟨w.heap.size,2,none⟩=some (.slice X vn C):=fun u=>(aC (u.p1.trans h40)).1 2;have s3:∀u:wW w4 w.heap.size w3.heap.size,u.val.cell? ⟨w.heap.size,3,none⟩=some (.slice Y ln D):=fun u=>(aC (u.p1.trans h40)).1 3;have a0:∀u:wW w4 w.heap.size w3.heap.size,u.val.cell? ⟨w3.heap.size,0,none⟩=some (.int .i64 E):=fun u=>(aC (u.p2.trans h4a)).1 0;have hl3:w3.heap.size<w4.heap.size:=(zG h4a);have hl0:w.heap.size<w4.heap.size:=(zG h40);refine bN (fun w'=>∃u:wW w4 w.heap.size w3.heap.size,w'=u.val) (fun j=>decide (j<6)) 7 _ (by kernel_rfl) rfl rfl ?_;refine bL 3 [0,2,3,4] rfl _ rfl (by kernel_rfl) (fun d _ _ _ _ h=>by cases d<;>exact h) ⟨⟨w4.drew,rfl,rfl⟩,rfl⟩ ?_;simp only[zK,zM,zI,zJ];repeat(go_big_quiet_step (fail))
  refine wpQuiet_nil ?_;clear s0 s1 s2 s3 a0;refine aZ 1 _ _ (by kernel_rfl) (by kernel_rfl) rfl rfl ?_;intro K hK;simp only[zI,zJ];go_wp2_with fail;refine(DN t x n c ps X vn C vs Y ln D ls w4.drew ((hs.later hBw4).later (zD).drew) hB hN).mono ?_;rintro e w5 ⟨vB,vV,vK,qs2,us2,rfl,hb5,hO5,hsq2,hsu2⟩;have hB1:Below w4.heap.size w4 w5:=⟨hb5.os,hb5.tape,hb5.output,hb5.size,hb5.block⟩;obtain⟨x5,c5,X5,C5,Y5,D5,rfl,rfl,rfl⟩:=hO5.slices;go_wp2_with fail;refine aD (hK.out _ _ ⟨⟨w5,hB1.block _ hl0,hB1.block _ hl3⟩,rfl⟩ ?_);clear hK K;have h52:=aA hB1 h42;have h53:=aA hB1 h43;have hB5:Below w.heap.size w w5:=hBw4.trans (hB1.mono hBw4.size);have hO6:SO w5 w.heap.size qs2 us2 ls (.slice x5 qs2.length c5) (.slice X5 us2.length C5) (.slice Y5 ls.length D5):=hO5.low hBw4.size;have b2:lH w5 (w.heap.size+2) 43:=⟨_,h52⟩;have b3:lH w5 (w.heap.size+3) 28:=⟨_,h53⟩;have hsT:Hid (gH ⟨t,ps,vs,ls⟩ ⟨t,qs2,us2,ls⟩):=⟨rfl,hsq2,hsu2,rfl⟩;clear hb5 hO5 hsq2 hsu2;obtain⟨p0,p1,p2,p3⟩:=dL h52 rfl rfl rfl rfl;obtain⟨pz0,pz1,pz2,pz3⟩:=iY h52;refine aZ 5 _ _ (by kernel_rfl) (by kernel_rfl) rfl rfl ?_;intro K hK;simp only[zI,zJ];go_wp2_with fail;obtain⟨w6,hw6⟩:∃w6,w6=(((w5.setCell ⟨w.heap.size+2,0,none⟩ (.int .i64 t)).setCell ⟨w.heap.size+2,1,none⟩ (.slice x5 qs2.length c5)).setCell ⟨w.heap.size+2,2,none⟩ (.slice X5 us2.length C5)).setCell ⟨w.heap.size+2,3,none⟩ (.slice Y5 ls.length D5):=⟨_,rfl⟩;rw[<-hw6];have hoth:∀k,k≠w.heap.size+2->w6.heap[k]?=w5.heap[k]?:=fun k hk=>by rw[hw6];exact(zB hk).trans ((zB hk).trans ((zB hk).trans (zB hk)))
  have h62:w6.heap[w.heap.size+2]?=some (iI t (.slice x5 qs2.length c5) (.slice X5 us2.length C5) (.slice Y5 ls.length D5)):=by rw[hw6];exact zC (zC (zC (zC h52)))
  have hB6:Below w.heap.size w w6:=by rw[hw6];exact((((hB5).setCell (p:=⟨w.heap.size+2,0,none⟩) (zA) _).setCell (p:=⟨w.heap.size+2,1,none⟩) (zA) _).setCell (p:=⟨w.heap.size+2,2,none⟩) (zA) _).setCell (p:=⟨w.heap.size+2,3,none⟩) (zA) _
  have hO7:SO w6 w.heap.size qs2 us2 ls (.slice x5 qs2.length c5) (.slice X5 us2.length C5) (.slice Y5 ls.length D5):=by rw[hw6];exact((((hO6).put b2 (by decide)).put b2.put (by decide)).put b2.put.put (by decide)).put b2.put.put.put (by decide)
  have h63:=(hoth _ (by omega)).trans h53;have h3w:w3.heap.size≠w.heap.size+2:=by omega
  refine aD (hK.out _ _ ⟨⟨w6,(hoth _ (by omega)).trans (hB1.block _ hl0),(hoth _ h3w).trans (hB1.block _ hl3)⟩,rfl⟩ ?_);clear hK K hw6 p0 p1 p2 p3 pz0 pz1 pz2 pz3 hoth h52 h53 hO6 hB5 b2 b3;refine bB [6] rfl (by kernel_rfl) ?_;simp only[zK,zM,zI,zJ];have b3:lH w6 (w.heap.size+3) 28:=⟨_,h63⟩;obtain⟨p0,p1,p2,p3⟩:=dL h62 rfl rfl rfl rfl;obtain⟨pz0,pz1,pz2,pz3⟩:=iY h62;obtain⟨q0,q1,q2,q3⟩:=dL h63 rfl rfl rfl rfl;obtain⟨qz0,qz1,qz2,qz3⟩:=iY h63;go_wp2;refine bodyPost_ret (v:= .tuple #[AV t (.slice x5 qs2.length c5) (.slice X5 us2.length C5) (.slice Y5 ls.length D5),L8 E 0 0 0]) (by simp[results,Tryz.results16,go_sem,p0,p1,p2,p3,q0,q1,q2,q3]) rfl ?_;exact⟨E,0,0,0,⟨t,qs2,us2,ls⟩,_,_,_,rfl,((((hB6).setCell (p:=⟨w.heap.size+3,0,none⟩) (zA) _).setCell (p:=⟨w.heap.size+3,1,none⟩) (zA) _).setCell (p:=⟨w.heap.size+3,2,none⟩) (zA) _).setCell (p:=⟨w.heap.size+3,3,none⟩) (zA) _,((((hO7).put b3 (by decide)).put b3.put (by decide)).put b3.put.put (by decide)).put b3.put.put.put (by decide),⟨t,qs,us,ls⟩,hsq'.out, .inl ⟨h0'.out,⟨n',hE'.out⟩,rfl,rfl,rfl,hsT.out⟩⟩
structure pB(v:Vn):Prop where
 rl:v.rs.length=v.rn
 sl:aBh v.sn v.ss
theorem kE.full(h:kE w v):pB v:=⟨h.2.2.2.ranges.len,h.2.2.2.lens⟩
theorem SO.fullV{ls:List (Int×Int)}(h:SO w base ps vs ls vB vV vK):∀v∈vs,pB v:=fun v hv=>(h.net v hv).ok.full
theorem pB.same(h:pB v)(hs:nF v u):pB u:=by
 obtain⟨-,h2,h3,h4,h5⟩:=hs;refine⟨by rw[<-h3,<-h2];exact h.rl,?_⟩;have hl:=h.sl.subs;rw[<-h4];refine⟨by rw[<-h5.1];exact hl,fun i hi=>?_,fun i hi j hj=>?_⟩
 ·obtain⟨-, -, -,g4,g5⟩:=h5.2 i (by omega);rw[<-g5.1,<-g4];exact h.sl.fcs i hi
 ·obtain⟨-, -, -,g4,g5⟩:=h5.2 i (by omega);obtain⟨-,k2,k3⟩:=g5.2 j (by rw[h.sl.fcs i hi,g4];exact hj);rw[<-k3,<-k2];exact h.sl.ads i hi j (by rw[g4];exact hj)
theorem S8(vs:List Vn):nI (vs.map bA)=nI vs:=by
 unfold nI;rw[List.map_map];rfl
def I0(p q:Nat)(ss:List Sb):Prop:=∀s∈ss,s.fs.length<=p/\∀f∈s.fs,f.ns.length<=q
theorem FG:I0 p q (ss.map cH)↔I0 p q ss:=by
 unfold I0;simp only[List.forall_mem_map,cH,dV,List.length_map]
def S9(vs:List Vn):Prop:=∀v∈vs,v.rs.length<=64/\v.ss.length<=64/\I0 64 64 v.ss
theorem L9:S9 (vs.map bA)↔S9 vs:=by
 unfold S9;simp only[List.forall_mem_map,bA,List.length_map,FG]
theorem S9.same{us:List Vn}(h:S9 vs)(hs:bV vs us):S9 us:=L9.1 (hs.can▸L9.2 h)
theorem I0.same(h:I0 p q ss)(hs:bQ ss ts):I0 p q ts:=FG.1 (hs.can▸FG.2 h)
theorem I0.mono{p' q':Nat}(h:I0 p q ss)(hp:p<=p')(hq:q<=q'):I0 p' q' ss:=fun s hs=>⟨Nat.le_trans (h s hs).1 hp,fun f hf=>Nat.le_trans ((h s hs).2 f hf) hq⟩
structure Wl(s:dP):Prop where
 bk:aS s.t s.ps=0
 full:cG s.ps
 nv:s.vs.length<=64
 nl:s.ls.length<=64
 fw:S9 s.vs
 fullV:∀v∈s.vs,pB v
theorem Wl.few{s:dP}(h:Wl s):KZ s.vs.length s.vs s.ls.length:=by
 refine⟨h.nv,h.nl,fun i hi=>?_⟩;have hm:=eA hi;obtain⟨h1,h2,h3⟩:=h.fw _ hm;obtain⟨g1,g2⟩:=h.fullV _ hm;refine⟨by omega,by rw[<-g2.subs];exact h2,fun k hk=>?_,fun k hk j hj=>?_⟩
 ·have:=(h3 _ (tG (by rw[g2.subs];exact hk))).1;rw[g2.fcs k hk]at this;exact this
 ·have:=(h3 _ (tG (by rw[g2.subs];exact hk))).2 _ (tI (i:=j) (by rw[g2.fcs k hk];exact hj));rw[g2.ads k hk j hj]at this;exact this
theorem Wl.same{s q:dP}(h:Wl s)(hq:gH s q):Wl q:=by
 obtain⟨qt,qps,qvs,qls⟩:=q;obtain⟨h1,h2,h3,h4⟩:=hq;simp only at h1 h2 h3 h4;subst h1;subst h4;obtain⟨g1,g2⟩:=jW h.full h2 h.bk;refine⟨g1,g2,h3.1▸h.nv,h.nl,h.fw.same h3,fun v hv=>?_⟩;obtain⟨i,hi,rfl⟩:=dH hv;have hi':i<s.vs.length:=by rw[h3.1];exact hi
 exact(h.fullV _ (eA hi')).same (h3.2 i hi')
theorem AY{rs:List Po}{id ow:Int}(hF:cG ps)(hE:cE t ps id z ow=0)(hT:kJ ps id z ow a l rs):aS t rs=0/\cG rs:=by
 have hnn:¬aO ps id<0:=fun h=>by
  unfold cE at hE;split at hE
  ·rename_i g;exact g hE
  ·exact absurd hE (by decide)
 obtain⟨i,hi,hat,hid⟩:=aX hnn;obtain⟨hal,qs,x',c',ls',hs,hp,rfl⟩:=hT;rw[hat,Int.toNat_natCast]at hal hp⊢;obtain⟨g1,g2, -, -⟩:=JR (x':=x') (c':=c') hF hE hat hi hal hs hp;exact⟨g1,g2⟩
theorem TA(hf:pB v)(h:bD v.id v.rn v.rs v.sn v.ss=0):v.rs.length<=4/\v.ss.length<=6/\I0 8 4 v.ss:=by
 obtain⟨f1,f2,f3,f4⟩:=dU h;obtain⟨g1,g2⟩:=hf;refine⟨by omega,by rw[g2.subs];exact f2,fun s hs=>?_⟩;obtain⟨i,hi,rfl⟩:∃i,i<v.ss.length/\sbAt v.ss i=s:=by
  obtain⟨i,hi,rfl⟩:=List.getElem_of_mem hs;exact⟨i,hi,by simp[sbAt,List.getD_eq_getElem?_getD,hi]⟩
 rw[g2.subs]at hi;rw[g2.fcs i hi];refine⟨f3 i hi,fun f hff=>?_⟩;obtain⟨j,hj,rfl⟩:∃j,j<(sbAt v.ss i).fs.length/\fcAt (sbAt v.ss i).fs j=f:=by
  obtain⟨j,hj,rfl⟩:=List.getElem_of_mem hff;exact⟨j,hj,by simp[fcAt,List.getD_eq_getElem?_getD,hj]⟩
 rw[g2.fcs i hi]at hj;rw[g2.ads i hi j hj];exact f4 i hi j hj
theorem I0.at_(h:I0 p q ss)(i:Nat):(sbAt ss i).fs.length<=p/\∀f∈(sbAt ss i).fs,f.ns.length<=q:=by
 by_cases hi:i<ss.length
 ·exact h _ (tG hi)
 ·have:sbAt ss i=sbAt [] 0:=by simp[sbAt,List.getD_eq_getElem?_getD,Nat.le_of_not_lt hi]
  rw[this];exact⟨Nat.zero_le _,fun f hf=>by cases hf⟩
theorem AZ{α:Type}{l:List α}{i:Nat}{x e:α}(h:x∈l.take i++[e]++l.drop i):x∈l\/x=e:=by
 rw[List.mem_append,List.mem_append,List.mem_singleton]at h;rcases h with (h|h)|h
 ·exact .inl (List.mem_of_mem_take h)
 ·exact .inr h
 ·exact .inl (List.mem_of_mem_drop h)
theorem MA{α:Type}{l:List α}{i:Nat}{x:α}(h:x∈l.take i++l.drop (i+1)):x∈l:=by
 rw[List.mem_append]at h;rcases h with h|h
 ·exact List.mem_of_mem_take h
 ·exact List.mem_of_mem_drop h
theorem tO{α:Type}(l:List α)(i:Nat)(e:α):(l.take i++[e]++l.drop i).length<=l.length+1:=by
 simp only[List.length_append,List.length_take,List.length_drop,List.length_singleton];omega
theorem yB{α:Type}(l:List α)(i:Nat):(l.take i++l.drop (i+1)).length<=l.length:=by
 simp only[List.length_append,List.length_take,List.length_drop];omega
theorem V5(h:tY v cd 0 n):bD v.id v.rn v.rs v.sn v.ss=0:=by
 by_cases hc:bD v.id v.rn v.rs v.sn v.ss=0
 ·exact hc
 have hp:tH v.id v.rn v.rs v.sn v.ss cd.B cd.C=bD v.id v.rn v.rs v.sn v.ss:=if_pos hc;unfold tY at h;split at h
 ·exact(h.1.trans (if_pos hc)).symm
 split at h
 ·exact(h.1.trans (if_pos hc)).symm
 split at h
 ·unfold kC at h;rw[if_pos hc]at h;exact h.1.symm
 split at h
 ·exact((h.1 (by rw[hp];exact hc)).1.trans hp).symm
 ·exact(h.1.trans hp).symm
theorem ZF(hf:pB v)(hc:bD v.id v.rn v.rs v.sn v.ss=0)(h:UT v cd y u):u.rs.length<=64/\u.ss.length<=64/\I0 64 64 u.ss:=by
 obtain⟨f1,f2,f3⟩:=TA hf hc;obtain⟨-,h2, -,h, -⟩:=h;refine⟨by rw[h2];omega,?_⟩;unfold L7 at h;have go:∀{ts:List Sb} {i:Nat} {x:Option Addr} {n c:Nat} {gs:List Fc},bQ v.ss ts->gs.length<=64->(∀f∈gs,f.ns.length<=64)->(ts.set i (cX (sbAt ts i) x n c gs)).length<=64/\I0 64 64 (ts.set i (cX (sbAt ts i) x n c gs)):=fun hs h1 h2=>by
  refine⟨by rw[List.length_set,<-hs.1];omega,fun s hm=>?_⟩;rcases List.mem_or_eq_of_mem_set hm with hm|rfl
  ·exact(f3.same hs).mono (by omega) (by omega) s hm
  ·exact⟨h1,h2⟩
 split at h
 ·obtain⟨ts,hs,i, -, -, -,e⟩:=h;rw[e];refine⟨by have:=tO ts i ⟨cd.B,cd.a,cd.l,none,0,0,[]⟩;rw[<-hs.1]at this;omega,fun s hm=>?_⟩;rcases AZ hm with hm|rfl
  ·exact(f3.same hs).mono (by omega) (by omega) s hm
  ·exact⟨Nat.zero_le _,fun f hff=>by cases hff⟩
 split at h
 ·obtain⟨ts,i,hs, -, -, -,e⟩:=h;rw[e];exact⟨by have:=yB ts i;rw[<-hs.1]at this;omega,fun s hm=>(f3.same hs).mono (by omega) (by omega) s (MA hm)⟩
 split at h
 ·obtain⟨ts,i,x,n,c,fx,gs, -, -,hs,⟨j, -, -, -,hg⟩, -,e⟩:=h;obtain⟨k1,k2⟩:=(f3.same hs).at_ i;rw[e];refine go hs (by rw[hg];have:=tO (sbAt ts i).fs j ⟨cd.C,fx,1,1,[y]⟩;omega) fun f hff=>?_;rw[hg]at hff;rcases AZ hff with hff|rfl
  ·exact Nat.le_trans (k2 f hff) (by omega)
  ·show 1<=64;decide
 split at h
 ·obtain⟨ts,i,j,x,c,ns, -, -,hs,⟨k, -, -, -,hn⟩,e⟩:=h;obtain⟨k1,k2⟩:=(f3.same hs).at_ i;rw[e];refine go hs (by rw[List.length_set];omega) fun f hff=>?_;rcases List.mem_or_eq_of_mem_set hff with hff|rfl
  ·exact Nat.le_trans (k2 f hff) (by omega)
  ·show ns.length<=64;have:=tO (fcAt (sbAt ts i).fs j).ns k y;rw[<-hn]at this;by_cases hj:j<(sbAt ts i).fs.length
   ·have:=k2 _ (tI hj);omega
   ·have e0:fcAt (sbAt ts i).fs j=fcAt [] 0:=by simp[fcAt,List.getD_eq_getElem?_getD,Nat.le_of_not_lt hj]
    rw[e0]at this;have:(fcAt [] 0).ns.length=0:=rfl;omega
 ·obtain⟨ts,i,j,x,n,c, -,hs, -,e⟩:=h;obtain⟨k1,k2⟩:=(f3.same hs).at_ i;rw[e];exact go hs (by have:=yB (sbAt ts i).fs j;omega) fun f hff=>Nat.le_trans (k2 f (MA hff)) (by omega)
theorem S9.set(h:S9 vs)(hu:u.rs.length<=64/\u.ss.length<=64/\I0 64 64 u.ss):S9 (vs.set k u):=fun v hv=>by
 rcases List.mem_or_eq_of_mem_set hv with hv|rfl
 ·exact h v hv
 ·exact hu
theorem ZG{s r:dP}(h:Wl s)(hE:jA s cd 0 n)(hR:mD s cd a l n r)(hf:∀v∈r.vs,pB v):Wl r:=by
 obtain⟨rt',rps,rvs,rls⟩:=r;unfold jA at hE;unfold mD at hR;have book:∀{t':Int} {ps':List Po},aS t' ps'=0/\cG ps'->Wl ⟨t',ps',s.vs,s.ls⟩:=fun hc=>⟨hc.1,hc.2,h.nv,h.nl,h.fw,h.fullV⟩;by_cases o1:cd.op=1
 ·rw[if_pos o1]at hE hR;obtain⟨-, -, -,e1,e2,e3,qs,hs,hp⟩:=hR;simp only at e1 e2 e3 hp;subst e1;subst e2;subst e3;exact book (JV h.full hE.symm hs hp)
 rw[if_neg o1]at hE hR;by_cases o2:cd.op=2
 ·rw[if_pos o2]at hE hR;obtain⟨-,e1,e2,e3,hal,hN⟩:=hR;simp only at e1 e2 e3 hN;subst e1;subst e2;subst e3;exact book (JW h.full hE.symm hal hN)
 rw[if_neg o2]at hE hR;by_cases o3:cd.op=3
 ·rw[if_pos o3]at hE hR;obtain⟨-, -, -,e2,e3,hC⟩:=hR;simp only at e2 e3 hC;subst e2;subst e3;obtain⟨e1,g1,g2⟩:=HG h.full hE.symm hC;subst e1;exact book ⟨g1,g2⟩
 rw[if_neg o3]at hE hR;by_cases o4:cd.op=4
 ·rw[if_pos o4]at hE hR;obtain⟨-, -, -,e2,e3,e1,qs,hs,hp⟩:=hR;simp only at e1 e2 e3 hp;subst e1;subst e2;subst e3;have h1:=hE.symm;unfold qJ at h1;rw[if_neg (by rw[h.bk];decide)]at h1;split at h1
  ·exact absurd h1 (by decide)
  rename_i g;obtain⟨k1, -,k3, -⟩:=JQ h.bk h.full (by omega) (by omega) hs hp;exact book ⟨k1,k3⟩
 rw[if_neg o4]at hE hR;by_cases o5:cd.op=5
 ·rw[if_pos o5]at hE hR;obtain⟨-,e1,e2,e3,hT⟩:=hR;simp only at e1 e2 e3 hT;subst e1;subst e2;subst e3;have h1:=hE.symm;unfold XO at h1;split at h1
  ·exact absurd h1 (by decide)
  exact book (AY h.full h1 hT)
 rw[if_neg o5]at hE hR;by_cases o6:cd.op=6
 ·rw[if_pos o6]at hE hR;obtain⟨-, -, -,e2,e3,hG⟩:=hR;simp only at e2 e3 hG;subst e2;subst e3;have h1:=hE.symm;unfold VZ at h1;split at h1
  ·exact absurd h1 (by decide)
  obtain⟨e1,k1,k2⟩:=zR h.full h1 hG;subst e1;exact book ⟨k1,k2⟩
 rw[if_neg o6]at hE hR;by_cases o7:cd.op=7
 ·rw[if_pos o7]at hE hR;obtain⟨-, -, -,e1,e2,hP,e3⟩:=hR;simp only at e1 e2 hP e3;subst e1;subst e2;subst e3;have h1:=hE.symm;unfold VY at h1;split at h1
  ·exact absurd h1 (by decide)
  have hc:cW s.vs.length s.vs s.ls.length s.ls=0:=by
   unfold iS at h1;split at h1
   ·assumption
   ·exact h1
  have h6:=(mO hc).1;obtain⟨us0,i,hs, -, -, -,rfl⟩:=hP;refine⟨h.bk,h.full,?_,h.nl,fun v hv=>?_,hf⟩
  ·have:=tO us0 i (newV cd.A);rw[<-hs.1]at this;show(us0.take i++[newV cd.A]++us0.drop i).length<=64;omega
  ·rcases AZ hv with hv|rfl
   ·exact h.fw.same hs v hv
   ·exact⟨Nat.zero_le _,Nat.zero_le _,fun s hs=>by cases hs⟩
 rw[if_neg o7]at hE hR;by_cases o8:cd.op=8
 ·rw[if_pos o8]at hE hR;obtain⟨-,e1,hT,hG,e3⟩:=hR;simp only at e1 hT hG e3;subst e1;subst e3;have h1:=hE.symm;unfold P0 at h1;split at h1
  ·exact absurd h1 (by decide)
  rename_i g;split at h1
  ·rename_i ht;obtain⟨k1,k2⟩:=AY h.full ht hT;obtain⟨i,hi,hid,hpl⟩:∃i:Nat,i<s.vs.length/\(aE s.vs i).id=cd.A/\aJ s.vs.length s.vs cd.A=i:=by
    rcases vplace_cases s.vs.length s.vs cd.A with k|k
    ·exact k
    ·rw[k]at g;exact absurd (by decide) g
   rw[hpl,Int.toNat_natCast]at hG;unfold iO at h1;split at h1
   ·rename_i hc;obtain⟨f1,f2,f3⟩:=TA (h.fullV _ (eA hi)) ((vL hc).2.2.2 i hi);refine⟨k1,k2,?_,h.nl,S9.same (h.fw.set ⟨?_,?_,?_⟩) hG,hf⟩
    ·have:=hG.1;unfold eE at this;rw[List.length_set]at this;show rvs.length<=64;rw[<-this];exact h.nv
    ·show(qP _ _).length<=64;rw[DJ];omega
    ·show(aE s.vs i).ss.length<=64;omega
    ·exact f3.mono (by omega) (by omega)
   ·exact absurd h1 (by assumption)
  ·exact absurd h1 (by assumption)
 rw[if_neg o8]at hE hR;by_cases o9:cd.op=9
 ·rw[if_pos o9]at hE hR;obtain⟨-, -, -,e3,k,i,u,hk,hpl,hd,hr,e, -,h2, -,h4, -,hG⟩:=hR;simp only at e3 e hG;subst e3;subst e;have hdr:iQ s.t s.ps (aQ (aE s.vs k).rs i).p (aQ (aE s.vs k).rs i).a (aQ (aE s.vs k).rs i).l=0:=by
   rcases hE with ⟨g, -⟩|⟨k',hk',hpl',⟨g1,g2⟩|⟨-,i',hr',g2⟩⟩
   ·omega
   ·exact absurd g2.symm g1
   ·obtain rfl:k=k':=by omega
    obtain rfl:i=i':=by
     rcases Nat.lt_trichotomy i i' with e|e|e
     ·exact absurd hr.yes (by rw[hr'.no i e];decide)
     ·exact e
     ·exact absurd hr'.yes (by rw[hr.no i' e];decide)
    exact g2.symm
  obtain⟨e1,k1,k2⟩:=zR h.full hdr hG;subst e1;obtain⟨f1,f2,f3⟩:=h.fw _ (eA hk);refine⟨k1,k2,?_,h.nl,h.fw.set ⟨?_,?_,f3.same h4⟩,hf⟩
  ·show(s.vs.set k u).length<=64;rw[List.length_set];exact h.nv
  ·rw[h2];exact Nat.le_trans (yB _ _) f1
  ·rw[<-h4.1];exact f2
 rw[if_neg o9]at hE hR;by_cases o15:cd.op=15
 ·rw[if_pos o15]at hE hR;obtain⟨-, -, -,e1,e2,hs,e3⟩:=hR;simp only at e1 e2 hs e3;subst e1;subst e2;subst e3;have hc:cW s.vs.length s.vs s.ls.length s.ls=0:=by
   have h1:=hE.symm;unfold oV at h1;split at h1
   ·assumption
   ·exact h1
  refine⟨h.bk,h.full,hs.1▸h.nv,?_,h.fw.same hs,hf⟩;have:=tO s.ls (wT (min cd.A cd.B,max cd.A cd.B) s.ls) (min cd.A cd.B,max cd.A cd.B);have:=(mO hc).2.1;show(iE _ _).length<=64;unfold iE;omega
 rw[if_neg o15]at hE hR;by_cases o16:cd.op=16
 ·rw[if_pos o16]at hE hR;obtain⟨-, -, -,e1,e2,hs,i, -, -,e3⟩:=hR;simp only at e1 e2 hs e3;subst e1;subst e2;subst e3;exact⟨h.bk,h.full,hs.1▸h.nv,Nat.le_trans (yB _ _) h.nl,h.fw.same hs,hf⟩
 rw[if_neg o16]at hE hR;split at hE
 ·obtain⟨-, -,e1,e2,e3,k,u,hk,hpl,hV,e⟩:=hR;simp only at e1 e2 e3 e;subst e1;subst e2;subst e3;subst e;rcases hE with ⟨-,g, -⟩|⟨k',hk',hpl',hA⟩
  ·cases g
  ·obtain rfl:k=k':=by omega
   refine⟨h.bk,h.full,?_,h.nl,h.fw.set (ZF (h.fullV _ (eA hk)) (V5 hA) hV),hf⟩;show(s.vs.set k u).length<=64;rw[List.length_set];exact h.nv
 ·cases hE
theorem tZ.wl{s r:dP}(h:Wl s)(hR:tZ s cd E a l n r)(hf:∀v∈r.vs,pB v):Wl r:=by
 obtain⟨q,hq,⟨-, -, -, -, -,hr⟩|⟨-,hE,hr⟩⟩:=hR
 ·exact h.same hr
 ·exact ZG (h.same hq) hE hr hf
def cdAt(cs:List Cd)(i:Nat):Cd:=cs.getD i ⟨0,0,0,0,0,0,0,0,0,0⟩
structure K0(w:World)(x:Option Addr)(n:Nat)(cs:List Cd):Prop where
 len:cs.length=n
 wf:∀i,i<n->tX (cdAt cs i).A (cdAt cs i).a (cdAt cs i).l
 cells:∀i,i<n->∃b o,x=some ⟨b,o,none⟩/\w.cell? ⟨b,o+i*10,none⟩=some (.int .i64 (cdAt cs i).op)/\w.cell? ⟨b,o+i*10+1,none⟩=some (.int .i64 (cdAt cs i).A)/\w.cell? ⟨b,o+i*10+2,none⟩=some (.int .i64 (cdAt cs i).B)/\w.cell? ⟨b,o+i*10+3,none⟩=some (.int .i64 (cdAt cs i).C)/\w.cell? ⟨b,o+i*10+4,none⟩=some (.int .i64 (cdAt cs i).a)/\w.cell? ⟨b,o+i*10+5,none⟩=some (.int .i64 (cdAt cs i).l)/\w.cell? ⟨b,o+i*10+6,none⟩=some (.int .i64 (cdAt cs i).mn)/\w.cell? ⟨b,o+i*10+7,none⟩=some (.int .i64 (cdAt cs i).mx)/\w.cell? ⟨b,o+i*10+8,none⟩=some (.int .i64 (cdAt cs i).us)/\w.cell? ⟨b,o+i*10+9,none⟩=some (.int .i64 (cdAt cs i).co)
theorem K0.later{x:Option Addr}{n:Nat}(h:K0 w x n cs)(hb:Below w.heap.size w w'):K0 w' x n cs where
 len:=h.len
 wf:=h.wf
 cells:=fun i hi=>by
  obtain⟨b,o,hx,c0,c1,c2,c3,c4,c5,c6,c7,c8,c9⟩:=h.cells i hi;exact⟨b,o,hx,cell_later hb c0,cell_later hb c1,cell_later hb c2,cell_later hb c3,cell_later hb c4,cell_later hb c5,cell_later hb c6,cell_later hb c7,cell_later hb c8,cell_later hb c9⟩
def anC(x:Int×Int×Int×Int):Nat->Int
 |0=>x.1
 |1=>x.2.1
 |2=>x.2.2.1
 |_=>x.2.2.2
def anF(g:Nat->Int×Int×Int×Int)(k c:Nat):Value:= .int .i64 (if c<k*4 then anC (g (c/4)) (c%4)else 0)
structure Rgt(R:Nat->dP->Prop)(cs:List Cd):Prop where
 zero:R 0 ⟨0,[],[],[]⟩
 ok:∀j s,R j s->aS s.t s.ps=0/\KZ s.vs.length s.vs s.ls.length
 step:∀j s r E a l n,j<cs.length->R j s->tZ s (cdAt cs j) E a l n r->(∀v∈r.vs,pB v)->R (j+1) r
structure tP(R:Nat->dP->Prop)(cs:List Cd)(f:Nat->dP)(g:Nat->Int×Int×Int×Int)(k:Nat):Prop where
 first:f 0=⟨0,[],[],[]⟩
 right:∀j,j<=k->R j (f j)
 steps:∀j,j<k->tZ (f j) (cdAt cs j) (g j).1 (g j).2.1 (g j).2.2.1 (g j).2.2.2 (f (j+1))
theorem tP.snoc{R:Nat->dP->Prop}{f:Nat->dP}{g:Nat->Int×Int×Int×Int}{r:dP}(h:tP R cs f g k)(hr:R (k+1) r)(hN:tZ (f k) (cdAt cs k) x.1 x.2.1 x.2.2.1 x.2.2.2 r):
  tP R cs (fun j=>if j<=k then f j else r) (fun j=>if j<k then g j else x) (k+1):=by
 refine⟨by simp only[Nat.zero_le,if_true];exact h.first,fun j hj=>?_,fun j hj=>?_⟩
 ·split
  ·exact h.right j (by omega)
  ·obtain rfl:j=k+1:=by omega
   exact hr
 ·by_cases e:j<k
  ·rw[if_pos e,if_pos (by omega),if_pos (by omega)];exact h.steps j e
  ·obtain rfl:j=k:=by omega
   rw[if_neg e,if_pos (zE),if_neg (by omega)];exact hN
structure ZH(R:Nat->dP->Prop)(w:World)(n:Nat)(cs:List Cd)(k:Nat)(f:Nat->dP)(g:Nat->Int×Int×Int×Int)(vB vV vK:Value)(wr:World):Prop where
 below:Below w.heap.size w wr
 res:wr.heap[w.heap.size]?=some (iI 0 (.slice none 0 0) (.slice none 0 0) (.slice none 0 0))
 site:kN wr w.heap.size (w.heap.size+1) (f k).t (f k).ps (f k).vs (f k).ls vB vV vK
 row:wr.rowIs (w.heap.size+1+1) 28 (n*4) (anF g k)
 plays:tP R cs f g k
theorem ZH.later{R:Nat->dP->Prop}{n:Nat}{f:Nat->dP}{g:Nat->Int×Int×Int×Int}(h:ZH R w n cs k f g vB vV vK wr)(hb:Below wr.heap.size wr w'):ZH R w n cs k f g vB vV vK w':=
 ⟨h.below.trans (hb.mono h.below.size),aA hb h.res,h.site.later hb,h.row.of_block (hb.block _ h.row.lt),h.plays⟩
def ZI(R:Nat->dP->Prop)(n:Nat)(cs:List Cd)(w:World)(e:Ending)(w':World):Prop:=
 (200<n->e= .returned (.tuple #[AV 0 (.slice none 0 0) (.slice none 0 0) (.slice none 0 0), .slice none 0 0, .int .i64 2])/\Below w.heap.size w w')/\
 (n<=200->∃f g vB vV vK ba,e= .returned (.tuple #[AV (f n).t vB vV vK, .slice (some ⟨ba,0,none⟩) n n, .int .i64 0])/\Below w.heap.size w w'/\SO w' w.heap.size (f n).ps (f n).vs (f n).ls vB vV vK/\w'.rowIs ba 28 (n*4) (anF g n)/\tP R cs f g n)
theorem V6:(Tryz.prog.info? 28).map (fun i=>(i.zero,i.size,i.bytes))=some (some (.agg #[.int .i64 0, .int .i64 0, .int .i64 0, .int .i64 0]),4,32):=by kernel_rfl
theorem TE:Tryz.prog.underlying 46=some (.slice 28):=by kernel_rfl
theorem V7(n:Nat)(h:n<=200)(w:World):(Instr.makeSlice 46 (.int .i64 (n:Int)) (.int .i64 (n:Int))).run Tryz.prog w= .ok (.slice (some ⟨w.heap.size,0,none⟩) n n) (w.alloc (.cells (madeCells #[.int .i64 0, .int .i64 0, .int .i64 0, .int .i64 0] (n*4)) 28)):=by
 obtain⟨i,hi,hzz⟩:=Option.map_eq_some_iff.1 V6;simp only[Prod.mk.injEq]at hzz;obtain⟨hz,hs,hb⟩:=hzz;have hr:=run_makeSlice (P:=Tryz.prog) w _ _ i _ TE hi hz .i64 .i64 n n (by omega) (Int.le_refl _) (by rw[hs];omega) (by rw[hb];omega) (by omega);simp only[Int.toNat_natCast,hs]at hr;exact hr
theorem ZJ(w:World)(n:Nat):(w.alloc (.cells (madeCells #[.int .i64 0, .int .i64 0, .int .i64 0, .int .i64 0] (n*4)) 28)).rowIs w.heap.size 28 (n*4) (fun _=> .int .i64 0):=by
 refine⟨_,aB _ rfl,size_madeCells _ _,fun i hi=>?_⟩;have h4:i%4=0\/i%4=1\/i%4=2\/i%4=3:=by omega
 rcases h4 with h|h|h|h<;>simp[madeCells,hi,h]
theorem kN.all{us:List Vn}{ls:List (Int×Int)}(h:kN w base bs t ps vs ls vB vV vK)(g:SO w base qs us ms uB uV uK):
  kN ((((w.setCell ⟨bs,0,none⟩ (.int .i64 t')).setCell ⟨bs,1,none⟩ uB).setCell ⟨bs,2,none⟩ uV).setCell ⟨bs,3,none⟩ uK) base bs t' qs us ms uB uV uK:=
 have hb:lH w bs 43:=⟨_,h.box⟩
 ⟨zC (zC (zC (zC h.box))),h.low,(((g.put hb (by decide)).put hb.put (by decide)).put hb.put.put (by decide)).put hb.put.put.put (by decide)⟩
theorem MB(w:World)(base:Nat):SO w base [] [] [] (.slice none 0 0) (.slice none 0 0) (.slice none 0 0):=
 ⟨⟨World.ownsRow_nil _ _ _ _,fun i hi=>absurd hi (Nat.not_lt_zero _),fun i _ hi=>absurd hi (Nat.not_lt_zero _),fun i j hi=>absurd hi (Nat.not_lt_zero _)⟩,World.ownsRow_nil _ _ _ _,fun u hu=>absurd hu (by simp),World.ownsRow_nil _ _ _ _⟩
theorem TF{g:Nat->Int×Int×Int×Int}:(if c=k*4+3 then .int .i64 x.2.2.2 else if c=k*4+2 then .int .i64 x.2.2.1 else if c=k*4+1 then .int .i64 x.2.1 else if c=k*4 then .int .i64 x.1 else anF g k c)=anF (fun j=>if j<k then g j else x) (k+1) c:=by
 unfold anF;by_cases h1:c<k*4
 ·rw[if_neg (by omega),if_neg (by omega),if_neg (by omega),if_neg (by omega),if_pos h1,if_pos (by omega),show(fun j=>if j<k then g j else x) (c/4)=g (c/4)from if_pos (by omega)]
 ·by_cases h2:c<k*4+4
  ·have hd:c/4=k:=by omega
   rw[if_pos (show c<(k+1)*4 by omega),hd,show(fun j=>if j<k then g j else x) k=x from if_neg (Nat.lt_irrefl k)];by_cases e3:c=k*4+3
   ·rw[if_pos e3,show c%4=3 by omega];rfl
   rw[if_neg e3];by_cases e2:c=k*4+2
   ·rw[if_pos e2,show c%4=2 by omega];rfl
   rw[if_neg e2];by_cases e1:c=k*4+1
   ·rw[if_pos e1,show c%4=1 by omega];rfl
   rw[if_neg e1,if_pos (by omega),show c%4=0 by omega];rfl
  ·rw[if_neg (by omega),if_neg (by omega),if_neg (by omega),if_neg (by omega),if_neg h1,if_neg (by omega)]
theorem V8{R:Nat->dP->Prop}{n:Nat}{f:Nat->dP}{g:Nat->Int×Int×Int×Int}{r:dP}(h:ZH R w n cs k f g vB vV vK wr)(hO:SO wr w.heap.size r.ps r.vs r.ls uB uV uK)(hr:R (k+1) r)(hN:tZ (f k) (cdAt cs k) x.1 x.2.1 x.2.2.1 x.2.2.2 r):
  ZH R w n cs (k+1) (fun j=>if j<=k then f j else r) (fun j=>if j<k then g j else x) uB uV uK ((((((((wr.setCell ⟨w.heap.size+1,0,none⟩ (.int .i64 r.t)).setCell ⟨w.heap.size+1,1,none⟩ uB).setCell ⟨w.heap.size+1,2,none⟩ uV).setCell ⟨w.heap.size+1,3,none⟩ uK).setCell ⟨w.heap.size+1+1,k*4,none⟩ (.int .i64 x.1)).setCell ⟨w.heap.size+1+1,k*4+1,none⟩ (.int .i64 x.2.1)).setCell ⟨w.heap.size+1+1,k*4+2,none⟩ (.int .i64 x.2.2.1)).setCell ⟨w.heap.size+1+1,k*4+3,none⟩ (.int .i64 x.2.2.2)):=by
 have hS:=h.site.all (t':=r.t) hO;have h1:w.heap.size<=w.heap.size+1:=Nat.le_succ _;have h2:w.heap.size<=w.heap.size+1+1:=by omega
 have hne:w.heap.size+1+1≠w.heap.size+1:=by omega
 have ho:∀(V:World) (o:Nat) (v:Value),(V.setCell ⟨w.heap.size+1,o,none⟩ v).heap[w.heap.size]?=V.heap[w.heap.size]?:=fun V o v=>zB (by show w.heap.size≠w.heap.size+1;omega);have ho2:∀(V:World) (o:Nat) (v:Value),(V.setCell ⟨w.heap.size+1+1,o,none⟩ v).heap[w.heap.size]?=V.heap[w.heap.size]?:=fun V o v=>zB (by show w.heap.size≠w.heap.size+1+1;omega);have hrow:=((((((((h.row.setOther (a:=⟨w.heap.size+1,0,none⟩) hne (.int .i64 r.t)).setOther (a:=⟨w.heap.size+1,1,none⟩) hne uB).setOther (a:=⟨w.heap.size+1,2,none⟩) hne uV).setOther (a:=⟨w.heap.size+1,3,none⟩) hne uK).set (k*4) (.int .i64 x.1)).set (k*4+1) (.int .i64 x.2.1)).set (k*4+2) (.int .i64 x.2.2.1)).set (k*4+3) (.int .i64 x.2.2.2));have hbt:lH wr (w.heap.size+1+1) 28:=by
  obtain⟨c,hb, -⟩:=h.row;exact⟨c,hb⟩
 refine⟨(((((((h.below.setCell (p:=⟨w.heap.size+1,0,none⟩) h1 _).setCell (p:=⟨w.heap.size+1,1,none⟩) h1 _).setCell (p:=⟨w.heap.size+1,2,none⟩) h1 _).setCell (p:=⟨w.heap.size+1,3,none⟩) h1 _).setCell (p:=⟨w.heap.size+1+1,k*4,none⟩) h2 _).setCell (p:=⟨w.heap.size+1+1,k*4+1,none⟩) h2 _).setCell (p:=⟨w.heap.size+1+1,k*4+2,none⟩) h2 _).setCell (p:=⟨w.heap.size+1+1,k*4+3,none⟩) h2 _,?_,?_,hrow.congr fun i _=>TF,h.plays.snoc hr hN⟩
 ·rw[ho2,ho2,ho2,ho2,ho,ho,ho,ho];exact h.res
 ·rw[if_neg (show¬k+1<=k by omega)];exact(((hS.put hbt.put.put.put.put (by decide) hne.symm).put hbt.put.put.put.put.put (by decide) hne.symm).put hbt.put.put.put.put.put.put (by decide) hne.symm).put hbt.put.put.put.put.put.put.put (by decide) hne.symm
theorem A0{R:Nat->dP->Prop}(x:Option Addr)(n c:Nat)(cs:List Cd)(w:World)(hc:K0 w x n cs)(hn63:n<=9223372036854775807)(hR:Rgt R cs):
  Calls Tryz.prog 7 #[.slice x n c] w (ZI R n cs w):=by
 go_enter Tryz.func7,Tryz.ntmps7;by_cases h200:200<n
 ·have hg:decide ((n:Int)>200)=true:=by simp;omega
  go_wp2;refine bodyPost_ret (v:= .tuple #[AV 0 (.slice none 0 0) (.slice none 0 0) (.slice none 0 0), .slice none 0 0, .int .i64 2]) (by simp[results,Tryz.results7,go_sem]) rfl ?_;exact⟨fun _=>⟨rfl,bl1 w _⟩,fun h=>absurd h200 (by omega)⟩
 ·have hg:decide ((n:Int)>200)=false:=by simp;omega
  have hmk:=V7 n (by omega);go_upto_region 5 with fail
  obtain⟨w1,hw1⟩:∃w1,w1=((w.alloc (iI 0 (.slice none 0 0) (.slice none 0 0) (.slice none 0 0))).alloc (iI 0 (.slice none 0 0) (.slice none 0 0) (.slice none 0 0))).alloc (.cells (madeCells #[.int .i64 0, .int .i64 0, .int .i64 0, .int .i64 0] (n*4)) 28):=⟨_,rfl⟩;rw[<-hw1];have hP0:ZH R w n cs 0 (fun _=>⟨0,[],[],[]⟩) (fun _=>(0,0,0,0)) (.slice none 0 0) (.slice none 0 0) (.slice none 0 0) w1:=by
   have hr:=ZJ ((w.alloc (iI 0 (.slice none 0 0) (.slice none 0 0) (.slice none 0 0))).alloc (iI 0 (.slice none 0 0) (.slice none 0 0) (.slice none 0 0))) n;rw[<-hw1,show((w.alloc (iI 0 (.slice none 0 0) (.slice none 0 0) (.slice none 0 0))).alloc (iI 0 (.slice none 0 0) (.slice none 0 0) (.slice none 0 0))).heap.size=w.heap.size+1+1 by simp]at hr;refine⟨by rw[hw1];exact(bO w _ _).alloc (by simp;omega) _,by rw[hw1];exact aG _ (aG _ (aB _ rfl)),⟨by rw[hw1];exact aG _ (aB _ (by simp)),Nat.le_succ _,MB _ _⟩,hr.congr fun i _=>by simp[anF],⟨rfl,fun j hj=>(Nat.le_zero.1 hj)▸hR.zero,fun j hj=>absurd hj (Nat.not_lt_zero _)⟩⟩
  clear hw1 hmk hg;go_wp2;go_loopw [18] (fun i wr=>∃(k:Nat) (f:Nat->dP) (g:Nat->Int×Int×Int×Int) (vB vV vK:Value),k<=n/\i= .int .i64 k/\ZH R w n cs k f g vB vV vK wr) (fun i _=>n- (intOf i).toNat)
  case atStart=>exact⟨0,_,_,_,_,_,Nat.zero_le _,rfl,hP0⟩
  case round=>
   obtain⟨k,f,g,vB,vV,vK,hk,rfl,hP⟩:=hrel
   clear hP0
   obtain⟨x1,c1,X1,C1,Y1,D1,rfl,rfl,rfl⟩:=hP.site.own.slices
   by_cases hlt:k<n
   ·obtain⟨b,o,hx,d0,d1,d2,d3,d4,d5,d6,d7,d8,d9⟩:=(hc.later hP.below).cells k hlt;have hw3:=hc.wf k hlt;subst hx;have hlt':Hid (k<n):=hlt;have hi1:(k:Int)<n:=by omega
    have hi2:(0:Int)<=k:=by omega
    go_upto_region 8 with fail
    clear d0 d1 d2 d3 d4 d5 d6 d7 d8 d9;obtain⟨w2,hw2⟩:∃w2,w2=wr.alloc (rT (cdAt cs k)):=⟨_,rfl⟩;rw[<-hw2];have hb2:Below wr.heap.size wr w2:=by rw[hw2];exact bl1 wr _
    have hq2:w2.heap[wr.heap.size]?=some (rT (cdAt cs k)):=by rw[hw2];exact aB _ rfl
    clear hw2;have hP2:=hP.later hb2;clear hP hb2;have hRk:=hP2.plays.right k (zE);obtain⟨x',c',X',C',Y',D',e1,e2,e3,hbk,hvs,hvc,hv63,hps,hl63⟩:=hP2.site.see (hR.ok _ _ hRk).1;simp only[Value.slice.injEq]at e1 e2 e3;obtain⟨rfl, -,rfl⟩:=e1;obtain⟨rfl, -,rfl⟩:=e2;obtain⟨rfl, -,rfl⟩:=e3;obtain⟨k0,k1,k2,k3,k4,k5,k6,k7,k8,k9⟩:=uJ hq2 rfl rfl rfl rfl rfl rfl rfl rfl rfl rfl;obtain⟨s0,s1,s2,s3⟩:=dL hP2.site.box rfl rfl rfl rfl;have hnx:=IB (f k).t x1 (f k).ps.length c1 (f k).ps X1 (f k).vs.length C1 (f k).vs Y1 (f k).ls.length D1 (f k).ls (cdAt cs k) w2 ⟨hbk,hvs,hvc,hv63,hps,hl63⟩ (hR.ok _ _ hRk).1 (hR.ok _ _ hRk).2 hw3;go_wp2_with fail;refine hnx.mono ?_;rintro e w3 ⟨E,a,l,n',r,uB,uV,uK,rfl,hb3,hO3,hN⟩;obtain⟨x3,c3,X3,C3,Y3,D3,rfl,rfl,rfl⟩:=hO3.slices;clear hnx k0 k1 k2 k3 k4 k5 k6 k7 k8 k9 s0 s1 s2 s3 hbk hvs hvc hv63 hps hl63 hq2 hw3;have hP3:=hP2.later hb3;have hO4:SO w3 w.heap.size r.ps r.vs r.ls (.slice x3 r.ps.length c3) (.slice X3 r.vs.length C3) (.slice Y3 r.ls.length D3):=hO3.low hP2.below.size;have hrr:Hid (R (k+1) r):=hR.step k _ r E a l n' (by rw[hc.len];exact hlt'.out) hRk hN hO3.fullV;have hN':Hid (tZ (f k) (cdAt cs k) E a l n' r):=hN;have hlt2:=hlt'.out;clear hP2 hb3 hO3 hRk hN hlt';obtain⟨s0,s1,s2,s3⟩:=dL hP3.site.box rfl rfl rfl rfl;obtain⟨z0,z1,z2,z3⟩:=iY hP3.site.box;have m0:=hP3.row.cell (i:=k*4) (by omega);have m1:=hP3.row.cell (i:=k*4+1) (by omega);have m2:=hP3.row.cell (i:=k*4+2) (by omega);have m3:=hP3.row.cell (i:=k*4+3) (by omega);have y0:=hP3.row.frozen (k*4);have y1:=hP3.row.frozen (k*4+1);have y2:=hP3.row.frozen (k*4+2);have y3:=hP3.row.frozen (k*4+3);go_wp2;go_roundw
    case rel=>
     exact⟨k+1,_,_,_,_,_,hlt2,by go_num,V8 (x:=(E,a,l,n')) hP3 hO4 hrr.out hN'.out⟩
    case measure=>simp[intOf];omega
   ·obtain rfl:k=n:=by omega
    have hO:=hP.site.own;obtain⟨s0,s1,s2,s3⟩:=dL hP.site.box rfl rfl rfl rfl;obtain⟨p0,p1,p2,p3⟩:=dL hP.res rfl rfl rfl rfl;obtain⟨pz0,pz1,pz2,pz3⟩:=iY hP.res;have hbt:lH wr w.heap.size 43:=⟨_,hP.res⟩;have hne:w.heap.size+1+1≠w.heap.size:=by omega
    go_wp2;refine bodyPost_ret (v:= .tuple #[AV (f k).t (.slice x1 (f k).ps.length c1) (.slice X1 (f k).vs.length C1) (.slice Y1 (f k).ls.length D1), .slice (some ⟨w.heap.size+1+1,0,none⟩) k k, .int .i64 0]) (by simp[results,Tryz.results7,go_sem,p0,p1,p2,p3]) rfl ?_;exact⟨fun h=>absurd h h200,fun _=>⟨f,g,_,_,_,w.heap.size+1+1,rfl,((((hP.below).setCell (p:=⟨w.heap.size,0,none⟩) (zE) _).setCell (p:=⟨w.heap.size,1,none⟩) (zE) _).setCell (p:=⟨w.heap.size,2,none⟩) (zE) _).setCell (p:=⟨w.heap.size,3,none⟩) (zE) _,((((hO).put hbt (by decide)).put hbt.put (by decide)).put hbt.put.put (by decide)).put hbt.put.put.put (by decide),((((hP.row).setOther (a:=⟨w.heap.size,0,none⟩) hne _).setOther (a:=⟨w.heap.size,1,none⟩) hne _).setOther (a:=⟨w.heap.size,2,none⟩) hne _).setOther (a:=⟨w.heap.size,3,none⟩) hne _,hP.plays⟩⟩
abbrev K1(x:Option Addr)(c:Nat)(ls:List Le):Po:=⟨7,0,256,8,8,16,12,3,x,ls.length,c,ls⟩
structure yC(ls:List Le)(V:List Vn)(L:List (Int×Int))(s:dP):Prop where
 t0:s.t=0
 ps:∃x c,s.ps=[K1 x c ls]
 vs:s.vs.map bA=V
 lk:s.ls=L
theorem vN{p:Po}(h:cB [p] qs):∃q,qs=[q]/\nA p q:=by
 match qs,h with
 |[],h=>exact absurd h.1 (by simp)
 |[q],h=>exact⟨q,rfl,h.2 0 (by simp)⟩
 |_::_::_,h=>exact absurd h.1 (by simp)
theorem A3{x:Option Addr}{q:Po}(h:nA (K1 x c ls) q):q=K1 q.x q.c ls:=by
 obtain⟨id,up,a,l,mn,mx,us,co,x',n,c',ls'⟩:=q;obtain⟨h1,h2,h3,h4,h5,h6,h7,h8,h9,h10⟩:=h;simp only at h1 h2 h3 h4 h5 h6 h7 h8 h9 h10;subst h1 h2 h3 h4 h5 h6 h7 h8 h9 h10;rfl
theorem yC.same{s q:dP}(h:yC ls V L s)(hq:gH s q):yC ls V L q:=by
 obtain⟨h1,h2,h3,h4⟩:=hq;obtain⟨x,c,hp⟩:=h.ps;rw[hp]at h2;obtain⟨p,hp',hs⟩:=vN h2;refine⟨h1.trans h.t0,⟨p.x,p.c,by rw[hp',<-A3 hs]⟩,by rw[<-h3.can];exact h.vs,h4.trans h.lk⟩
theorem A4{s r:dP}(h:tZ s cd E a l n r)(hz:∀q E n,gH s q->jA q cd E n->E=0):E=0/\∃q,gH s q/\jA q cd 0 n/\mD q cd a l n r:=by
 obtain⟨q,hq,⟨h0,⟨n',hE⟩, -⟩|⟨h0,hE,hR⟩⟩:=h
 ·exact absurd (hz q E n' hq hE) h0
 ·exact⟨h0,q,hq,hE,hR⟩
theorem V9(h:gG e [] ls'):ls'=[e]:=by
 obtain⟨i,hi, -, -,rfl⟩:=h;simp
theorem aBm{s:dP}:jA s ⟨1,A,B,C,a0,l0,mn,mx,us,co⟩ E n↔(E=eV s.t s.ps A a0 l0 mn mx us co):=by unfold jA;simp
theorem aBn{s r:dP}:mD s ⟨1,A,B,C,a0,l0,mn,mx,us,co⟩ a l n r↔(a=0/\l=0/\n=0/\r.t=s.t/\r.vs=s.vs/\r.ls=s.ls/\∃qs,cB s.ps qs/\gZ ⟨A,0,a0,l0,mn,mx,us,co,none,0,0,[]⟩ qs r.ps):=by unfold mD;simp
theorem aBo{s:dP}:jA s ⟨6,A,B,C,a0,l0,mn,mx,us,co⟩ E n↔(E=VZ s.t s.ps s.vs A a0 l0):=by unfold jA;simp
theorem aBp{s:dP}:jA s ⟨7,A,B,C,a0,l0,mn,mx,us,co⟩ E n↔(E=VY s.ps s.vs s.ls A):=by unfold jA;simp
theorem aBq{s r:dP}:mD s ⟨7,A,B,C,a0,l0,mn,mx,us,co⟩ a l n r↔(a=0/\l=0/\n=0/\r.t=s.t/\r.ps=s.ps/\H0 s.vs s.ls A r.vs r.ls):=by unfold mD;simp
theorem aBr{s:dP}:jA s ⟨8,A,B,C,a0,l0,mn,mx,us,co⟩ E n↔(E=P0 s.t s.ps s.vs s.ls A B C):=by unfold jA;simp
theorem aBs{s r:dP}:mD s ⟨8,A,B,C,a0,l0,mn,mx,us,co⟩ a l n r↔(n=0/\r.t=s.t/\kJ s.ps B C A a l r.ps/\vH s.vs.length s.vs s.ls A ⟨a,l,B⟩ r.vs r.ls):=by unfold mD;simp
theorem aBt{s:dP}:jA s ⟨9,A,B,C,a0,l0,mn,mx,us,co⟩ E n↔(XQ s.t s.ps s.vs A a0 l0 E):=by unfold jA;simp
theorem aBu{s r:dP}:mD s ⟨9,A,B,C,a0,l0,mn,mx,us,co⟩ a l n r↔(a=0/\l=0/\n=0/\r.ls=s.ls/\DpR s.t s.ps s.vs A a0 l0 r.t r.ps r.vs):=by unfold mD;simp
theorem ZK{s:dP}:jA s ⟨15,A,B,C,a0,l0,mn,mx,us,co⟩ E n↔(E=oV s.vs.length s.vs s.ls.length s.ls A B):=by unfold jA;simp
theorem ZL{s r:dP}:mD s ⟨15,A,B,C,a0,l0,mn,mx,us,co⟩ a l n r↔(a=0/\l=0/\n=0/\r.t=s.t/\r.ps=s.ps/\LZ s.vs s.ls A B r.vs r.ls):=by unfold mD;simp
theorem ZM{s:dP}:jA s ⟨10,A,B,C,a0,l0,mn,mx,us,co⟩ E n↔((aJ s.vs.length s.vs A<0/\E=5/\n=0)\/∃k:Nat,k<s.vs.length/\aJ s.vs.length s.vs A=k/\tY (aE s.vs k) ⟨10,A,B,C,a0,l0,mn,mx,us,co⟩ E n):=by unfold jA;simp
theorem ZN{s r:dP}:mD s ⟨10,A,B,C,a0,l0,mn,mx,us,co⟩ a l n r↔(a=0/\l=0/\r.t=s.t/\r.ps=s.ps/\r.ls=s.ls/\∃(k:Nat) (u:Vn),k<s.vs.length/\aJ s.vs.length s.vs A=k/\UT (aE s.vs k) ⟨10,A,B,C,a0,l0,mn,mx,us,co⟩ n u/\r.vs=s.vs.set k u):=by unfold mD;simp
theorem ZO{s:dP}:jA s ⟨12,A,B,C,a0,l0,mn,mx,us,co⟩ E n↔((aJ s.vs.length s.vs A<0/\E=5/\n=0)\/∃k:Nat,k<s.vs.length/\aJ s.vs.length s.vs A=k/\tY (aE s.vs k) ⟨12,A,B,C,a0,l0,mn,mx,us,co⟩ E n):=by unfold jA;simp
theorem ZP{s r:dP}:mD s ⟨12,A,B,C,a0,l0,mn,mx,us,co⟩ a l n r↔(a=0/\l=0/\r.t=s.t/\r.ps=s.ps/\r.ls=s.ls/\∃(k:Nat) (u:Vn),k<s.vs.length/\aJ s.vs.length s.vs A=k/\UT (aE s.vs k) ⟨12,A,B,C,a0,l0,mn,mx,us,co⟩ n u/\r.vs=s.vs.set k u):=by unfold mD;simp
theorem WA{r:dP}(h:tZ ⟨0,[],[],[]⟩ ⟨1,7,0,0,256,8,8,16,12,3⟩ E a l n r):E=0/\yC [] [] [] r:=by
 have hz:∀q,gH ⟨0,[],[],[]⟩ q->q.t=0/\q.ps=[]/\q.vs=[]/\q.ls=[]:=fun q hq=>⟨hq.1,List.eq_nil_of_length_eq_zero hq.2.1.1.symm,List.eq_nil_of_length_eq_zero hq.2.2.1.1.symm,hq.2.2.2⟩;obtain⟨hE0,q,hq, -,hR⟩:=A4 h (fun q E n hq hE=>by
  obtain⟨h1,h2,h3,h4⟩:=hz q hq;rw[aBm,h1,h2]at hE;rw[hE];kernel_rfl)
 obtain⟨h1,h2,h3,h4⟩:=hz q hq;rw[aBn,h1,h2,h3,h4]at hR;obtain⟨-, -, -,g1,g2,g3,qs,g4,i,hi, -, -,g5⟩:=hR;obtain rfl:qs=[]:=List.eq_nil_of_length_eq_zero g4.1.symm;refine⟨hE0,g1,⟨none,0,?_⟩,by rw[g2];rfl,g3⟩;rw[g5];simp
theorem dX(h:vs.map bA=V):vs.length=V.length:=by rw[<-h,List.length_map]
theorem MC{id:Int}{s r:dP}(hS:yC [] V [] s)(hE:iS V.length V 0 [] id=0)(h:tZ s ⟨7,id,0,0,0,0,0,0,0,0⟩ E a l n r):E=0/\yC [] (AR id V) [] r:=by
 obtain⟨hE0,q,hq, -,hR⟩:=A4 h (fun q E n hq hE'=>by
  have hQ:=hS.same hq;obtain⟨x,c,hp⟩:=hQ.ps;rw[aBp]at hE';unfold VY at hE';rw[hp,if_neg (by show¬FC (bS [K1 x c []]) id=true;rw[show FC (bS [K1 x c []]) id=false by rfl];decide),<-vI,hQ.vs,dX hQ.vs,hQ.lk]at hE';rw[hE'];exact hE)
 have hQ:=hS.same hq;rw[aBq]at hR;obtain⟨-, -, -,g1,g2,g3,g4⟩:=hR;exact⟨hE0,g1.trans hQ.t0,by rw[g2];exact hQ.ps,by rw[g3.can,hQ.vs],g4.trans hQ.lk⟩
theorem at7(x:Option Addr)(c:Nat)(ls:List Le):aO [K1 x c ls] 7=0:=nS (i:=0) (by simp) rfl (fun j hj=>absurd hj (Nat.not_lt_zero _))
theorem po7(x:Option Addr)(c:Nat)(ls:List Le):poAt [K1 x c ls] (0:Int).toNat=K1 x c ls:=rfl
theorem MD{s r:dP}(hS:yC ls V [] s)(htk:∀x c,cE 0 [K1 x c ls] 7 z A=0)(hpf:∀x c,dS (K1 x c ls) (jR (K1 x c ls) z)=(a0,l0))(hng:iO V.length V 0 [] A ⟨a0,l0,7⟩=0)(hpl:aJ V.length V A=k)(hput:∀m,gG ⟨a0,l0,1,A,0⟩ ls m->m=ls')
 (h:tZ s ⟨8,A,7,z,0,0,0,0,0,0⟩ E a l n r):(E,a,l,n)=(0,a0,l0,0)/\yC ls' (eE V k ⟨a0,l0,7⟩) [] r:=by
 obtain⟨h0,q,hq, -,hR⟩:=A4 h (fun q E n hq hE'=>by
  have hQ:=hS.same hq;obtain⟨x,c,hp⟩:=hQ.ps;rw[aBr]at hE';unfold P0 XP at hE';rw[<-bJ,hQ.vs,dX hQ.vs,hpl,if_neg (by omega),hQ.t0,hp,htk,if_pos rfl,at7,po7,hpf,<-rQ,hQ.vs,hQ.lk]at hE';rw[hE'];exact hng)
 have hQ:=hS.same hq;obtain⟨x,c,hp⟩:=hQ.ps;rw[aBs]at hR;obtain⟨g1,g2,⟨g3,qs,x',c',m,g4,g5,g6⟩,g7,g8⟩:=hR;rw[hp,at7,po7]at g3 g5;rw[hp]at g4;rw[hpf]at g3;simp only[Prod.mk.injEq]at g3;obtain⟨rfl,rfl⟩:=g3;obtain rfl:=hput m g5;obtain⟨p,rfl,hs⟩:=vN g4;refine⟨by rw[h0,g1],g2.trans hQ.t0,⟨x',c',?_⟩,?_,g8.trans hQ.lk⟩
 ·rw[g6,hp,at7,A3 hs];rfl
 ·rw[<-g7.can,mP,hQ.vs,<-bJ,hQ.vs,dX hQ.vs,hpl,Int.toNat_natCast]
theorem WB{s r:dP}(hS:yC ls V [] s)(hj:oV V.length V 0 [] A B=0)(h:tZ s ⟨15,A,B,0,0,0,0,0,0,0⟩ E a l n r):E=0/\yC ls V (iE (min A B,max A B) []) r:=by
 obtain⟨hE0,q,hq, -,hR⟩:=A4 h (fun q E n hq hE'=>by
  have hQ:=hS.same hq;rw[ZK,<-vJ,hQ.vs,dX hQ.vs,hQ.lk]at hE';rw[hE'];exact hj)
 have hQ:=hS.same hq;rw[ZL]at hR;obtain⟨-, -, -,g1,g2,g3,g4⟩:=hR;exact⟨hE0,g1.trans hQ.t0,by rw[g2];exact hQ.ps,by rw[<-g3.can];exact hQ.vs,by rw[g4,hQ.lk]⟩
theorem K2(h:vs.map bA=V):bA (aE vs k)=aE V k:=by rw[<-h,dI]
theorem ZQ{id c m:Int}{s r:dP}(hS:yC ls V L s)(hpl:aJ V.length V A=k)(hv:aE V k=⟨vid,none,rs.length,0,rs,none,0,0,[]⟩)(hE:oR vid rs.length rs 0 [] id c m=0)
 (h:tZ s ⟨10,A,id,0,c,m,0,0,0,0⟩ E a l n r):E=0/\yC ls (V.set k ⟨vid,none,rs.length,0,rs,none,1,0,[⟨id,c,m,none,0,0,[]⟩]⟩) L r:=by
 have key:∀q,gH s q->∀k':Nat,aJ q.vs.length q.vs A=k'->k'=k/\(aE q.vs k).id=vid/\(aE q.vs k).rn=rs.length/\(aE q.vs k).rs=rs/\(aE q.vs k).sn=0/\(aE q.vs k).ss=[]:=fun q hq k' hk'=>by
  have hQ:=hS.same hq;rw[<-bJ,hQ.vs,dX hQ.vs,hpl]at hk';have hc:=K2 (k:=k) hQ.vs;rw[hv]at hc;unfold bA at hc;simp only[Vn.mk.injEq,true_and]at hc;exact⟨by omega,hc.1,hc.2.1,hc.2.2.1,hc.2.2.2.1,by simpa using hc.2.2.2.2⟩
 obtain⟨hE0,q,hq, -,hR⟩:=A4 h (fun q E n hq hE'=>by
  have hQ:=hS.same hq;rw[ZM]at hE';rcases hE' with ⟨hn, -⟩|⟨k', -,hk',hW⟩
  ·rw[<-bJ,hQ.vs,dX hQ.vs,hpl]at hn;omega
  ·obtain⟨rfl,e1,e2,e3,e4,e5⟩:=key q hq k' hk';unfold tY at hW;rw[if_pos rfl,e1,e2,e3,e4,e5]at hW;rw[hW.1];exact hE)
 have hQ:=hS.same hq;rw[ZN]at hR;obtain⟨-, -,g1,g2,g3,k',u, -,hk',⟨u1,u2,u3,u4,u5⟩,g4⟩:=hR;obtain⟨rfl,e1,e2,e3,e4,e5⟩:=key q hq k' hk';unfold L7 at u4;rw[if_pos rfl,e5]at u4;obtain⟨ts,hts,i,hi, -, -,hus⟩:=u4;obtain rfl:ts=[]:=List.eq_nil_of_length_eq_zero hts.1.symm;have hss:u.ss=[⟨id,c,m,none,0,0,[]⟩]:=by rw[hus];simp
 refine⟨hE0,g1.trans hQ.t0,by rw[g2];exact hQ.ps,?_,g3.trans hQ.lk⟩;rw[g4,List.map_set,hQ.vs];congr 1;unfold bA;rw[u1,u2,u3,u5,hss,e1,e3];rfl
theorem WC{id sub c m y0:Int}{s r:dP}(hS:yC ls V L s)(hpl:aJ V.length V A=k)(hv:aE V k=⟨vid,none,rs.length,0,rs,none,1,0,[⟨sub,c,m,none,0,0,[]⟩]⟩)
 (hch:∀x d,bD vid rs.length rs 1 [⟨sub,c,m,x,0,d,[]⟩]=0)(hf0:∀x d,lF ⟨sub,c,m,x,0,d,[]⟩ id=0)(hL:∀x d,tJ ⟨sub,c,m,x,0,d,[]⟩ y0)
 (h:tZ s ⟨12,A,sub,id,0,0,0,0,0,0⟩ E a l n r):(E,a,l,n)=(0,0,0,y0)/\yC ls (V.set k ⟨vid,none,rs.length,0,rs,none,1,0,[⟨sub,c,m,none,1,0,[⟨id,none,1,0,[y0]⟩]⟩]⟩) L r:=by
 have key:∀q,gH s q->∀k':Nat,aJ q.vs.length q.vs A=k'->k'=k/\(aE q.vs k).id=vid/\(aE q.vs k).rn=rs.length/\(aE q.vs k).rs=rs/\(aE q.vs k).sn=1/\∃x d,(aE q.vs k).ss=[⟨sub,c,m,x,0,d,[]⟩]:=fun q hq k' hk'=>by
  have hQ:=hS.same hq;rw[<-bJ,hQ.vs,dX hQ.vs,hpl]at hk';have hc:=K2 (k:=k) hQ.vs;rw[hv]at hc;unfold bA at hc;simp only[Vn.mk.injEq,true_and]at hc;refine⟨by omega,hc.1,hc.2.1,hc.2.2.1,hc.2.2.2.1,?_⟩;obtain⟨t,ht,e⟩:=List.map_eq_singleton_iff.1 hc.2.2.2.2;obtain⟨i1,i2,i3,i4,i5,i6,i7⟩:=t;unfold cH at e;simp only[Sb.mk.injEq,true_and,List.map_eq_nil_iff]at e;obtain⟨rfl,rfl,rfl,rfl,rfl⟩:=e;exact⟨i4,i6,ht⟩
 have one:∀q,gH s q->∀E n,jA q ⟨12,A,sub,id,0,0,0,0,0,0⟩ E n->E=0/\n=y0:=fun q hq E n hE'=>by
  have hQ:=hS.same hq;rw[ZO]at hE';rcases hE' with ⟨hn, -⟩|⟨k', -,hk',hW⟩
  ·rw[<-bJ,hQ.vs,dX hQ.vs,hpl]at hn;omega
  ·obtain⟨rfl,e1,e2,e3,e4,x,d,e5⟩:=key q hq k' hk';unfold tY at hW;rw[if_neg (by simp),if_neg (by simp),if_pos rfl,e1,e2,e3,e4,e5]at hW;unfold kC at hW;rw[if_neg (by rw[hch];decide)]at hW;rcases hW with ⟨hn, -⟩|⟨i,hi,hF⟩
   ·exact absurd rfl (hn 0 (by omega))
   ·obtain rfl:i=0:=by have:=hi.isn;omega
    exact(hF.2 (hf0 x d)).one (.inl ⟨rfl,hL x d⟩)
 obtain⟨h0,q,hq,hE,hR⟩:=A4 h (fun q E n hq hE'=>(one q hq E n hE').1);have hn:=(one q hq _ _ hE).2;have hQ:=hS.same hq;rw[ZP]at hR;obtain⟨ga,gl,g1,g2,g3,k',u, -,hk',⟨u1,u2,u3,u4,u5⟩,g4⟩:=hR;obtain⟨rfl,e1,e2,e3,e4,x,d,e5⟩:=key q hq k' hk';unfold L7 at u4;rw[if_neg (by simp),if_neg (by simp),if_pos rfl,e4,e5]at u4;obtain⟨ts,i,x',n',c',fx,gs,k1, -,k3,k4,k5,k6⟩:=u4;obtain rfl:i=0:=by have:=k1.isn;omega
 have hts:ts.map cH=[⟨sub,c,m,none,0,0,[]⟩]:=k3.can.symm;obtain⟨t,rfl,e⟩:=List.map_eq_singleton_iff.1 hts;obtain⟨i1,i2,i3,i4,i5,i6,i7⟩:=t;unfold cH at e;simp only[Sb.mk.injEq,true_and,List.map_eq_nil_iff]at e;obtain⟨rfl,rfl,rfl,rfl,rfl⟩:=e;obtain⟨p,hp, -, -,hgs⟩:=k4;have hg1:gs=[⟨id,fx,1,1,[n]⟩]:=by rw[hgs];simp[sbAt]
 subst hg1;subst k5;refine⟨by rw[h0,ga,gl,hn],g1.trans hQ.t0,by rw[g2];exact hQ.ps,?_,g3.trans hQ.lk⟩;rw[g4,List.map_set,hQ.vs];congr 1;unfold bA;rw[u1,u2,u3,u5,k6,e1,e3,hn];rfl
theorem WD{c m:Int}{s r:dP}(hS:yC ls V L s)(hpl:aJ V.length V A=k)(hv:aE V k=⟨vid,none,1,0,[g],none,0,0,[]⟩)(hd:fJ vid 1 [g] 0 [] c m=0)(hg7:g.p=7)
 (hge:∀x d,iQ 0 [K1 x d ls] 7 g.a g.l=0)(hfi:∀x d,bP (K1 x d ls).n (yZ ls g.a g.l)=j0)(hcl:∀x d,cI (K1 x d ls) j0 0=ls')
 (h:tZ s ⟨9,A,0,0,c,m,0,0,0,0⟩ E a l n r):E=0/\yC ls' (V.set k ⟨vid,none,0,0,[],none,0,0,[]⟩) L r:=by
 have key:∀q,gH s q->∀k':Nat,aJ q.vs.length q.vs A=k'->k'=k/\(aE q.vs k).id=vid/\(aE q.vs k).rn=1/\(aE q.vs k).rs=[g]/\(aE q.vs k).sn=0/\(aE q.vs k).ss=[]:=fun q hq k' hk'=>by
  have hQ:=hS.same hq;rw[<-bJ,hQ.vs,dX hQ.vs,hpl]at hk';have hc:=K2 (k:=k) hQ.vs;rw[hv]at hc;unfold bA at hc;simp only[Vn.mk.injEq,true_and]at hc;exact⟨by omega,hc.1,hc.2.1,hc.2.2.1,hc.2.2.2.1,by simpa using hc.2.2.2.2⟩
 obtain⟨h0,q,hq, -,hR⟩:=A4 h (fun q E n hq hE'=>by
  have hQ:=hS.same hq;obtain⟨x,d,hp⟩:=hQ.ps;rw[aBt]at hE';rcases hE' with ⟨hn, -⟩|⟨k', -,hk',hW⟩
  ·rw[<-bJ,hQ.vs,dX hQ.vs,hpl]at hn;omega
  ·obtain⟨rfl,e1,e2,e3,e4,e5⟩:=key q hq k' hk';rw[e1,e2,e3,e4,e5,hd]at hW;rcases hW with ⟨hn, -⟩|⟨-,i,hi,hE⟩
   ·exact absurd rfl hn
   ·have hi1:=hi.lt;rw[e2]at hi1;obtain rfl:i=0:=by omega
    rw[hQ.t0,hp,show(aQ [g] 0).p=7 from hg7]at hE;rw[hE];exact hge x d)
 have hQ:=hS.same hq;obtain⟨x,d,hp⟩:=hQ.ps;rw[aBu]at hR;obtain⟨-, -, -,g3,k',i,u, -,hk', -,hi,hus,u1,u2,u3,u4,u5,g1,qs,x',c',g4,g6⟩:=hR;obtain⟨rfl,e1,e2,e3,e4,e5⟩:=key q hq k' hk';have hi1:=hi.lt;rw[e2]at hi1;obtain rfl:i=0:=by omega
 rw[e3]at u2 g6;rw[show(aQ [g] 0).p=7 from hg7,hp,at7,po7,show(aQ [g] 0)=g from rfl,hfi,Int.toNat_natCast,show(0:Int).toNat=0 from rfl,hQ.t0,hcl]at g6;rw[hp]at g4;obtain⟨p,rfl,hs⟩:=vN g4;have hss:u.ss=[]:=List.eq_nil_of_length_eq_zero (by rw[<-u4.1,e5];rfl);have hrs:u.rs=[]:=by rw[u2];rfl
 refine⟨h0,g1.trans hQ.t0,⟨x',c',?_⟩,?_,g3.trans hQ.lk⟩
 ·rw[g6,A3 hs];rfl
 ·rw[hus,List.map_set,hQ.vs];congr 1;unfold bA;rw[u1,u3,u5,hrs,hss,e1];rfl
theorem WE{o:Int}{s r:dP}(hS:yC ls V L s)(ho:∀x c,rR (bS [K1 x c ls]) 7 a0 l0=o)(hpl:0<=aJ V.length V o)(h:tZ s ⟨6,7,0,0,a0,l0,0,0,0,0⟩ E a l n r):E=9/\yC ls V L r:=by
 have one:∀q,gH s q->∀E n,jA q ⟨6,7,0,0,a0,l0,0,0,0,0⟩ E n->E=9:=fun q hq E n hE'=>by
  have hQ:=hS.same hq;obtain⟨x,c,hp⟩:=hQ.ps;rw[aBo]at hE';unfold VZ at hE';rw[hp,ho,<-bJ,hQ.vs,dX hQ.vs,if_pos hpl]at hE';exact hE'
 obtain⟨q,hq,⟨-,⟨n',hE⟩, -, -, -,hr⟩|⟨-,hE, -⟩⟩:=h
 ·exact⟨one q hq _ _ hE,hS.same hr⟩
 ·exact absurd (one q hq _ _ hE) (by decide)
def planL:List Cd:=[⟨1,7,0,0,256,8,8,16,12,3⟩,⟨7,1,0,0,0,0,0,0,0,0⟩,⟨7,2,0,0,0,0,0,0,0,0⟩,⟨8,1,7,10,0,0,0,0,0,0⟩,⟨8,2,7,0,0,0,0,0,0,0⟩,⟨15,2,1,0,0,0,0,0,0,0⟩,⟨10,1,4,0,256,14,0,0,0,0⟩,⟨12,1,4,9,0,0,0,0,0,0⟩,⟨9,2,0,0,320,12,0,0,0,0⟩,⟨6,7,0,0,256,10,0,0,0,0⟩]
theorem WF(h:gG ⟨320,12,1,2,0⟩ [⟨256,10,1,1,0⟩] m):m=[⟨256,10,1,1,0⟩,⟨320,12,1,2,0⟩]:=by
 obtain⟨i,hi,h1,h2,rfl⟩:=h;have hi':i<=1:=hi;by_cases e:i=0
 ·subst e;exact absurd (h2 (by simp)) (by decide)
 ·obtain rfl:i=1:=by omega
  rfl
theorem A5(w:World):Calls Tryz.prog 10 #[] w fun e w'=>∃b,e= .returned (.slice (some ⟨b,0,none⟩) 10 10)/\K0 w' (some ⟨b,0,none⟩) 10 planL/\Below w.heap.size w w':=by
 go_enter Tryz.func10,Tryz.ntmps10;go_wp2_with fail;refine(NQ _).mono ?_;rintro e w1 ⟨rfl,hb1⟩;go_wp2;go_ret;refine⟨w1.heap.size,rfl,⟨rfl,fun i hi=>?_,fun i hi=>⟨w1.heap.size,0,rfl,?_⟩⟩,hb1.trans ((bl1 w1 _).mono hb1.size)⟩
 ·have:i=0\/i=1\/i=2\/i=3\/i=4\/i=5\/i=6\/i=7\/i=8\/i=9:=by omega
  rcases this with rfl|rfl|rfl|rfl|rfl|rfl|rfl|rfl|rfl|rfl<;>exact⟨rfl,rfl,rfl⟩
 ·have:i=0\/i=1\/i=2\/i=3\/i=4\/i=5\/i=6\/i=7\/i=8\/i=9:=by omega
  rcases this with rfl|rfl|rfl|rfl|rfl|rfl|rfl|rfl|rfl|rfl<;>simp[cdAt,planL]
end Go.Proofs.YtjphnaccgfjnjaaGreatDoor
