/- A part of the proof. -/
import Derived.Test.YtjphnaccgfjnjaaGreatDoorMK13
set_option maxRecDepth 100000
set_option maxHeartbeats 20000000
namespace Go.Proofs.YtjphnaccgfjnjaaGreatDoor
variable {w w' w1 u : World} {b o c n base k g m vn vc ln : Nat} {v : Value} {P : Program} {l ts : List Oper} {Q : Exit → Act → World → Prop} {T f : Nat → Bool} {a : Act} {cs : List Value} {x vx lx : Option Addr} {s : Sb} {ss : List Sb} {t : Int} {ps : List Po} {vs : List Vn} {ls : List (Int × Int)} {xs ys : List Int}
open Go.RowKit Go.Shelf
def ZR(s:dP)(cd:Cd)(w:World)(e:Ending)(w':World):Prop:=
 ∃E a l n r vB vV vK,e= .returned (.tuple #[AV r.t vB vV vK,L8 E a l n, .int .i64 0])/\Below w.heap.size w w'/\SO w' w.heap.size r.ps r.vs r.ls vB vV vK/\tZ s cd E a l n r
theorem WG(t:Int)(x:Option Addr)(n c:Nat)(ps:List Po)(X:Option Addr)(vn C:Nat)(vs:List Vn)(Y:Option Addr)(ln D:Nat)(ls:List (Int×Int))(cd:Cd)(w:World)(hs:Si w x n c ps X vn C vs Y ln ls)(hB:aS t ps=0)(hN:KZ vn vs ln)(hT:mS t ps vn vs ln ls=0)(hcw:tX cd.A cd.a cd.l):
  Calls Tryz.prog 14 #[AV t (.slice x n c) (.slice X vn C) (.slice Y ln D),L5 cd] w (ZR ⟨t,ps,vs,ls⟩ cd w):=by
 go_enter Tryz.func14,Tryz.ntmps14;go_upto_region 1 with fail
 obtain⟨w0,hw0⟩:∃w0,w0=(((w.alloc (iI t (.slice x n c) (.slice X vn C) (.slice Y ln D))).alloc (rT cd)).alloc (iI 0 (.slice none 0 0) (.slice none 0 0) (.slice none 0 0))).alloc (FZ 0 0 0 0):=⟨_,rfl⟩;rw[<-hw0];have hB0:Below w.heap.size w w0:=by rw[hw0];exact((bO w _ _).alloc (by simp;omega) _).alloc (by simp;omega) _
 have hq0:w0.heap[w.heap.size]?=some (iI t (.slice x n c) (.slice X vn C) (.slice Y ln D)):=by rw[hw0];exact aG _ (aG _ (aG _ (aB _ rfl)))
 have hq1:w0.heap[w.heap.size+1]?=some (rT cd):=by rw[hw0];exact aG _ (aG _ (aB _ (by simp)))
 have hq2:w0.heap[w.heap.size+2]?=some (iI 0 (.slice none 0 0) (.slice none 0 0) (.slice none 0 0)):=by rw[hw0];exact aG _ (aB _ (by simp))
 have hq3:w0.heap[w.heap.size+3]?=some (FZ 0 0 0 0):=by rw[hw0];exact aB _ (by simp)
 clear hw0;have hz3:w.heap.size+3<w0.heap.size:=(zG hq3);have hck:=rS t x n c ps X vn C vs Y ln D ls w0 (hs.later hB0);rw[hT]at hck;obtain⟨s0,s1,s2,s3⟩:=dL hq0 rfl rfl rfl rfl;go_wp2_with fail;refine hck.mono ?_;rintro e w1 ⟨rfl,hb1⟩;clear s0 s1 s2 s3 hck;have hz1:=hb1.size;have hBw1:Below w.heap.size w w1:=hB0.trans (hb1.mono hB0.size);have h10:=aA hb1 hq0;have h11:=aA hb1 hq1;have h12:=aA hb1 hq2;have h13:=aA hb1 hq3;clear hq0 hq1 hq2 hq3;obtain⟨s0,s1,s2,s3⟩:=dL h10 rfl rfl rfl rfl;obtain⟨k0,k1,k2,k3,k4,k5,k6,k7,k8,k9⟩:=uJ h11 rfl rfl rfl rfl rfl rfl rfl rfl rfl rfl;go_wp2_with fail;refine(IB t x n c ps X vn C vs Y ln D ls cd w1 (hs.later hBw1) hB hN hcw).mono ?_;rintro e w2 ⟨E,a,l,n',r,vB,vV,vK,rfl,hb2,hO2,hNx⟩;obtain⟨x5,c5,X5,C5,Y5,D5,rfl,rfl,rfl⟩:=hO2.slices;clear s0 s1 s2 s3 k0 k1 k2 k3 k4 k5 k6 k7 k8 k9;have hNx':Hid (tZ ⟨t,ps,vs,ls⟩ cd E a l n' r):=hNx;clear hNx;go_upto_region 5 with fail
 obtain⟨w4,hw4⟩:∃w4,w4=(w2.alloc (iI r.t (.slice x5 r.ps.length c5) (.slice X5 r.vs.length C5) (.slice Y5 r.ls.length D5))).alloc (FZ E a l n'):=⟨_,rfl⟩;rw[<-hw4];have hb4:Below w2.heap.size w2 w4:=by rw[hw4];exact bO w2 _ _
 have h4s:w4.heap[w2.heap.size]?=some (iI r.t (.slice x5 r.ps.length c5) (.slice X5 r.vs.length C5) (.slice Y5 r.ls.length D5)):=by rw[hw4];exact aG _ (aB _ rfl)
 have h4a:w4.heap[w2.heap.size+1]?=some (FZ E a l n'):=by rw[hw4];exact aB _ (by simp)
 clear hw4;have hb24:Below w1.heap.size w1 w4:=hb2.trans (hb4.mono hb2.size);have hBw4:Below w.heap.size w w4:=hBw1.trans (hb24.mono hBw1.size);have h42:=aA hb24 h12;have h43:=aA hb24 h13;have hO5:=(hO2.later hb4).low hBw1.size;have hz2:=hb2.size;have s0:∀u:wW w4 w2.heap.size (w2.heap.size+1),u.val.cell? ⟨w2.heap.size,0,none⟩=some (.int .i64 r.t):=fun u=>(aC (u.p1.trans h4s)).1 0;have s1:∀u:wW w4 w2.heap.size (w2.heap.size+1),u.val.cell? ⟨w2.heap.size,1,none⟩=some (.slice x5 r.ps.length c5):=fun u=>(aC (u.p1.trans h4s)).1 1;have s2:∀u:wW w4 w2.heap.size (w2.heap.size+1),u.val.cell? ⟨w2.heap.size,2,none⟩=some (.slice X5 r.vs.length C5):=fun u=>(aC (u.p1.trans h4s)).1 2;have s3:∀u:wW w4 w2.heap.size (w2.heap.size+1),u.val.cell? ⟨w2.heap.size,3,none⟩=some (.slice Y5 r.ls.length D5):=fun u=>(aC (u.p1.trans h4s)).1 3;have a0:∀u:wW w4 w2.heap.size (w2.heap.size+1),u.val.cell? ⟨w2.heap.size+1,0,none⟩=some (.int .i64 E):=fun u=>(aC (u.p2.trans h4a)).1 0;have a1:∀u:wW w4 w2.heap.size (w2.heap.size+1),u.val.cell? ⟨w2.heap.size+1,1,none⟩=some (.int .i64 a):=fun u=>(aC (u.p2.trans h4a)).1 1;have a2:∀u:wW w4 w2.heap.size (w2.heap.size+1),u.val.cell? ⟨w2.heap.size+1,2,none⟩=some (.int .i64 l):=fun u=>(aC (u.p2.trans h4a)).1 2;have a3:∀u:wW w4 w2.heap.size (w2.heap.size+1),u.val.cell? ⟨w2.heap.size+1,3,none⟩=some (.int .i64 n'):=fun u=>(aC (u.p2.trans h4a)).1 3;refine bN (fun w'=>∃u:wW w4 w2.heap.size (w2.heap.size+1),w'=u.val) (fun j=>decide (j<3)) 5 _ (by kernel_rfl) rfl rfl ?_;refine bL 3 [0,1] rfl _ rfl (by kernel_rfl) (fun d _ _ _ _ h=>by cases d<;>exact h) ⟨⟨w4.drew,rfl,rfl⟩,rfl⟩ ?_;simp only[zK,zM,zI,zJ];repeat(go_big_quiet_step (fail))
 refine wpQuiet_nil ?_;clear s0 s1 s2 s3 a0 a1 a2 a3;have b2:lH w4 (w.heap.size+2) 43:=⟨_,h42⟩;obtain⟨p0,p1,p2,p3⟩:=dL h42 rfl rfl rfl rfl;obtain⟨pz0,pz1,pz2,pz3⟩:=iY h42;refine aZ 2 _ _ (by kernel_rfl) (by kernel_rfl) rfl rfl ?_;intro K hK;simp only[zI,zJ];go_wp2_with fail;obtain⟨w6,hw6⟩:∃w6,w6=((((w4.setCell ⟨w.heap.size+2,0,none⟩ (.int .i64 r.t)).setCell ⟨w.heap.size+2,1,none⟩ (.slice x5 r.ps.length c5)).setCell ⟨w.heap.size+2,2,none⟩ (.slice X5 r.vs.length C5)).setCell ⟨w.heap.size+2,3,none⟩ (.slice Y5 r.ls.length D5)).drew:=⟨_,rfl⟩;rw[<-hw6];have hoth:∀k,k≠w.heap.size+2->w6.heap[k]?=w4.heap[k]?:=fun k hk=>by rw[hw6];exact(zB hk).trans ((zB hk).trans ((zB hk).trans (zB hk)))
 have h62:w6.heap[w.heap.size+2]?=some (iI r.t (.slice x5 r.ps.length c5) (.slice X5 r.vs.length C5) (.slice Y5 r.ls.length D5)):=by rw[hw6];exact zC (zC (zC (zC h42)))
 have hB6:Below w.heap.size w w6:=by rw[hw6];exact(((((hBw4).setCell (p:=⟨w.heap.size+2,0,none⟩) (zA) _).setCell (p:=⟨w.heap.size+2,1,none⟩) (zA) _).setCell (p:=⟨w.heap.size+2,2,none⟩) (zA) _).setCell (p:=⟨w.heap.size+2,3,none⟩) (zA) _).drew
 have hO7:SO w6 w.heap.size r.ps r.vs r.ls (.slice x5 r.ps.length c5) (.slice X5 r.vs.length C5) (.slice Y5 r.ls.length D5):=by rw[hw6];exact(((((hO5).put b2 (by decide)).put b2.put (by decide)).put b2.put.put (by decide)).put b2.put.put.put (by decide)).later (zD).drew
 have h63:=(hoth _ (by omega)).trans h43;refine aD (hK.out _ _ ⟨⟨w6,hoth _ (by omega),hoth _ (by omega)⟩,rfl⟩ ?_);clear hK K hw6 p0 p1 p2 p3 pz0 pz1 pz2 pz3 hoth h42 h43 hO5 b2;refine bB [3,4] rfl (by kernel_rfl) ?_;simp only[zK,zM,zI,zJ];have b3:lH w6 (w.heap.size+3) 28:=⟨_,h63⟩;obtain⟨p0,p1,p2,p3⟩:=dL h62 rfl rfl rfl rfl;obtain⟨pz0,pz1,pz2,pz3⟩:=iY h62;obtain⟨q0,q1,q2,q3⟩:=dL h63 rfl rfl rfl rfl;obtain⟨qz0,qz1,qz2,qz3⟩:=iY h63;go_wp2;refine bodyPost_ret (v:= .tuple #[AV r.t (.slice x5 r.ps.length c5) (.slice X5 r.vs.length C5) (.slice Y5 r.ls.length D5),L8 E a l n', .int .i64 0]) (by simp[results,Tryz.results14,go_sem,p0,p1,p2,p3,q0,q1,q2,q3]) rfl ?_;exact⟨E,a,l,n',r,_,_,_,rfl,((((hB6).setCell (p:=⟨w.heap.size+3,0,none⟩) (zA) _).setCell (p:=⟨w.heap.size+3,1,none⟩) (zA) _).setCell (p:=⟨w.heap.size+3,2,none⟩) (zA) _).setCell (p:=⟨w.heap.size+3,3,none⟩) (zA) _,((((hO7).put b3 (by decide)).put b3.put (by decide)).put b3.put.put (by decide)).put b3.put.put.put (by decide),hNx'.out⟩
theorem dB(h:w.cell? ⟨b,o,none⟩=some v):w.setCell ⟨b,o,none⟩ v=w:=by
 unfold World.cell? at h
 cases hb:w.heap[b]? with
 |none=>simp[hb]at h
 |some ob=>
  cases ob with
  |cells c e f=>
   simp[hb]at h
   have hc:c.setIfInBounds o v=c:=by
    apply Array.ext_getElem?;intro k;by_cases hk:o=k
    ·subst hk;rw[h,Array.getElem?_setIfInBounds_self_of_lt (zG h)]
    ·rw[Array.getElem?_setIfInBounds_ne hk]
   unfold World.setCell
   have hm:∀F:Obj->Obj,F (.cells c e f)= .cells c e f->w.heap.modify b F=w.heap:=fun F hF=>by
    apply Array.ext_getElem?;intro k;rw[Array.getElem?_modify];by_cases hk:b=k
    ·subst hk;rw[if_pos rfl,hb];simp[hF]
    ·rw[if_neg hk]
   rw[hm _ (by simp[hc])]
  |_=>
   rw[hb]at h
   simp at h
theorem WH(t:Int)(x:Option Addr)(n c:Nat)(ps:List Po)(X:Option Addr)(vn C:Nat)(vs:List Vn)(Y:Option Addr)(ln D:Nat)(ls:List (Int×Int))(cd:Cd)(w:World)(hs:Si w x n c ps X vn C vs Y ln ls)(E:Int)(hT:mS t ps vn vs ln ls=E/\E≠0):
  Calls Tryz.prog 14 #[AV t (.slice x n c) (.slice X vn C) (.slice Y ln D),L5 cd] w fun e w'=>e= .returned (.tuple #[AV 0 (.slice none 0 0) (.slice none 0 0) (.slice none 0 0),L8 0 0 0 0, .int .i64 E])/\Below w.heap.size w w':=by
 go_enter Tryz.func14,Tryz.ntmps14;go_upto_region 1 with fail
 obtain⟨w0,hw0⟩:∃w0,w0=(((w.alloc (iI t (.slice x n c) (.slice X vn C) (.slice Y ln D))).alloc (rT cd)).alloc (iI 0 (.slice none 0 0) (.slice none 0 0) (.slice none 0 0))).alloc (FZ 0 0 0 0):=⟨_,rfl⟩;rw[<-hw0];have hB0:Below w.heap.size w w0:=by rw[hw0];exact((bO w _ _).alloc (by simp;omega) _).alloc (by simp;omega) _
 have hq0:w0.heap[w.heap.size]?=some (iI t (.slice x n c) (.slice X vn C) (.slice Y ln D)):=by rw[hw0];exact aG _ (aG _ (aG _ (aB _ rfl)))
 have hq1:w0.heap[w.heap.size+1]?=some (rT cd):=by rw[hw0];exact aG _ (aG _ (aB _ (by simp)))
 have hq2:w0.heap[w.heap.size+2]?=some (iI 0 (.slice none 0 0) (.slice none 0 0) (.slice none 0 0)):=by rw[hw0];exact aG _ (aB _ (by simp))
 have hq3:w0.heap[w.heap.size+3]?=some (FZ 0 0 0 0):=by rw[hw0];exact aB _ (by simp)
 clear hw0;have hz3:w.heap.size+3<w0.heap.size:=(zG hq3);have hck:=rS t x n c ps X vn C vs Y ln D ls w0 (hs.later hB0);rw[hT.1]at hck;obtain⟨s0,s1,s2,s3⟩:=dL hq0 rfl rfl rfl rfl;have hE:(E==0)=false:=by simpa using hT.2
 clear hT;go_wp2_with fail;refine hck.mono ?_;rintro e w1 ⟨rfl,hb1⟩;clear s0 s1 s2 s3 hck;have hBw1:Below w.heap.size w w1:=hB0.trans (hb1.mono hB0.size);have h12:=aA hb1 hq2;have h13:=aA hb1 hq3;clear hq0 hq1 hq2 hq3;obtain⟨p0,p1,p2,p3⟩:=dL h12 rfl rfl rfl rfl;obtain⟨pz0,pz1,pz2,pz3⟩:=iY h12;obtain⟨q0,q1,q2,q3⟩:=dL h13 rfl rfl rfl rfl;obtain⟨qz0,qz1,qz2,qz3⟩:=iY h13;have ep0:w1.setCell ⟨w.heap.size+2,0,none⟩ (.int .i64 0)=w1:=dB p0;have ep1:w1.setCell ⟨w.heap.size+2,1,none⟩ (.slice none 0 0)=w1:=dB p1;have ep2:w1.setCell ⟨w.heap.size+2,2,none⟩ (.slice none 0 0)=w1:=dB p2;have ep3:w1.setCell ⟨w.heap.size+2,3,none⟩ (.slice none 0 0)=w1:=dB p3;have eq0:w1.setCell ⟨w.heap.size+3,0,none⟩ (.int .i64 0)=w1:=dB q0;have eq1:w1.setCell ⟨w.heap.size+3,1,none⟩ (.int .i64 0)=w1:=dB q1;have eq2:w1.setCell ⟨w.heap.size+3,2,none⟩ (.int .i64 0)=w1:=dB q2;have eq3:w1.setCell ⟨w.heap.size+3,3,none⟩ (.int .i64 0)=w1:=dB q3;go_wp2;refine bodyPost_ret (v:= .tuple #[AV 0 (.slice none 0 0) (.slice none 0 0) (.slice none 0 0),L8 0 0 0 0, .int .i64 E]) (by simp[results,Tryz.results14,go_sem,p0,p1,p2,p3,q0,q1,q2,q3]) rfl ?_;exact⟨rfl,hBw1⟩
def ZS(s:dP)(cd:Cd)(T:Int)(w:World)(e:Ending)(w':World):Prop:=
 ∃E a l n t5 x5 n5 c5 X5 N5 C5 Y5 M5 D5 e3,e= .returned (.tuple #[AV t5 (.slice x5 n5 c5) (.slice X5 N5 C5) (.slice Y5 M5 D5),L8 E a l n, .int .i64 e3])/\Below w.heap.size w w'/\(T=0->∃r,tZ s cd E a l n r)
theorem WI(t:Int)(x:Option Addr)(n c:Nat)(ps:List Po)(X:Option Addr)(vn C:Nat)(vs:List Vn)(Y:Option Addr)(ln D:Nat)(ls:List (Int×Int))(cd:Cd)(w:World)(hs:Si w x n c ps X vn C vs Y ln ls)(hB:aS t ps=0)(hN:KZ vn vs ln)(hcw:tX cd.A cd.a cd.l):
  Calls Tryz.prog 14 #[AV t (.slice x n c) (.slice X vn C) (.slice Y ln D),L5 cd] w (ZS ⟨t,ps,vs,ls⟩ cd (mS t ps vn vs ln ls) w):=by
 by_cases hT:mS t ps vn vs ln ls=0
 ·refine(WG t x n c ps X vn C vs Y ln D ls cd w hs hB hN hT hcw).mono ?_;rintro e w' ⟨E,a,l,m,r,vB,vV,vK,rfl,hb,hO,hR⟩;obtain⟨x5,c5,X5,C5,Y5,D5,rfl,rfl,rfl⟩:=hO.slices;exact⟨E,a,l,m,_,_,_,_,_,_,_,_,_,_,_,rfl,hb,fun _=>⟨r,hR⟩⟩
 ·refine(WH t x n c ps X vn C vs Y ln D ls cd w hs _ ⟨rfl,hT⟩).mono ?_;rintro e w' ⟨rfl,hb⟩;exact⟨0,0,0,0,_,_,_,_,_,_,_,_,_,_,_,rfl,hb,fun h=>absurd h hT⟩
open Go.RowKit Go.Shelf Go.Sort Go.Lib
def wX:Go.Shelf.Ren:=⟨fun|156=>38|165=>71|166=>72|169=>73|240=>137|241=>138|276=>194|277=>195|n=>n,fun|31=>67|9=>9|3=>3|4=>4|0=>0|20=>20|72=>150|76=>154|70=>148|37=>75|75=>153|127=>111|164=>268|5=>5|80=>74|n=>n,fun|n=>n⟩
theorem WJ:Go.Proofs.Lays.n156 Tryz.prog wX:={
 mixed:=by kernel_rfl
 f156:=Tryz.func38.trans (congrArg some (by kernel_rfl))
 f165:=Tryz.func71.trans (congrArg some (by kernel_rfl))
 f166:=Tryz.func72.trans (congrArg some (by kernel_rfl))
 f169:=Tryz.func73.trans (congrArg some (by kernel_rfl))
 f240:=Tryz.func137.trans (congrArg some (by kernel_rfl))
 f241:=Tryz.func138.trans (congrArg some (by kernel_rfl))
 f276:=Tryz.func194.trans (congrArg some (by kernel_rfl))
 f277:=Tryz.func195.trans (congrArg some (by kernel_rfl))
 t0:=Tryz.underlying0
 a0:=Tryz.isAgg0
 z0:=Tryz.sizeOf0
 v0:=Tryz.zeroValue0
 t3:=Tryz.underlying3
 a3:=Tryz.isAgg3
 z3:=Tryz.sizeOf3
 v3:=Tryz.zeroValue3
 t4:=Tryz.underlying4
 a4:=Tryz.isAgg4
 z4:=Tryz.sizeOf4
 v4:=Tryz.zeroValue4
 t9:=Tryz.underlying9
 a9:=Tryz.isAgg9
 z9:=Tryz.sizeOf9
 v9:=Tryz.zeroValue9
 t20:=Tryz.underlying20
 a20:=Tryz.isAgg20
 z20:=Tryz.sizeOf20
 v20:=Tryz.zeroValue20
 t31:=Tryz.underlying67
 a31:=Tryz.isAgg67
 z31:=Tryz.sizeOf67
 v31:=Tryz.zeroValue67
 t37:=Tryz.underlying75
 a37:=Tryz.isAgg75
 z37:=Tryz.sizeOf75
 v37:=Tryz.zeroValue75
 t70:=Tryz.underlying148
 a70:=Tryz.isAgg148
 z70:=Tryz.sizeOf148
 v70:=Tryz.zeroValue148
 t72:=Tryz.underlying150
 a72:=Tryz.isAgg150
 z72:=Tryz.sizeOf150
 v72:=Tryz.zeroValue150
 t75:=Tryz.underlying153
 a75:=Tryz.isAgg153
 z75:=Tryz.sizeOf153
 v75:=Tryz.zeroValue153
 t76:=Tryz.underlying154
 a76:=Tryz.isAgg154
 z76:=Tryz.sizeOf154
 v76:=Tryz.zeroValue154
 t127:=Tryz.underlying111
 a127:=Tryz.isAgg111
 z127:=Tryz.sizeOf111
 v127:=Tryz.zeroValue111
 t164:=Tryz.underlying268
 a164:=Tryz.isAgg268
 z164:=Tryz.sizeOf268
 v164:=Tryz.zeroValue268}
theorem tQ:Builder.Extra Tryz.prog wX:={
 sizeBuilder:=by kernel_rfl
 liesBuilder:=by kernel_rfl
 t5:=Tryz.underlying5
 a5:=Tryz.isAgg5
 z5:=Tryz.sizeOf5
 v5:=Tryz.zeroValue5
 infoByte:=by kernel_rfl
 cellsByte:=by kernel_rfl
 sizeByte:=by kernel_rfl
 neB5:=by decide}
theorem tR(bk o c:Nat)(xs:List ByteArray)(sep:ByteArray)(w:World)(hcells:∀(j:Nat) x,xs[j]?=some x->w.cell? ⟨bk,o+j,none⟩=some (.string x))(hbk:bk<w.heap.size)(hN:xs.length<=140737488355328)(hcap:xs.length<=c)(hlen:(Lib.join (xs.map (·.data.toList)) sep.data.toList).length<=140737488355328):
  Calls Tryz.prog 38 #[.slice (some ⟨bk,o,none⟩) xs.length c, .string sep] w fun e w'=>e= .returned (.string ⟨(Lib.join (xs.map (·.data.toList)) sep.data.toList).toArray⟩)/\Below w.heap.size w w':=Any.strings_Join WJ tQ bk o c xs sep w hcells hbk hN hcap hlen
def FH:Go.Shelf.Ren:=⟨fun|171=>67|243=>135|246=>193|283=>237|284=>238|285=>239|286=>240|129=>264|317=>263|318=>265|319=>266|320=>267|337=>274|338=>275|n=>n,fun|3=>3|9=>9|2=>2|4=>4|171=>306|0=>0|53=>307|37=>75|5=>5|173=>310|212=>338|51=>108|20=>20|213=>339|46=>156|232=>354|233=>355|n=>n,fun|17=>1|18=>2|19=>3|n=>n⟩
theorem TI:Go.Proofs.LaysM.n171 Tryz.prog FH:={
 mixed:=by kernel_rfl
 f129:=Tryz.func264.trans (congrArg some (by kernel_rfl))
 f171:=Tryz.func67.trans (congrArg some (by kernel_rfl))
 f243:=Tryz.func135.trans (congrArg some (by kernel_rfl))
 f246:=Tryz.func193.trans (congrArg some (by kernel_rfl))
 f283:=Tryz.func237.trans (congrArg some (by kernel_rfl))
 f284:=Tryz.func238.trans (congrArg some (by kernel_rfl))
 f285:=Tryz.func239.trans (congrArg some (by kernel_rfl))
 f286:=Tryz.func240.trans (congrArg some (by kernel_rfl))
 f317:=Tryz.func263.trans (congrArg some (by kernel_rfl))
 f318:=Tryz.func265.trans (congrArg some (by kernel_rfl))
 f319:=Tryz.func266.trans (congrArg some (by kernel_rfl))
 f320:=Tryz.func267.trans (congrArg some (by kernel_rfl))
 f337:=Tryz.func274.trans (congrArg some (by kernel_rfl))
 f338:=Tryz.func275.trans (congrArg some (by kernel_rfl))
 t0:=Tryz.underlying0
 a0:=Tryz.isAgg0
 z0:=Tryz.sizeOf0
 v0:=Tryz.zeroValue0
 t2:=Tryz.underlying2
 a2:=Tryz.isAgg2
 z2:=Tryz.sizeOf2
 v2:=Tryz.zeroValue2
 t3:=Tryz.underlying3
 a3:=Tryz.isAgg3
 z3:=Tryz.sizeOf3
 v3:=Tryz.zeroValue3
 t4:=Tryz.underlying4
 a4:=Tryz.isAgg4
 z4:=Tryz.sizeOf4
 v4:=Tryz.zeroValue4
 t5:=Tryz.underlying5
 a5:=Tryz.isAgg5
 z5:=Tryz.sizeOf5
 v5:=Tryz.zeroValue5
 t9:=Tryz.underlying9
 a9:=Tryz.isAgg9
 z9:=Tryz.sizeOf9
 v9:=Tryz.zeroValue9
 t20:=Tryz.underlying20
 a20:=Tryz.isAgg20
 z20:=Tryz.sizeOf20
 v20:=Tryz.zeroValue20
 t37:=Tryz.underlying75
 a37:=Tryz.isAgg75
 z37:=Tryz.sizeOf75
 v37:=Tryz.zeroValue75
 t46:=Tryz.underlying156
 a46:=Tryz.isAgg156
 z46:=Tryz.sizeOf156
 v46:=Tryz.zeroValue156
 t51:=Tryz.underlying108
 a51:=Tryz.isAgg108
 z51:=Tryz.sizeOf108
 v51:=Tryz.zeroValue108
 t53:=Tryz.underlying307
 a53:=Tryz.isAgg307
 z53:=Tryz.sizeOf307
 v53:=Tryz.zeroValue307
 t171:=Tryz.underlying306
 a171:=Tryz.isAgg306
 z171:=Tryz.sizeOf306
 v171:=Tryz.zeroValue306
 t173:=Tryz.underlying310
 a173:=Tryz.isAgg310
 z173:=Tryz.sizeOf310
 v173:=Tryz.zeroValue310
 t212:=Tryz.underlying338
 a212:=Tryz.isAgg338
 z212:=Tryz.sizeOf338
 v212:=Tryz.zeroValue338
 t213:=Tryz.underlying339
 a213:=Tryz.isAgg339
 z213:=Tryz.sizeOf339
 t232:=Tryz.underlying354
 a232:=Tryz.isAgg354
 z232:=Tryz.sizeOf354
 v232:=Tryz.zeroValue354
 t233:=Tryz.underlying355
 a233:=Tryz.isAgg355
 z233:=Tryz.sizeOf355
 v233:=Tryz.zeroValue355
 g17:=by kernel_rfl
 g18:=by kernel_rfl
 g19:=by kernel_rfl
 i0:=by kernel_rfl
 i2:=by kernel_rfl
 i3:=by kernel_rfl
 i4:=by kernel_rfl
 i5:=by kernel_rfl
 i9:=by kernel_rfl
 i20:=by kernel_rfl
 i37:=by kernel_rfl
 i46:=by kernel_rfl
 i51:=by kernel_rfl
 i53:=by kernel_rfl
 i171:=by kernel_rfl
 i173:=by kernel_rfl
 i212:=by kernel_rfl
 i232:=by kernel_rfl
 i233:=by kernel_rfl
 m17:=by kernel_rfl
 m18:=by kernel_rfl
 m19:=by kernel_rfl}
theorem FI(n:Int)(h0: -9223372036854775808<=n)(h1:n<=9223372036854775807)(w:World)(htab:Lib.TabIs Tryz.prog w "internal/strconv.uint64pow10" .u64 Lib.pow10Tab):
  Calls Tryz.prog 67 #[.int .i64 n] w fun e w'=>e= .returned (.string ⟨(Lib.itoa n).toArray⟩)/\∃k os,w'=grow (w.drewN k) os:=Any.strconv_Itoa TI n h0 h1 w htab
def FJ:Go.Shelf.Ren:=⟨fun|316=>27|n=>n,fun|9=>9|3=>3|4=>4|37=>75|0=>0|127=>111|5=>5|n=>n,fun|n=>n⟩
theorem TJ:Go.Proofs.LaysM.n316 Tryz.prog FJ:={
 mixed:=by kernel_rfl
 f316:=Tryz.func27.trans (congrArg some (by kernel_rfl))
 t0:=Tryz.underlying0
 a0:=Tryz.isAgg0
 z0:=Tryz.sizeOf0
 v0:=Tryz.zeroValue0
 t3:=Tryz.underlying3
 a3:=Tryz.isAgg3
 z3:=Tryz.sizeOf3
 v3:=Tryz.zeroValue3
 t4:=Tryz.underlying4
 a4:=Tryz.isAgg4
 z4:=Tryz.sizeOf4
 v4:=Tryz.zeroValue4
 t9:=Tryz.underlying9
 a9:=Tryz.isAgg9
 z9:=Tryz.sizeOf9
 v9:=Tryz.zeroValue9
 t37:=Tryz.underlying75
 a37:=Tryz.isAgg75
 z37:=Tryz.sizeOf75
 v37:=Tryz.zeroValue75
 t127:=Tryz.underlying111
 a127:=Tryz.isAgg111
 z127:=Tryz.sizeOf111
 v127:=Tryz.zeroValue111
 t5:=Tryz.underlying5
 a5:=Tryz.isAgg5
 z5:=Tryz.sizeOf5
 v5:=Tryz.zeroValue5
 i0:=by kernel_rfl
 i3:=by kernel_rfl
 i4:=by kernel_rfl
 i5:=by kernel_rfl
 i9:=by kernel_rfl
 i37:=by kernel_rfl
 i127:=by kernel_rfl}
theorem stringslite_Clone(s:ByteArray)(w:World)(hlim:s.size<=281474976710656):
  Calls Tryz.prog 27 #[.string s] w fun e w'=>e= .returned (.string s)/\Below w.heap.size w w':=Any.stringslite_Clone TJ s w hlim
end Go.Proofs.YtjphnaccgfjnjaaGreatDoor
namespace Go.Proofs.YtjphnaccgfjnjaaGreatDoor.Z
variable {w w' w1 u : World} {b o c n base k g m vn vc ln : Nat} {v : Value} {P : Program} {l ts : List Oper} {Q : Exit → Act → World → Prop} {T f : Nat → Bool} {a : Act} {cs : List Value} {x vx lx : Option Addr} {s : Sb} {ss : List Sb} {t : Int} {ps : List Po} {vs : List Vn} {ls : List (Int × Int)} {xs ys : List Int}
open Go.RowKit
structure Nxq(w:World)(R K:Act->World->Prop):Prop where
 out:∀a' w',Below w.heap.size w w'->R a' w'->K a' w'
def aBv(P:Program)(l:List Oper)(Q:Exit->Act->World->Prop)(w:World)(ts:List Oper):List Oper->Act->World->Prop
 |[],a,w'=>wpList P l.toArray Q ts a w'
 |c::cs,a,w'=>∀K,Nxq w (aBv P l Q w ts cs) K->wpList P l.toArray (mY K Q) [c] a w'
def ME(ops:Array Oper):List Nat->Array Bool->Bool
 |[],_=>true
 |i::is,listed=>decide (Region.ready .any ops listed=[i])&&ME ops is (listed.setIfInBounds i true)
theorem WK(ts:List Nat)(hts:∀i∈ts,i<l.length/\qX ts i=false):∀(cs:List Nat) (listed:Array Bool) (a:Act) (w':World),(∀i∈cs,i<l.length)->ME l.toArray cs listed=true->
  xE l.toArray ts (iU cs listed)=true->aBv P l Q w (ts.map fun i=>l.getD i lK) (cs.map fun i=>l.getD i lK) a w'->qE P l.toArray Q (fun w'=>∃u:Ws w.heap.size w,w'=u.val) (qX ts) (cs.length+ts.length) listed a w'
 |[],listed,a,w',_,_,hs,h=>by
  rw[List.length_nil,Nat.zero_add];exact bB ts _ _ _ hts hs h
 |i::cs,listed,a,w',hc,ho,hs,h=>by
  simp only[ME,zH,decide_eq_true_eq]at ho;rw[List.length_cons,show cs.length+1+ts.length=(cs.length+ts.length)+1 by omega];refine⟨fun e=>(by rw[ho.1]at e;cases e),fun j hj=>?_⟩;rw[ho.1]at hj;obtain rfl:j=i:=by simpa using hj
  refine eJ (hc j (by simp)) (h _ ⟨fun a2 w2 hb2 g2=>⟨fun _=>⟨⟨w2,hb2⟩,rfl⟩,?_⟩⟩);exact WK ts hts cs _ a2 w2 (fun k hk=>hc k (by simp[hk])) ho.2 hs g2
def aDz(l:List Oper)(fs hs cs ts:List Nat):Bool:=
 Region.noSelect l.toArray&&wE l.toArray (Array.replicate l.toArray.size false)&&sE l.toArray fs (Array.replicate l.toArray.size false)&&(fs.all fun i=>decide (i<l.length)&&NA (l.getD i lK)&&qX ts i)&&
 wE l.toArray (iU fs (Array.replicate l.toArray.size false))&&sE l.toArray hs (iU fs (Array.replicate l.toArray.size false))&&(hs.all fun i=>decide (i<l.length)&&NA (l.getD i lK)&&qX ts i&&(List.range l.toArray.size).all fun j=>qX ts j||lB l.toArray l.toArray.size j i)&&
 (cs.all fun i=>decide (i<l.length))&&ME l.toArray cs (iU hs (iU fs (Array.replicate l.toArray.size false)))&&xE l.toArray ts (iU cs (iU hs (iU fs (Array.replicate l.toArray.size false))))&&(ts.all fun i=>decide (i<l.length)&&!(qX ts i))&&
 decide (fs.length+(hs.length+(cs.length+ts.length))=l.toArray.size)
end Go.Proofs.YtjphnaccgfjnjaaGreatDoor.Z
namespace Go.Proofs.YtjphnaccgfjnjaaGreatDoor
variable {w w' w1 u : World} {b o c n base k g m vn vc ln : Nat} {v : Value} {P : Program} {l ts : List Oper} {Q : Exit → Act → World → Prop} {T f : Nat → Bool} {a : Act} {cs : List Value} {x vx lx : Option Addr} {s : Sb} {ss : List Sb} {t : Int} {ps : List Po} {vs : List Vn} {ls : List (Int × Int)} {xs ys : List Int}
open Go.RowKit
theorem IC:∀(fs:List Nat) {listed:Array Bool},Z.KJ T listed->(∀i∈fs,T i=true)->Z.KJ T (iU fs listed)
 |[],_,h,_=>h
 |i::fs,_,h,g=>IC fs (h.set (g i (by simp))) (fun k hk=>g k (by simp[hk]))
theorem bK{id:Nat}(fs hs cs ts:List Nat)(hm:P.follows .mixedOrders=true)(hB:Z.aDz l fs hs cs ts=true)(hQ:∀d v c a w,Q (.panic c) (Act.put a d v) w->Q (.panic c) a w)
 (h:wpQuiet P l.toArray (fun w'=>∃u:Z.Wx,w'=u.val) (fun a1=>wpQuiet P l.toArray (fun w'=>∃u:Ws w.heap.size w,w'=u.val) (fun a'=>Z.aBv P l Q w (ts.map fun i=>l.getD i lK) (cs.map fun i=>l.getD i lK) a' w.drew) (hs.map fun i=>l.getD i lK) a1) (fs.map fun i=>l.getD i lK) a):(Code.region id l.toArray true).wp P Q a w:=by
 simp only[Z.aDz,zH,decide_eq_true_eq,List.all_eq_true,Bool.not_eq_true']at hB;obtain⟨⟨⟨⟨⟨⟨⟨⟨⟨⟨⟨h1,h2⟩,h3⟩,h4⟩,h5⟩,h6⟩,h7⟩,h8⟩,h9⟩,h10⟩,h11⟩,h13⟩:=hB;refine wp_region_any hm (Z.pH (S:=fun w'=>∃u:Ws w.heap.size w,w'=u.val) (T:=Z.qX ts) _ _ _ _ ?_);have hok:Z.KJ (Z.qX ts) (Array.replicate l.toArray.size false):=fun j hj=>by
  rw[Array.getD_eq_getD_getElem?,Array.getElem?_replicate]at hj;split at hj<;>cases hj
 have key:∀f,f=fs.length+(hs.length+(cs.length+ts.length))->Z.qE P l.toArray Q (fun w'=>∃u:Ws w.heap.size w,w'=u.val) (Z.qX ts) f (Array.replicate l.toArray.size false) a w.drew:=?_
 ·exact key _ h13.symm
 intro f hf;subst hf;refine Z.xU (C:=fun w'=>∃u:Z.Wx,w'=u.val) h1 hQ _ ⟨⟨_,(zD).drew⟩,rfl⟩ fs _ _ (fun i hi=>?_) (gK h2) (.inl hok) h3 rfl ?_
 ·obtain⟨⟨g1,g2⟩,g3⟩:=h4 i hi;exact⟨g1,g2,g3, .inl Z.Wx.any⟩
 refine Z.fM (fun a1 g=>?_) _ _ h;refine Z.xU (C:=fun w'=>∃u:Ws w.heap.size w,w'=u.val) h1 hQ _ ⟨⟨_,(zD).drew⟩,rfl⟩ hs _ _ (fun i hi=>?_) (gK h5) (.inl (IC fs hok fun i hi=>(h4 i hi).2)) h6 rfl ?_
 ·obtain⟨⟨⟨g1,g2⟩,g3⟩,g4⟩:=h7 i hi;refine⟨g1,g2,g3, .inr ⟨fun _ g=>g,fun j hj hjs=>?_⟩⟩;have:=g4 j (List.mem_range.2 hjs);rw[hj,Bool.false_or]at this;exact this
 exact Z.fM (fun a' g'=>Z.WK ts h11 cs _ _ _ h8 h9 h10 g') _ _ g
theorem aU{cs:List Oper}{c:Oper}(h:∀K,Z.Nxq w (Z.aBv P l Q w ts cs) K->wpList P l.toArray (mY K Q) [c] a w'):Z.aBv P l Q w ts (c::cs) a w':=h
theorem dY(h:wpList P l.toArray Q ts a w'):Z.aBv P l Q w ts [] a w':=h
open Go.RowKit Go.Shelf
structure BN(w:World):Prop where
 tab:Lib.TabIs Tryz.prog w "internal/strconv.uint64pow10" .u64 Lib.pow10Tab
 size:4<=w.heap.size
theorem aBw:Tryz.prog.globalNamed "internal/strconv.uint64pow10" =some 1:=by kernel_rfl
theorem BN.below(h:BN w){n:Nat}(hn:4<=n)(hb:Below n w w'):BN w' where
 tab:=var?_below hb aBw (by omega) h.tab
 size:=Nat.le_trans h.size hb.size
theorem BN.later(h:BN w)(hb:Below w.heap.size w w'):BN w':=h.below h.size hb
def cC(n:Int):ByteArray:=⟨(Lib.decDigits n.toNat).toArray⟩
def MF(a l:Int):List UInt8:=Lib.decDigits (a/256).toNat++[46]++Lib.decDigits (a%256).toNat++[47]++Lib.decDigits l.toNat
def A6(a l:Int):ByteArray:=⟨(MF a l).toArray⟩
theorem A7:∀(m n:Nat),n<=m->(Lib.decDigits n).length<=n+1
 |m,n,h=>by
  rw[Lib.decDigits];split
  ·simp
  ·rename_i c
   cases m with
   |zero=>omega
   |succ m=>
    have:=A7 m (n/10) (by omega)
    simp
    omega
theorem qB(n:Int):(cC n).size<=n.toNat+1:=by
 have:=A7 _ n.toNat (zE);simpa[cC,ByteArray.size]using this
theorem itoa_any(n:Int)(w:World)(h:BN w)(h0:0<=n)(h1:n<=2147483647):
  Calls Tryz.prog 67 #[.int .i64 n] w fun e w'=>e= .returned (.string (cC n))/\Below w.heap.size w w':=by
 refine(FI n (by omega) (by omega) w h.tab).mono ?_;rintro e w' ⟨rfl,k,os,rfl⟩;refine⟨?_,rfl,rfl,rfl,?_,fun j hj=>?_⟩
 ·unfold Lib.itoa cC;rw[if_neg (by omega)]
 ·show w.heap.size<=(w.heap++os).size;simp
 ·show(w.heap++os)[j]?=w.heap[j]?;rw[Array.getElem?_append_left hj]
theorem bY(n:Int)(w:World)(hE:BN w)(h0:0<=n)(h1:n<=2147483647):
  Calls Tryz.prog 35 #[.int .i64 n] w fun e w'=>e= .returned (.string (cC n))/\Below w.heap.size w w':=by
 go_enter Tryz.func35,Tryz.ntmps35;go_wp2_with (go_at_call 67;refine(itoa_any n _ hE h0 h1).mono ?_;rintro e w1 ⟨rfl,hb1⟩);go_ret;exact⟨rfl,hb1⟩
theorem K3(n:Int):bits .and .i64 n 255=n%256:=by
 have h255:(BitVec.ofInt 64 255).toNat=2^8- 1:=by decide
 have key:(BitVec.ofInt 64 n&&&BitVec.ofInt 64 255).toNat=(n%((2^64:Nat):Int)).toNat%2^8:=by
  rw[BitVec.toNat_and,BitVec.toNat_ofInt,h255,Nat.and_two_pow_sub_one_eq_mod]
 show IntKind.i64.wrap ((BitVec.ofInt 64 n&&&BitVec.ofInt 64 255).toNat:Nat)=n%256;rw[key,IntKind.wrap_i64];omega
theorem PA(x y z:List UInt8):(ByteArray.mk x.toArray++ByteArray.mk #[46]++ByteArray.mk y.toArray++ByteArray.mk #[47]++ByteArray.mk z.toArray)=ByteArray.mk (x++[46]++y++[47]++z).toArray:=by
 have h1:ByteArray.mk #[46]=ByteArray.mk ([46]:List UInt8).toArray:=rfl;have h2:ByteArray.mk #[47]=ByteArray.mk ([47]:List UInt8).toArray:=rfl;rw[h1,h2];simp only[ByteArray.mk_append_mk]
theorem ID{a b:ByteArray}{n:Int}(h:a=b):Ending.returned (.tuple #[.string a, .int .i64 n])= .returned (.tuple #[.string b, .int .i64 n]):=by rw[h]
theorem show_ok(a l:Int)(w:World)(hE:BN w)(h:rt a l=true):
  Calls Tryz.prog 136 #[.agg #[.int .i64 a, .int .i64 l]] w fun e w'=>e= .returned (.tuple #[.string (A6 a l), .int .i64 0])/\Below w.heap.size w w':=by
 have hc0:tW a l=0:=by simpa[rt]using h
 have hb2:(tW a l !=0)=false:=by simp[hc0]
 clear hc0;obtain⟨l0,l1,a0,a1, -⟩:=bE h;have hbit:=K3 a;have k1:=qB (a/256);have k2:=qB (a%256);have k3:=qB l;have k4:(a/256).toNat<=1000/\(a%256).toNat<=1000/\l.toNat<=1000:=by omega
 go_enter Tryz.func136,Tryz.ntmps136;go_wp2_with (go_at_call 82;refine(check_any a l _).mono ?_;rintro e w1 ⟨rfl,hb1⟩);have e0:w1.cell? ⟨w.heap.size,0,none⟩=some (.int .i64 a):=(hb1.cell (p:=⟨w.heap.size,0,none⟩) (by simp)).trans (by simp);have e1:w1.cell? ⟨w.heap.size,1,none⟩=some (.int .i64 l):=(hb1.cell (p:=⟨w.heap.size,1,none⟩) (by simp)).trans (by simp);have hz:=hb1.size;simp only[World.size_alloc]at hz;have hB:Below w.heap.size w w1:=(bl1 _ _).trans (hb1.mono (by simp));have hE1:BN w1:=hE.below hE.size hB;have d0:=Ws.cell (n:=w.heap.size+1) (w:=w1) (by omega) e0;have d1:=Ws.cell (n:=w.heap.size+1) (w:=w1) (by omega) e1;have hEu:∀u:Ws (w.heap.size+1) w1,BN u.val:=fun u=>hE1.below (by have:=hE.size;omega) u.property;clear hb1 e0 e1;refine aH (w.heap.size+1) (by kernel_rfl) (by kernel_rfl) ?_;repeat(go_big_quiet_step ((go_at_call 67;exact Calls.in_ws (by omega) (itoa_any _ _ (hEu _) (by omega) (by omega)))))
 refine wpQuiet_nil ?_;rintro _ ⟨u,rfl⟩;have hu:=hB.trans (u.property.mono (Nat.le_succ _));go_wp2;go_ret2;exact⟨ID (PA _ _ _),hu⟩
theorem jJ(a l:Int)(w:World)(hE:BN w)(h:rt a l=true):
  Calls Tryz.prog 68 #[.agg #[.int .i64 a, .int .i64 l]] w fun e w'=>e= .returned (.string (A6 a l))/\Below w.heap.size w w':=by
 go_enter Tryz.func68,Tryz.ntmps68;go_wp2_with (go_at_call 136;refine(show_ok a l _ (hE.later (bl1 _ _)) h).mono ?_;rintro e w1 ⟨rfl,hb1⟩);go_ret;exact⟨rfl,(bl1 _ _).trans (hb1.mono (by simp))⟩
theorem aBx:Ty 9 67 1 (.string ⟨#[]⟩) 16:=sF (by kernel_rfl) (by kernel_rfl) rfl (fun u hu=>by simp[Value.cells]at hu;rw[hu];rfl) (by decide) (by decide)
def A8(ws:List ByteArray):ByteArray:=⟨(Lib.join (ws.map (·.data.toList)) [32]).toArray⟩++⟨#[10]⟩
structure B8(w:World)(base b:Nat)(v:Value)(L:List ByteArray):Prop where
 box:w.heap[b]?=some (.cells #[v] 71)
 row:w.ownsRow base 9 1 v L.length (L.map Value.string)
 low:base<=b
 sz:∀x∈L,x.size<=21474836491
theorem B8.later{L:List ByteArray}(h:B8 w base b v L)(hb:Below w.heap.size w w'):B8 w' base b v L:=⟨aA hb h.box,eG h.row hb,h.low,h.sz⟩
theorem MG{ty:Nat}(h:w.ownsRow base ty k v n cs):∀j,v.ownBlock=some j->base<=j:=by
 rcases h.2 with ⟨hv, -⟩|⟨g,cap,cur,hv,h1, -⟩
 ·rw[hv];intro j h;cases h
 ·rw[hv];intro j h;cases h;exact h1
structure kK(base b:Nat)(w w':World):Prop where
 below:Below base w w'
 box:∀k cs ty,k≠b->ty≠9->w.heap[k]?=some (.cells cs ty)->w'.heap[k]?=some (.cells cs ty)
theorem kK.of(h:Below w.heap.size w w')(hb:base<=w.heap.size):kK base b w w':=⟨h.mono hb,fun _ _ _ _ _ hk=>aA h hk⟩
theorem kK.trans{w'':World}(h:kK base b w w')(g:kK base b w' w''):kK base b w w'':=⟨h.below.trans g.below,fun k cs ty h1 h2 hk=>g.box k cs ty h1 h2 (h.box k cs ty h1 h2 hk)⟩
theorem kK.grown(h:w.ownsRow base 9 k v n cs)(hg:w.grownBy w' v.ownBlock)(hb:base<=w.heap.size):kK base b w w':=
 ⟨⟨hg.os,hg.tape,hg.output,hg.size,fun k hk=>hg.block k (by omega) fun e=>by have:=MG h _ e.symm;omega⟩,fun k cs ty _ h2 hk=>AM hg (jP h hk h2) hk⟩
theorem kK.set(h:kK base b w w')(hb:base<=b):kK base b w (w'.setCell ⟨b,o,none⟩ v):=
 ⟨h.below.setCell (p:=⟨b,o,none⟩) hb v,fun k cs ty h1 h2 hk=>(zB h1).trans (h.box k cs ty h1 h2 hk)⟩
def mT(base b:Nat)(L:List ByteArray)(w:World)(e:Ending)(w':World):Prop:=e= .returned (.tuple #[])/\(∃v,B8 w' base b v L)/\kK base b w w'
theorem IE(base b bk c:Nat)(v:Value)(L ws:List ByteArray)(w:World)(hP:B8 w base b v L)(hc:∀(j:Nat) x,ws[j]?=some x->w.cell? ⟨bk,0+j,none⟩=some (.string x))(hbk:bk<w.heap.size)(hn:ws.length<=c)(hw:ws.length<=100000)
 (hlen:(Lib.join (ws.map (·.data.toList)) [32]).length<=21474836490)(hL:L.length<=100000)(hbase:base<=w.heap.size):
  Calls Tryz.prog 34 #[.pointer (some ⟨b,0,none⟩), .slice (some ⟨bk,0,none⟩) ws.length c] w (mT base b (L++[A8 ws]) w):=by
 have hsz:(ByteArray.mk (Lib.join (ws.map (·.data.toList)) [32]).toArray).size<=21474836490:=by simpa[ByteArray.size]using hlen
 have hjoin:=fun W (hW:Below w.heap.size w W)=>tR bk 0 c ws ⟨#[32]⟩ W (fun j x hx=>cell_later hW (hc j x hx)) (by have:=hW.size;omega) (by omega) hn (by have:=hlen;simp only[]at this⊢;omega);obtain⟨J,hJ⟩:∃J,Hid (J=ByteArray.mk (Lib.join (ws.map (·.data.toList)) [32]).toArray):=⟨_,rfl⟩;have hl:Hid (A8 ws=J++⟨#[10]⟩):=by unfold Hid;rw[hJ.out];rfl
 simp only[]at hjoin;rw[<-hJ.out]at hsz;simp only[<-hJ.out]at hjoin;clear hJ hlen hc;go_enter Tryz.func34,Tryz.ntmps34;have s0:=Ws.here (aP hP.box 0 rfl);refine bK [0,1,2,3,5] [4] [6,7,8] [9,10,11,12] (by kernel_rfl) (by kernel_rfl) (fun d _ _ _ _ h=>by cases d<;>exact h) ?_;simp only[zK,zM,zI,zJ];repeat(go_big_quiet_step (fail))
 refine wpQuiet_nil ?_;repeat(go_big_quiet_step (fail))
 refine wpQuiet_nil ?_;clear s0;refine aU fun K hK=>?_;go_wp2_with fail;refine(hjoin w.drew (zD).drew).mono ?_;rintro e w1 ⟨rfl,hb1⟩;have hB1:Below w.heap.size w w1:=(zD).drew.trans (hb1.mono (zE));go_wp2_with fail;refine aD (hK.out _ _ hB1 ?_);clear hK K hb1 hjoin;refine aU fun K hK=>?_;go_wp2_with fail;refine aD (hK.out _ _ hB1 ?_);clear hK K;refine aU fun K hK=>?_;go_wp2_with fail;obtain⟨w2,hw2⟩:∃w2,w2=w1.alloc (.cells #[.string (J++⟨#[10]⟩)] 9):=⟨_,rfl⟩;rw[<-hw2];have hb2:Below w1.heap.size w1 w2:=hw2▸bl1 _ _;have hB2:Below w.heap.size w w2:=hB1.trans (hb2.mono hB1.size);have hq:w2.heap[w1.heap.size]?=some (.cells #[.string (J++⟨#[10]⟩)] 9):=hw2▸aB _ rfl;clear hw2;refine aD (hK.out _ _ hB2 ?_);clear hK K;refine dY ?_;have hP2:=(hP.later hB1).later hb2;refine eM aBx (ds:=[.string (J++⟨#[10]⟩)]) rfl _ _ rfl base v rfl hP2.row ⟨w1.heap.size,0,none⟩ 1 1 rfl ⟨rfl,fun _=>by simp,fun u hu=>by simp at hu;rw[hu];rfl,fun ad had j u hu=>?_⟩ (by omega) (Nat.le_trans hbase hB2.size) fun v' w' hO hg=>?_
 ·cases had
  cases j with
  |zero=>simp at hu;subst hu;exact(aC hq).1 0
  |succ j=>simp at hu
 have hT:kK base b w w':=(kK.of hB2 hbase).trans (kK.grown hP2.row hg (Nat.le_trans hbase hB2.size));have hbx:=AM hg (jP hP2.row hP2.box (by decide)) hP2.box;clear hg hq hb2 hP2;obtain⟨x',c',rfl, -⟩:=kP hO;have c0:=(aC hbx).1 0;have z0:=(aC hbx).2 0;simp only[List.getElem?_toArray,List.getElem?_cons_zero]at c0;go_wp2;refine bodyPost_end (results_none Tryz.results34 _ _ _) rfl ?_;refine⟨rfl,⟨.slice x' (L.length+1) c',?_,?_,hP.low,fun x hx=>?_⟩,hT.set hP.low⟩
 ·exact zC hbx
 ·rw[hl.out,List.length_append,List.map_append];exact fN hO (aI _ _ _ _) fun k hk e=>jP hO hbx (by decide) (e▸hk)
 ·rcases List.mem_append.1 hx with hx|hx
  ·exact hP.sz x hx
  ·obtain rfl:x=A8 ws:=by simpa using hx
   rw[hl.out,ByteArray.size_append];exact Nat.add_le_add hsz (Nat.le_refl 1)
def Wok(ws:List ByteArray):Prop:=ws.length<=10/\∀x∈ws,x.size<=2147483648
theorem IF:∀(ws:List ByteArray),(∀x∈ws,x.size<=2147483648)->(Lib.join (ws.map (·.data.toList)) [32]).length<=ws.length*2147483649
 |[],_=>by simp[Lib.join_nil]
 |x::ws,h=>by
  rw[zK,Lib.join_cons,List.length_append];have h1:x.data.toList.length<=2147483648:=by have:=h x (List.mem_cons_self ..);exact Nat.le_trans (Nat.le_of_eq Array.length_toList) this
  have h2:∀(ys:List ByteArray),(∀x∈ys,x.size<=2147483648)->(Lib.joinTail [32] (ys.map (·.data.toList))).length<=ys.length*2147483649:=by
   intro ys;induction ys with
   |nil=>intro _;simp[Lib.joinTail]
   |cons y ys ih=>
    intro hy
    have h3:=ih fun x hx=>hy x (by simp[hx])
    have h4:y.data.toList.length<=2147483648:=by have:=hy y (List.mem_cons_self ..);exact Nat.le_trans (Nat.le_of_eq Array.length_toList) this
    simp only[Lib.joinTail,zK,List.flatten_cons,List.length_append,List.length_cons,List.length_nil]at h3⊢
    omega
  have h5:=h2 ws fun x hx=>h x (by simp[hx]);simp only[List.length_cons];omega
theorem jB{bk:Nat}{L ws:List ByteArray}(hP:B8 w base b v L)(hB:Below w.heap.size w w1)(hq:w1.heap[bk]?=some (.cells (ws.map Value.string).toArray 9))(hw:Wok ws)(hn:ws.length=n)(hL:L.length<=100000)(hbase:base<=w.heap.size):
  Calls Tryz.prog 34 #[.pointer (some ⟨b,0,none⟩), .slice (some ⟨bk,0,none⟩) n n] w1 (mT base b (L++[A8 ws]) w):=by
 subst hn;have h1:=IF ws hw.2;have h2:=hw.1;refine(IE base b bk _ v L ws w1 (hP.later hB) (fun j x hx=>?_) (zG hq) (zE) (by omega) (by omega) hL (Nat.le_trans hbase hB.size)).mono fun e w2 ⟨h3,h4,h5⟩=>⟨h3,h4,(kK.of hB hbase).trans h5⟩;rw[Nat.zero_add,(aC hq).1 j];simp[hx]
def num(n:Int):Prop:=0<=n/\n<=2147483647
theorem num.ok{n:Int}(h:num n):(cC n).size<=2147483648:=by
 have:=qB n;have:=h.1;have:=h.2;omega
theorem DO{a l:Int}(h:rt a l=true):(A6 a l).size<=2147483648:=by
 obtain⟨l0,l1,a0,a1, -⟩:=bE h;have k1:=A7 _ (a/256).toNat (zE);have k2:=A7 _ (a%256).toNat (zE);have k3:=A7 _ l.toNat (zE);have e:(A6 a l).size=(MF a l).length:=by simp[A6,ByteArray.size]
 rw[e];simp only[MF,List.length_append,List.length_cons,List.length_nil];omega
def K4(e:Le):ByteArray:=if e.kd=1 then A8 [⟨#[117,115,101,114]⟩,cC e.ow,A6 e.a e.l]else if e.kd=2 then A8 [⟨#[110,101,115,116]⟩,cC e.ow,A6 e.a e.l]else A8 [⟨#[99,111,111,108]⟩,cC e.un,A6 e.a e.l]
theorem PB{x y z:ByteArray}(hx:x.size<=2147483648)(hy:y.size<=2147483648)(hz:z.size<=2147483648):Wok [x,y,z]:=⟨by simp,fun u hu=>by simp at hu;rcases hu with rfl|rfl|rfl<;>assumption⟩
theorem PC(base b:Nat)(v:Value)(L:List ByteArray)(e:Le)(w:World)(hP:B8 w base b v L)(hE:BN w)(hL:L.length<=100000)(hbase:base<=w.heap.size)(hr:rt e.a e.l=true)(ho:num e.ow)(hu:num e.un):
  Calls Tryz.prog 69 #[.pointer (some ⟨b,0,none⟩),YE e] w (mT base b (L++[K4 e]) w):=by
 go_enter Tryz.func69,Tryz.ntmps69;go_upto_region 1 with fail
 obtain⟨w0,hw0⟩:∃w0,w0=w.alloc (.cells (cL e).toArray 87):=⟨_,rfl⟩;have hw0':w0=w.alloc (.cells #[.int .i64 e.a, .int .i64 e.l, .int .i64 e.kd, .int .i64 e.ow, .int .i64 e.un] 87):=hw0;rw[<-hw0'];have hB0:Below w.heap.size w w0:=by rw[hw0];exact bl1 w _
 have hq0:w0.heap[w.heap.size]?=some (.cells #[.int .i64 e.a, .int .i64 e.l, .int .i64 e.kd, .int .i64 e.ow, .int .i64 e.un] 87):=by rw[hw0'];exact aB _ rfl
 clear hw0 hw0';have c2:=aP hq0 2 rfl;by_cases h1:e.kd=1
 ·skip;go_upto_region 4 with fail
  have hl:Hid (K4 e=A8 [⟨#[117,115,101,114]⟩,cC e.ow,A6 e.a e.l]):=by unfold Hid K4;rw[if_pos h1]
  have s0:=Ws.here (aP hq0 0 rfl);have s1:=Ws.here (aP hq0 1 rfl);have s3:=Ws.here (aP hq0 3 rfl);refine bK [0,1,2,3,6] [4,7] [5,8,9] [10] (by kernel_rfl) (by kernel_rfl) (fun d _ _ _ _ h=>by cases d<;>exact h) ?_;simp only[zK,zM,zI,zJ];repeat(go_big_quiet_step (fail))
  refine wpQuiet_nil ?_;repeat(go_big_quiet_step (fail))
  refine wpQuiet_nil ?_;have hBd:Below w0.heap.size w0 w0.drew:=(zD).drew;refine aU fun K hK=>?_;go_wp2_with fail;refine(bY e.ow _ ((hE.later hB0).later hBd) ho.1 ho.2).mono ?_;rintro _ y0 ⟨rfl,hb⟩;have hC0:Below w0.heap.size w0 y0:=hBd.trans (hb.mono hBd.size);go_wp2_with fail;refine aD (hK.out _ _ hC0 ?_);clear hK K hb hBd;refine aU fun K hK=>?_;go_wp2_with fail;refine(jJ e.a e.l _ ((hE.later hB0).later hC0) hr).mono ?_;rintro _ y1 ⟨rfl,hb⟩;have hC1:Below w0.heap.size w0 y1:=hC0.trans (hb.mono hC0.size);go_wp2_with fail;refine aD (hK.out _ _ hC1 ?_);clear hK K hb hC0;refine aU fun K hK=>?_;go_wp2_with fail;refine aD (hK.out _ _ (hC1.trans ((bl1 _ _).mono hC1.size)) ?_);clear hK K;refine dY ?_;clear s0 s1 s3;go_wp2_with fail;refine(jB (ws:=[⟨#[117,115,101,114]⟩,cC e.ow,A6 e.a e.l]) hP (hB0.trans ((hC1.trans ((bl1 _ _).mono hC1.size)).mono hB0.size)) (aB _ rfl) (PB (by decide) ho.ok (DO hr)) rfl hL hbase).mono ?_;rintro _ z ⟨rfl,hz,hT⟩;go_wp2;refine bodyPost_end (results_none Tryz.results69 _ _ _) rfl ?_;rw[hl.out];exact⟨rfl,hz,hT⟩
 by_cases h2:e.kd=2
 ·skip;go_upto_region 6 with fail
  have hl:Hid (K4 e=A8 [⟨#[110,101,115,116]⟩,cC e.ow,A6 e.a e.l]):=by unfold Hid K4;rw[if_neg h1,if_pos h2]
  have s0:=Ws.here (aP hq0 0 rfl);have s1:=Ws.here (aP hq0 1 rfl);have s3:=Ws.here (aP hq0 3 rfl);refine bK [0,1,2,3,6] [4,7] [5,8,9] [10] (by kernel_rfl) (by kernel_rfl) (fun d _ _ _ _ h=>by cases d<;>exact h) ?_;simp only[zK,zM,zI,zJ];repeat(go_big_quiet_step (fail))
  refine wpQuiet_nil ?_;repeat(go_big_quiet_step (fail))
  refine wpQuiet_nil ?_;have hBd:Below w0.heap.size w0 w0.drew:=(zD).drew;refine aU fun K hK=>?_;go_wp2_with fail;refine(bY e.ow _ ((hE.later hB0).later hBd) ho.1 ho.2).mono ?_;rintro _ y0 ⟨rfl,hb⟩;have hC0:Below w0.heap.size w0 y0:=hBd.trans (hb.mono hBd.size);go_wp2_with fail;refine aD (hK.out _ _ hC0 ?_);clear hK K hb hBd;refine aU fun K hK=>?_;go_wp2_with fail;refine(jJ e.a e.l _ ((hE.later hB0).later hC0) hr).mono ?_;rintro _ y1 ⟨rfl,hb⟩;have hC1:Below w0.heap.size w0 y1:=hC0.trans (hb.mono hC0.size);go_wp2_with fail;refine aD (hK.out _ _ hC1 ?_);clear hK K hb hC0;refine aU fun K hK=>?_;go_wp2_with fail;refine aD (hK.out _ _ (hC1.trans ((bl1 _ _).mono hC1.size)) ?_);clear hK K;refine dY ?_;clear s0 s1 s3;go_wp2_with fail;refine(jB (ws:=[⟨#[110,101,115,116]⟩,cC e.ow,A6 e.a e.l]) hP (hB0.trans ((hC1.trans ((bl1 _ _).mono hC1.size)).mono hB0.size)) (aB _ rfl) (PB (by decide) ho.ok (DO hr)) rfl hL hbase).mono ?_;rintro _ z ⟨rfl,hz,hT⟩;go_wp2;refine bodyPost_end (results_none Tryz.results69 _ _ _) rfl ?_;rw[hl.out];exact⟨rfl,hz,hT⟩
 go_upto_region 2 with fail
 have hl:Hid (K4 e=A8 [⟨#[99,111,111,108]⟩,cC e.un,A6 e.a e.l]):=by unfold Hid K4;rw[if_neg h1,if_neg h2]
 have s0:=Ws.here (aP hq0 0 rfl);have s1:=Ws.here (aP hq0 1 rfl);have s3:=Ws.here (aP hq0 4 rfl);refine bK [0,1,2,3,6] [4,7] [5,8,9] [10] (by kernel_rfl) (by kernel_rfl) (fun d _ _ _ _ h=>by cases d<;>exact h) ?_;simp only[zK,zM,zI,zJ];repeat(go_big_quiet_step (fail))
 refine wpQuiet_nil ?_;repeat(go_big_quiet_step (fail))
 refine wpQuiet_nil ?_;have hBd:Below w0.heap.size w0 w0.drew:=(zD).drew;refine aU fun K hK=>?_;go_wp2_with fail;refine(bY e.un _ ((hE.later hB0).later hBd) hu.1 hu.2).mono ?_;rintro _ y0 ⟨rfl,hb⟩;have hC0:Below w0.heap.size w0 y0:=hBd.trans (hb.mono hBd.size);go_wp2_with fail;refine aD (hK.out _ _ hC0 ?_);clear hK K hb hBd;refine aU fun K hK=>?_;go_wp2_with fail;refine(jJ e.a e.l _ ((hE.later hB0).later hC0) hr).mono ?_;rintro _ y1 ⟨rfl,hb⟩;have hC1:Below w0.heap.size w0 y1:=hC0.trans (hb.mono hC0.size);go_wp2_with fail;refine aD (hK.out _ _ hC1 ?_);clear hK K hb hC0;refine aU fun K hK=>?_;go_wp2_with fail;refine aD (hK.out _ _ (hC1.trans ((bl1 _ _).mono hC1.size)) ?_);clear hK K;refine dY ?_;clear s0 s1 s3;go_wp2_with fail;refine(jB (ws:=[⟨#[99,111,111,108]⟩,cC e.un,A6 e.a e.l]) hP (hB0.trans ((hC1.trans ((bl1 _ _).mono hC1.size)).mono hB0.size)) (aB _ rfl) (PB (by decide) hu.ok (DO hr)) rfl hL hbase).mono ?_;rintro _ z ⟨rfl,hz,hT⟩;go_wp2;refine bodyPost_end (results_none Tryz.results69 _ _ _) rfl ?_;rw[hl.out];exact⟨rfl,hz,hT⟩
def leW(e:Le):Prop:=rt e.a e.l=true/\num e.ow/\num e.un
def PD(p:Po):List ByteArray:=A8 [⟨#[112,111,111,108]⟩,cC p.id,⟨#[117,112]⟩,cC p.up,A6 p.a p.l]::p.ls.map K4
structure poW(u:World)(p:Po):Prop where
 ls:LS u p.x p.n p.ls
 n:p.n<=64
 rt:rt p.a p.l=true
 id:num p.id
 up:num p.up
 le:∀e∈p.ls,leW e
theorem pC{E F:Type}(f:E->F)(d:E){l:List E}{k:Nat}(h:k<l.length):(l.take (k+1)).map f=(l.take k).map f++[f (l.getD k d)]:=by
 rw[List.take_add_one,List.map_append,zF,List.getElem?_eq_getElem h];rfl
theorem vO{E F:Type}(f:E->List F)(d:E){l:List E}{k:Nat}(h:k<l.length):(l.take (k+1)).flatMap f=(l.take k).flatMap f++f (l.getD k d):=by
 rw[List.take_add_one,List.flatMap_append,zF,List.getElem?_eq_getElem h];simp
theorem kX{E F:Type}(f:E->List F){m:Nat}:∀l:List E,(∀e∈l,(f e).length<=m)->(l.flatMap f).length<=l.length*m
 |[],_=>by simp
 |e::l,h=>by
  have h1:=kX f l fun x hx=>h x (by simp[hx]);have h2:=h e (by simp);rw[List.flatMap_cons,List.length_append,List.length_cons,Nat.add_mul];omega
theorem aBy{x y:ByteArray}(hx:x.size<=2147483648)(hy:y.size<=2147483648):Wok [x,y]:=⟨by simp,fun u hu=>by simp at hu;rcases hu with rfl|rfl<;>assumption⟩
theorem PE(u:World)(b:Nat)(v:Value)(L:List ByteArray)(p:Po)(w:World)(hu:Below u.heap.size u w)(hP:B8 w u.heap.size b v L)(hE:BN u)(hL:L.length<=50000)(hp:poW u p):
  Calls Tryz.prog 36 #[.pointer (some ⟨b,0,none⟩),poV p] w (mT u.heap.size b (L++PD p) w):=by
 have hbase:=hu.size;have hEw:=hE.later hu;have hbl:b<w.heap.size:=(zG hP.box);go_enter Tryz.func36,Tryz.ntmps36;go_upto_region 1 with fail
 obtain⟨w0,hw0⟩:∃w0,w0=w.alloc (CP p):=⟨_,rfl⟩;have hB0:Below w.heap.size w w0:=by rw[hw0];exact bl1 w _
 have hq0:w0.heap[w.heap.size]?=some (CP p):=by rw[hw0];exact aB _ rfl
 rw[<-hw0];clear hw0;have hP0:=hP.later hB0;have hE0:=hEw.later hB0;have s0:=Ws.here (aP hq0 0 rfl);have s1:=Ws.here (aP hq0 1 rfl);have s2:=Ws.here (aP hq0 2 rfl);have s3:=Ws.here (aP hq0 3 rfl);refine bK [0,1,2,3,6,9] [4,7,10] [5,8,11,12] [13] (by kernel_rfl) (by kernel_rfl) (fun d _ _ _ _ h=>by cases d<;>exact h) ?_;simp only[zK,zM,zI,zJ];repeat(go_big_quiet_step (fail))
 refine wpQuiet_nil ?_;repeat(go_big_quiet_step (fail))
 refine wpQuiet_nil ?_;have hBd:Below w0.heap.size w0 w0.drew:=(zD).drew;refine aU fun K hK=>?_;go_wp2_with fail;refine(bY p.id _ (hE0.later hBd) hp.id.1 hp.id.2).mono ?_;rintro _ y0 ⟨rfl,hb⟩;have hC0:Below w0.heap.size w0 y0:=hBd.trans (hb.mono hBd.size);go_wp2_with fail;refine aD (hK.out _ _ hC0 ?_);clear hK K hb hBd;refine aU fun K hK=>?_;go_wp2_with fail;refine(bY p.up _ (hE0.later hC0) hp.up.1 hp.up.2).mono ?_;rintro _ y1 ⟨rfl,hb⟩;have hC1:Below w0.heap.size w0 y1:=hC0.trans (hb.mono hC0.size);go_wp2_with fail;refine aD (hK.out _ _ hC1 ?_);clear hK K hb hC0;refine aU fun K hK=>?_;go_wp2_with fail;refine(jJ p.a p.l _ (hE0.later hC1) hp.rt).mono ?_;rintro _ y2 ⟨rfl,hb⟩;have hC2:Below w0.heap.size w0 y2:=hC1.trans (hb.mono hC1.size);go_wp2_with fail;refine aD (hK.out _ _ hC2 ?_);clear hK K hb hC1;refine aU fun K hK=>?_;go_wp2_with fail;refine aD (hK.out _ _ (hC2.trans ((bl1 _ _).mono hC2.size)) ?_);clear hK K;refine dY ?_;go_wp2_with fail;clear s0 s1 s2 s3;refine(jB (ws:=[⟨#[112,111,111,108]⟩,cC p.id,⟨#[117,112]⟩,cC p.up,A6 p.a p.l]) hP0 (hC2.trans ((bl1 _ _).mono hC2.size)) (aB _ rfl) ?_ rfl (by omega) (Nat.le_trans hbase hB0.size)).mono ?_
 ·refine⟨by simp,fun x hx=>?_⟩;simp only[List.mem_cons,List.not_mem_nil,or_false]at hx;rcases hx with rfl|rfl|rfl|rfl|rfl
  ·decide
  ·exact hp.id.ok
  ·decide
  ·exact hp.up.ok
  ·exact DO hp.rt
 rintro _ w2 ⟨rfl,⟨v2,hP2⟩,hT2⟩;have hq2:=hT2.box _ _ _ (by omega) (by decide) hq0;have hT:kK u.heap.size b w w2:=(kK.of hB0 hbase).trans hT2;have hu2:Below u.heap.size u w2:=hu.trans hT.below;clear hT2 hq0 hP0 hB0 hE0 hC2;obtain⟨A,hA⟩:∃A,Hid (A=L++[A8 [⟨#[112,111,111,108]⟩,cC p.id,⟨#[117,112]⟩,cC p.up,A6 p.a p.l]]):=⟨_,rfl⟩;have hAl:A.length<=L.length+1:=by rw[hA.out];simp
 rw[<-hA.out]at hP2;have c8:=aP hq2 8 rfl;have hll:Hid (p.ls.length=p.n):=hp.ls.len;have hn:=hp.n;go_wp2;clear c8 hq2;go_loopw [23] (fun i wr=>∃k:Nat,i= .int .i64 k/\k<=p.n/\(∃v,B8 wr u.heap.size b v (A++(p.ls.take k).map K4))/\kK u.heap.size b w2 wr) (fun i _=>p.n- (intOf i).toNat)
 case atStart=>exact⟨0,rfl,by omega,⟨_,by simpa using hP2⟩,kK.of (zD) hu2.size⟩
 case round=>
  obtain⟨k,rfl,hk,⟨vr,hPr⟩,hTr⟩:=hrel
  have hur:Below u.heap.size u wr:=hu2.trans hTr.below
  by_cases hlt:k<p.n
  ·have hlt':Hid (k<p.n):=hlt;have hkl:k<p.ls.length:=by rw[hll.out];exact hlt
   obtain⟨bb,oo,hx,d0,d1,d2,d3,d4⟩:=(hp.ls.later hur).cells k hlt;have hst:Hid ((p.ls.take (k+1)).map K4=(p.ls.take k).map K4++[K4 (aN p.ls k)]):=pC K4 leZ hkl;have hle:leW (aN p.ls k):=hp.le _ (fQ hkl);have hlen:(A++(p.ls.take k).map K4).length<=100000:=by rw[List.length_append,List.length_map,List.length_take];omega
   rw[hx];generalize aN p.ls k=e at*;go_wp2_with fail;have hB1:Below wr.heap.size wr (wr.alloc (UQ e)):=bl1 _ _;refine(PC u.heap.size b vr _ e (wr.alloc (UQ e)) (hPr.later hB1) ((hE.later hur).later hB1) hlen (Nat.le_trans hur.size hB1.size) hle.1 hle.2.1 hle.2.2).mono ?_;rintro _ w3 ⟨rfl,⟨v3,hP3⟩,hT3⟩;go_wp2;go_roundw
   case rel=>exact⟨k+1,by go_num,hlt'.out,⟨v3,by rw[hst.out,<-List.append_assoc];exact hP3⟩,hTr.trans ((kK.of hB1 hur.size).trans hT3)⟩
   case measure=>simp[intOf];have:=hlt'.out;omega
  ·obtain rfl:k=p.n:=by omega
   have e:p.ls.take p.n=p.ls:=by rw[<-hll.out,List.take_length]
   rw[e]at hPr;clear e;go_wp2;refine bodyPost_end (results_none Tryz.results36 _ _ _) rfl ?_;exact⟨rfl,⟨vr,by rw[hA.out,List.append_assoc]at hPr;exact hPr⟩,hT.trans hTr⟩
def bkL(t:Int)(ps:List Po):List ByteArray:=A8 [⟨#[116,105,99,107]⟩,cC t]::ps.flatMap PD
theorem PF(u:World)(b:Nat)(v:Value)(L:List ByteArray)(t:Int)(x:Option Addr)(n c:Nat)(ps:List Po)(w:World)(hu:Below u.heap.size u w)(hP:B8 w u.heap.size b v L)(hE:BN u)(hL:L.length<=10)(hs:mX u x n ps)(hn:n<=64)(ht:num t)(hps:∀p∈ps,poW u p):
  Calls Tryz.prog 21 #[.pointer (some ⟨b,0,none⟩), .agg #[.int .i64 t, .slice x n c]] w (mT u.heap.size b (L++bkL t ps) w):=by
 have hbase:=hu.size;have hEw:=hE.later hu;have hbl:b<w.heap.size:=(zG hP.box);go_enter Tryz.func21,Tryz.ntmps21;go_upto_region 1 with fail
 obtain⟨w0,hw0⟩:∃w0,w0=w.alloc (eZ t (.slice x n c)):=⟨_,rfl⟩;have hB0:Below w.heap.size w w0:=by rw[hw0];exact bl1 w _
 have hq0:w0.heap[w.heap.size]?=some (eZ t (.slice x n c)):=by rw[hw0];exact aB _ rfl
 rw[<-hw0];clear hw0;have hP0:=hP.later hB0;have hE0:=hEw.later hB0;have s0:=Ws.here (aP hq0 0 rfl);refine bK [0,1,2,3] [4] [5,6] [7] (by kernel_rfl) (by kernel_rfl) (fun d _ _ _ _ h=>by cases d<;>exact h) ?_;simp only[zK,zM,zI,zJ];repeat(go_big_quiet_step (fail))
 refine wpQuiet_nil ?_;repeat(go_big_quiet_step (fail))
 refine wpQuiet_nil ?_;have hBd:Below w0.heap.size w0 w0.drew:=(zD).drew;refine aU fun K hK=>?_;go_wp2_with fail;refine(bY t _ (hE0.later hBd) ht.1 ht.2).mono ?_;rintro _ y0 ⟨rfl,hb⟩;have hC0:Below w0.heap.size w0 y0:=hBd.trans (hb.mono hBd.size);go_wp2_with fail;refine aD (hK.out _ _ hC0 ?_);clear hK K hb hBd;refine aU fun K hK=>?_;go_wp2_with fail;refine aD (hK.out _ _ (hC0.trans ((bl1 _ _).mono hC0.size)) ?_);clear hK K;refine dY ?_;go_wp2_with fail;clear s0;refine(jB (ws:=[⟨#[116,105,99,107]⟩,cC t]) hP0 (hC0.trans ((bl1 _ _).mono hC0.size)) (aB _ rfl) ?_ rfl (by omega) (Nat.le_trans hbase hB0.size)).mono ?_
 ·exact aBy (by decide) ht.ok
 rintro _ w2 ⟨rfl,⟨v2,hP2⟩,hT2⟩;have hq2:=hT2.box _ _ _ (by omega) (by decide) hq0;have hT:kK u.heap.size b w w2:=(kK.of hB0 hbase).trans hT2;have hu2:Below u.heap.size u w2:=hu.trans hT.below;clear hT2 hq0 hP0 hB0 hE0 hC0;obtain⟨A,hA⟩:∃A,Hid (A=L++[A8 [⟨#[116,105,99,107]⟩,cC t]]):=⟨_,rfl⟩;have hAl:A.length<=L.length+1:=by rw[hA.out];simp
 rw[<-hA.out]at hP2;have c8:=aP hq2 1 rfl;have hll:Hid (ps.length=n):=hs.len;go_wp2;clear c8 hq2;go_loopw [17] (fun i wr=>∃k:Nat,i= .int .i64 k/\k<=n/\(∃v,B8 wr u.heap.size b v (A++(ps.take k).flatMap PD))/\kK u.heap.size b w2 wr) (fun i _=>n- (intOf i).toNat)
 case atStart=>exact⟨0,rfl,by omega,⟨_,by simpa using hP2⟩,kK.of (zD) hu2.size⟩
 case round=>
  obtain⟨k,rfl,hk,⟨vr,hPr⟩,hTr⟩:=hrel
  have hur:Below u.heap.size u wr:=hu2.trans hTr.below
  by_cases hlt:k<n
  ·have hlt':Hid (k<n):=hlt;have hkl:k<ps.length:=by rw[hll.out];exact hlt
   obtain⟨bb,oo,hx,d0,d1,d2,d3,d4,d5,d6,d7,d8⟩:=(hs.later hur).cells k hlt;have hst:Hid ((ps.take (k+1)).flatMap PD=(ps.take k).flatMap PD++PD (poAt ps k)):=vO PD poZ hkl;have hpw:poW u (poAt ps k):=hps _ (poAt_mem hkl);have hlen:(A++(ps.take k).flatMap PD).length<=50000:=by
    have h1:=kX PD (m:=65) (ps.take k) fun p hp=>by
     have h2:=hps p (List.mem_of_mem_take hp);have:=h2.ls.len;have:=h2.n;simp[PD];omega
    rw[List.length_take]at h1;rw[List.length_append];omega
   rw[hx];generalize poAt ps k=e at*;go_wp2_with fail;have hB1:Below wr.heap.size wr (wr.alloc (CP e)):=bl1 _ _;refine(PE u b vr _ e (wr.alloc (CP e)) (hur.trans (hB1.mono hur.size)) (hPr.later hB1) hE hlen hpw).mono ?_;rintro _ w3 ⟨rfl,⟨v3,hP3⟩,hT3⟩;go_wp2;go_roundw
   case rel=>exact⟨k+1,by go_num,hlt'.out,⟨v3,by rw[hst.out,<-List.append_assoc];exact hP3⟩,hTr.trans ((kK.of hB1 hur.size).trans hT3)⟩
   case measure=>simp[intOf];have:=hlt'.out;omega
  ·obtain rfl:k=n:=by omega
   have e:ps.take k=ps:=by rw[<-hll.out,List.take_length]
   rw[e]at hPr;clear e;go_wp2;refine bodyPost_end (results_none Tryz.results21 _ _ _) rfl ?_;exact⟨rfl,⟨vr,by rw[hA.out,List.append_assoc]at hPr;exact hPr⟩,hT.trans hTr⟩
def UU(f:Fc):ByteArray:=A8 (⟨#[102,97,99,101]⟩::cC f.id::f.ns.map cC)
def I1(s:Sb):List ByteArray:=A8 [⟨#[115,117,98]⟩,cC s.id,A6 s.a s.l]::s.fs.map UU
def WL(r:Rg):ByteArray:=A8 [⟨#[114,97,110,103,101]⟩,A6 r.a r.l,cC r.p]
def B9(v:Vn):List ByteArray:=A8 [⟨#[110,101,116]⟩,cC v.id]::(v.rs.map WL++v.ss.flatMap I1)
def XR(l:Int×Int):ByteArray:=A8 [⟨#[108,105,110,107]⟩,cC l.1,cC l.2]
def ntL(vs:List Vn)(ls:List (Int×Int)):List ByteArray:=vs.flatMap B9++ls.map XR
def fcN(f:Fc):Prop:=num f.id/\f.n<=4/\∀a∈f.ns,num a
def sbN(s:Sb):Prop:=num s.id/\rt s.a s.l=true/\s.n<=8/\∀f∈s.fs,fcN f
def rgN(r:Rg):Prop:=rt r.a r.l=true/\num r.p
def vnN(v:Vn):Prop:=num v.id/\v.rn<=4/\v.sn<=6/\(∀r∈v.rs,rgN r)/\∀s∈v.ss,sbN s
def IG(ls:List (Int×Int))(k:Nat):Int×Int:=ls.getD k (0,0)
theorem gB{E:Type}{l:List E}(d:E)(h:k<l.length):l.getD k d∈l:=by
 rw[zF,List.getElem?_eq_getElem h];exact List.getElem_mem h
theorem rw1{s:ByteArray}(h:w.heap[g]?=some (.cells #[.string s] 9)):Rw w (some ⟨g,0,none⟩) 1 1 [.string s]:=
 ⟨rfl,fun _=>by simp,fun u hu=>by simp at hu;rw[hu];rfl,fun ad had j u hu=>by
  cases had
  cases j with
  |zero=>simp at hu;subst hu;exact(aC h).1 0
  |succ j=>simp at hu⟩
theorem TK{B:Nat}{x:Value}{L ws:List ByteArray}(hP:B8 w base b v L)(hB:Below w.heap.size w w1)(hO:w1.ownsRow B 9 1 x n (ws.map Value.string))(hn:ws.length=n)(h0:0<n)(hw:Wok ws)(hL:L.length<=100000)(hbase:base<=w.heap.size):
  Calls Tryz.prog 34 #[.pointer (some ⟨b,0,none⟩),x] w1 (mT base b (L++[A8 ws]) w):=by
 subst hn;have h1:=IF ws hw.2;have h2:=hw.1;rcases hO.2 with ⟨-,hv⟩|⟨g,cap,cur,rfl,h3,h4,h5,h6,h7,h8⟩
 ·omega
 have hr:=(JD hO (fun u hu=>by simp only[List.mem_map]at hu;obtain⟨y, -,rfl⟩:=hu;rfl)).2.2.2 _ rfl;refine(IE base b g cap v L ws w1 (hP.later hB) (fun j x hx=>by have:=hr j (.string x) (by simp[hx]);rwa[jN]at this) (zG h4) h5 (by omega) (by omega) hL (Nat.le_trans hbase hB.size)).mono fun e w2 ⟨h3,h4,h5⟩=>⟨h3,h4,(kK.of hB hbase).trans h5⟩
abbrev aDe(s:Sb):Value:= .agg #[.int .i64 s.id, .int .i64 s.a, .int .i64 s.l, .slice s.x s.n s.c]
theorem TL(u:World)(b:Nat)(v:Value)(L:List ByteArray)(s:Sb)(w:World)(hu:Below u.heap.size u w)(hP:B8 w u.heap.size b v L)(hE:BN u)(hL:L.length<=60000)(hf:sD u s.x s.n s.fs)(hs:sbN s):
  Calls Tryz.prog 70 #[.pointer (some ⟨b,0,none⟩),aDe s] w (mT u.heap.size b (L++I1 s) w):=by
 have hbase:=hu.size;have hEw:=hE.later hu;have hbl:b<w.heap.size:=(zG hP.box);go_enter Tryz.func70,Tryz.ntmps70;go_upto_region 1 with fail
 obtain⟨w0,hw0⟩:∃w0,w0=w.alloc (RT s):=⟨_,rfl⟩;have hB0:Below w.heap.size w w0:=by rw[hw0];exact bl1 w _
 have hq0:w0.heap[w.heap.size]?=some (RT s):=by rw[hw0];exact aB _ rfl
 rw[<-hw0];clear hw0;have hP0:=hP.later hB0;have hE0:=hEw.later hB0;have s0:=Ws.here (aP hq0 0 rfl);have s1:=Ws.here (aP hq0 1 rfl);have s2:=Ws.here (aP hq0 2 rfl);refine bK [0,1,2,3,6] [4,7] [5,8,9] [10] (by kernel_rfl) (by kernel_rfl) (fun d _ _ _ _ h=>by cases d<;>exact h) ?_;simp only[zK,zM,zI,zJ];repeat(go_big_quiet_step (fail))
 refine wpQuiet_nil ?_;repeat(go_big_quiet_step (fail))
 refine wpQuiet_nil ?_;have hBd:Below w0.heap.size w0 w0.drew:=(zD).drew;refine aU fun K hK=>?_;go_wp2_with fail;refine(bY s.id _ (hE0.later hBd) hs.1.1 hs.1.2).mono ?_;rintro _ y0 ⟨rfl,hb⟩;have hC0:Below w0.heap.size w0 y0:=hBd.trans (hb.mono hBd.size);go_wp2_with fail;refine aD (hK.out _ _ hC0 ?_);clear hK K hb hBd;refine aU fun K hK=>?_;go_wp2_with fail;refine(jJ s.a s.l _ (hE0.later hC0) hs.2.1).mono ?_;rintro _ y1 ⟨rfl,hb⟩;have hC1:Below w0.heap.size w0 y1:=hC0.trans (hb.mono hC0.size);go_wp2_with fail;refine aD (hK.out _ _ hC1 ?_);clear hK K hb hC0;refine aU fun K hK=>?_;go_wp2_with fail;refine aD (hK.out _ _ (hC1.trans ((bl1 _ _).mono hC1.size)) ?_);clear hK K;refine dY ?_;go_wp2_with fail;clear s0 s1 s2;refine(jB (ws:=[⟨#[115,117,98]⟩,cC s.id,A6 s.a s.l]) hP0 (hC1.trans ((bl1 _ _).mono hC1.size)) (aB _ rfl) ?_ rfl (by omega) (Nat.le_trans hbase hB0.size)).mono ?_
 ·exact PB (by decide) hs.1.ok (DO hs.2.1)
 rintro _ w2 ⟨rfl,⟨v2,hP2⟩,hT2⟩;have hq2:=hT2.box _ _ _ (by omega) (by decide) hq0;have hT:kK u.heap.size b w w2:=(kK.of hB0 hbase).trans hT2;have hu2:Below u.heap.size u w2:=hu.trans hT.below;clear hT2 hq0 hP0 hB0 hE0 hC1;obtain⟨A,hA⟩:∃A,Hid (A=L++[A8 [⟨#[115,117,98]⟩,cC s.id,A6 s.a s.l]]):=⟨_,rfl⟩;have hAl:A.length<=L.length+1:=by rw[hA.out];simp
 rw[<-hA.out]at hP2;have c8:=aP hq2 3 rfl;have hll:Hid (s.fs.length=s.n):=hf.len;have hn:=hs.2.2.1;go_wp2;clear c8 hq2;go_loopw [23] (fun i wr=>∃k:Nat,i= .int .i64 k/\k<=s.n/\(∃v,B8 wr u.heap.size b v (A++(s.fs.take k).map UU))/\kK u.heap.size b w2 wr) (fun i _=>s.n- (intOf i).toNat)
 case atStart=>exact⟨0,rfl,by omega,⟨_,by simpa using hP2⟩,kK.of (zD) hu2.size⟩
 case round=>
  obtain⟨k,rfl,hk,⟨vr,hPr⟩,hTr⟩:=hrel
  have hur:Below u.heap.size u wr:=hu2.trans hTr.below
  by_cases hlt:k<s.n
  ·have hlt':Hid (k<s.n):=hlt;have hkl:k<s.fs.length:=by rw[hll.out];exact hlt
   obtain⟨bb,oo,hx,d0,d1⟩:=(hf.later hur).cells k hlt;have hst:Hid ((s.fs.take (k+1)).map UU=(s.fs.take k).map UU++[UU (fcAt s.fs k)]):=pC UU fcZ hkl;have hlen:(A++(s.fs.take k).map UU).length<=100000:=by rw[List.length_append,List.length_map,List.length_take];omega
   have hfn:fcN (fcAt s.fs k):=hs.2.2.2 _ (gB fcZ hkl);have hns:=(hf.addrs k hlt).2.2;rw[hx];generalize fcAt s.fs k=e at*;have hnl:Hid (e.ns.length=e.n):=hns.len;have hn4:=hfn.2.1;obtain⟨wo,hwo⟩:∃wo,wo=wr:=⟨_,rfl⟩;rw[<-hwo]at d0 d1 hPr hTr hur⊢;clear hwo;go_upto_region 5 with fail
   obtain⟨w0,hw0⟩:∃w0,w0=wo.alloc (fcO e):=⟨_,rfl⟩;have hB1:Below wo.heap.size wo w0:=by rw[hw0];exact bl1 wo _
   have hq1:w0.heap[wo.heap.size]?=some (fcO e):=by rw[hw0];exact aB _ rfl
   rw[<-hw0];clear hw0 d0 d1;have hE1:=(hE.later hur).later hB1;have c0:=aP hq1 0 rfl;go_wp2_with fail;refine(bY e.id _ hE1 hfn.1.1 hfn.1.2).mono ?_;rintro _ w4 ⟨rfl,hb4⟩;have hq4:=aA hb4 hq1;have c1:=aP hq4 1 rfl;have c1':(w4.alloc (.cells #[.string ⟨#[102,97,99,101]⟩, .string (cC e.id)] 9)).cell? ⟨wo.heap.size,1,none⟩=some (.slice e.x e.n e.c):=cell_later (bl1 _ _) c1;clear c0 c1;go_wp2;clear c1' hq4 hq1;have hB4:Below w0.heap.size w0 (w4.alloc (.cells #[.string ⟨#[102,97,99,101]⟩, .string (cC e.id)] 9)):=hb4.trans ((bl1 _ _).mono hb4.size);have hO4:(w4.alloc (.cells #[.string ⟨#[102,97,99,101]⟩, .string (cC e.id)] 9)).ownsRow w0.heap.size 9 1 (.slice (some ⟨w4.heap.size,0,none⟩) 2 2) 2 [.string ⟨#[102,97,99,101]⟩, .string (cC e.id)]:=
    ⟨rfl, .inr ⟨w4.heap.size,2,#[.string ⟨#[102,97,99,101]⟩, .string (cC e.id)],rfl,hb4.size,aB _ rfl,by omega,by unfold maxLen;omega,rfl,rfl⟩⟩
   go_loopw [6,34] (fun ws i wr=>∃q:Nat,i= .int .i64 q/\q<=e.n/\wr.ownsRow w0.heap.size 9 1 ws (2+q) ((⟨#[102,97,99,101]⟩::cC e.id::(e.ns.take q).map cC).map Value.string)/\Below w0.heap.size w0 wr) (fun _ i _=>e.n- (intOf i).toNat)
   case atStart=>exact⟨0,rfl,by omega,by simpa using hO4,hB4⟩
   case round=>
    obtain⟨q,rfl,hq,hO,hBr⟩:=hrel
    have huw:Below u.heap.size u wr:=hur.trans ((hB1.trans (hBr.mono hB1.size)).mono hur.size)
    by_cases hlq:q<e.n
    ·have hlq':Hid (q<e.n):=hlq;obtain⟨b2,o2,hx2,f0⟩:=(hns.later huw).cells q hlq;have hq2:Hid ((e.ns.take (q+1)).map cC=(e.ns.take q).map cC++[cC (bT e.ns q)]):=pC cC 0 (by rw[hnl.out];exact hlq);have hnu:num (bT e.ns q):=hfn.2.2 _ (gB 0 (by rw[hnl.out];exact hlq));rw[hx2];generalize bT e.ns q=y at*;go_wp2_with fail;refine(bY y _ (hE.later huw) hnu.1 hnu.2).mono ?_;rintro _ w5 ⟨rfl,hb5⟩;go_wp2_with (at_builtin;refine Hid.out ?_);unfold Hid;have hb6:Below w5.heap.size w5 (w5.alloc (.cells #[.string (cC y)] 9)):=bl1 _ _;have hB6:=(hBr.trans (hb5.mono hBr.size)).trans (hb6.mono (Nat.le_trans hBr.size hb5.size));refine eM aBx rfl _ _ rfl w0.heap.size _ rfl (eG (eG hO hb5) hb6) ⟨w5.heap.size,0,none⟩ 1 1 rfl (rw1 (aB _ rfl)) (by omega) hB6.size fun v' w' hO' hg=>?_;have hB7:=dN hB6 hg (MG (eG (eG hO hb5) hb6));go_wp2;go_roundw
     case rel=>exact⟨q+1,by go_num,hlq'.out,by rw[hq2.out,<-Nat.add_assoc];simpa using hO',hB7⟩
     case measure=>simp[intOf];have:=hlq'.out;omega
    ·obtain rfl:q=e.n:=by omega
     have et:e.ns.take e.n=e.ns:=by rw[<-hnl.out,List.take_length]
     rw[et]at hO;clear et;go_wp2_with fail;refine(TK hPr (hB1.trans (hBr.mono hB1.size)) hO (by simp[hnl.out];omega) (by omega) ⟨by simp[hnl.out];omega,fun x hx=>?_⟩ hlen hur.size).mono ?_
     ·simp only[List.mem_cons,List.mem_map]at hx;rcases hx with rfl|rfl|⟨y,hy,rfl⟩
      ·decide
      ·exact hfn.1.ok
      ·exact(hfn.2.2 y hy).ok
     rintro _ w3 ⟨rfl,⟨v3,hP3⟩,hT3⟩;go_wp2;go_roundw
     case rel=>exact⟨k+1,by go_num,hlt'.out,⟨v3,by rw[hst.out,<-List.append_assoc];exact hP3⟩,hTr.trans hT3⟩
     case measure=>simp[intOf];have:=hlt'.out;omega
  ·obtain rfl:k=s.n:=by omega
   have e:s.fs.take s.n=s.fs:=by rw[<-hll.out,List.take_length]
   rw[e]at hPr;clear e;go_wp2;refine bodyPost_end (results_none Tryz.results70 _ _ _) rfl ?_;exact⟨rfl,⟨vr,by rw[hA.out,List.append_assoc]at hPr;exact hPr⟩,hT.trans hTr⟩
abbrev aCb(l:Int×Int):Obj:= .cells #[.int .i64 l.1, .int .i64 l.2] 94
theorem MH(h:s.fs.length=s.n)(g:sbN s):(I1 s).length<=9:=by
 have:=g.2.2.1;simp[I1];omega
abbrev aDf(v:Vn):Value:= .agg #[.int .i64 v.id, .slice v.rx v.rn v.rc, .slice v.sx v.sn v.sc]
theorem TS(h:SS u x n ss):∀s∈ss,s.fs.length=s.n:=fun s hs=>by
 obtain⟨i,hi,rfl⟩:=List.getElem_of_mem hs;have h1:=(h.faces i (by rw[<-h.len];exact hi)).2.2.len;unfold sbAt at h1;rwa[zF,List.getElem?_eq_getElem hi]at h1
theorem FK{v:Vn}(h:Vp u v.rx v.rn v.rc v.rs v.sx v.sn v.sc v.ss)(g:vnN v):(B9 v).length<=100:=by
 have h1:=kX I1 (m:=9) v.ss fun s hs=>MH (TS h.subs s hs) (g.2.2.2.2 s hs);have:=h.ranges.len;have:=h.subs.len;have:=g.2.1;have:=g.2.2.1;simp only[B9,List.length_cons,List.length_append,List.length_map];omega
theorem TT(u:World)(b:Nat)(v:Value)(L:List ByteArray)(z:Vn)(w:World)(hu:Below u.heap.size u w)(hP:B8 w u.heap.size b v L)(hE:BN u)(hL:L.length<=50000)(hv:Vp u z.rx z.rn z.rc z.rs z.sx z.sn z.sc z.ss)(hz:vnN z):
  Calls Tryz.prog 37 #[.pointer (some ⟨b,0,none⟩),aDf z] w (mT u.heap.size b (L++B9 z) w):=by
 have hbase:=hu.size;have hEw:=hE.later hu;have hbl:b<w.heap.size:=(zG hP.box);go_enter Tryz.func37,Tryz.ntmps37;go_upto_region 1 with fail
 obtain⟨w0,hw0⟩:∃w0,w0=w.alloc (VR z):=⟨_,rfl⟩;have hB0:Below w.heap.size w w0:=by rw[hw0];exact bl1 w _
 have hq0:w0.heap[w.heap.size]?=some (VR z):=by rw[hw0];exact aB _ rfl
 rw[<-hw0];clear hw0;have hP0:=hP.later hB0;have hE0:=hEw.later hB0;have s0:=Ws.here (aP hq0 0 rfl);refine bK [0,1,2,3] [4] [5,6] [7] (by kernel_rfl) (by kernel_rfl) (fun d _ _ _ _ h=>by cases d<;>exact h) ?_;simp only[zK,zM,zI,zJ];repeat(go_big_quiet_step (fail))
 refine wpQuiet_nil ?_;repeat(go_big_quiet_step (fail))
 refine wpQuiet_nil ?_;have hBd:Below w0.heap.size w0 w0.drew:=(zD).drew;refine aU fun K hK=>?_;go_wp2_with fail;refine(bY z.id _ (hE0.later hBd) hz.1.1 hz.1.2).mono ?_;rintro _ y0 ⟨rfl,hb⟩;have hC0:Below w0.heap.size w0 y0:=hBd.trans (hb.mono hBd.size);go_wp2_with fail;refine aD (hK.out _ _ hC0 ?_);clear hK K hb hBd;refine aU fun K hK=>?_;go_wp2_with fail;refine aD (hK.out _ _ (hC0.trans ((bl1 _ _).mono hC0.size)) ?_);clear hK K;refine dY ?_;go_wp2_with fail;clear s0;refine(jB (ws:=[⟨#[110,101,116]⟩,cC z.id]) hP0 (hC0.trans ((bl1 _ _).mono hC0.size)) (aB _ rfl) ?_ rfl (by omega) (Nat.le_trans hbase hB0.size)).mono ?_
 ·exact aBy (by decide) hz.1.ok
 rintro _ w2 ⟨rfl,⟨v2,hP2⟩,hT2⟩;have hq2:=hT2.box _ _ _ (by omega) (by decide) hq0;have hT:kK u.heap.size b w w2:=(kK.of hB0 hbase).trans hT2;have hu2:Below u.heap.size u w2:=hu.trans hT.below;clear hT2 hq0 hP0 hB0 hE0 hC0;obtain⟨A,hA⟩:∃A,Hid (A=L++[A8 [⟨#[110,101,116]⟩,cC z.id]]):=⟨_,rfl⟩;have hAl:A.length<=L.length+1:=by rw[hA.out];simp
 rw[<-hA.out]at hP2;have c8:=aP hq2 1 rfl;have hll:Hid (z.rs.length=z.rn):=hv.ranges.len;have hn:=hz.2.1;have hn6:=hz.2.2.1;go_wp2;clear c8;go_loopw [19] (fun i wr=>∃k:Nat,i= .int .i64 k/\k<=z.rn/\(∃v,B8 wr u.heap.size b v (A++(z.rs.take k).map WL))/\kK u.heap.size b w2 wr) (fun i _=>z.rn- (intOf i).toNat)
 case atStart=>exact⟨0,rfl,by omega,⟨_,by simpa using hP2⟩,kK.of (zD) hu2.size⟩
 case round=>
  obtain⟨k,rfl,hk,⟨vr,hPr⟩,hTr⟩:=hrel
  have hur:Below u.heap.size u wr:=hu2.trans hTr.below
  by_cases hlt:k<z.rn
  ·have hlt':Hid (k<z.rn):=hlt;have hkl:k<z.rs.length:=by rw[hll.out];exact hlt
   obtain⟨bb,oo,hx,d0,d1,d2⟩:=(hv.ranges.later hur).cells k hlt;have hst:Hid ((z.rs.take (k+1)).map WL=(z.rs.take k).map WL++[WL (aQ z.rs k)]):=pC WL rgZ hkl;have hrn:rgN (aQ z.rs k):=hz.2.2.2.1 _ (gB rgZ hkl);have hlen:(A++(z.rs.take k).map WL).length<=100000:=by rw[List.length_append,List.length_map,List.length_take];omega
   rw[hx];generalize aQ z.rs k=e at*;go_upto_region 5 with fail
   obtain⟨w0,hw0⟩:∃w0,w0=wr.alloc (FY e):=⟨_,rfl⟩;have hB1:Below wr.heap.size wr w0:=by rw[hw0];exact bl1 wr _
   have hq1:w0.heap[wr.heap.size]?=some (FY e):=by rw[hw0];exact aB _ rfl
   rw[<-hw0];clear hw0;have hE1:=(hE.later hur).later hB1;have s0:=Ws.here (aP hq1 0 rfl);have s1:=Ws.here (aP hq1 1 rfl);have s2:=Ws.here (aP hq1 2 rfl);refine bK [0,1,2,3,6] [4,7] [5,8,9] [10] (by kernel_rfl) (by kernel_rfl) (fun d _ _ _ _ h=>by cases d<;>exact h) ?_;simp only[zK,zM,zI,zJ];repeat(go_big_quiet_step (fail))
   refine wpQuiet_nil ?_;repeat(go_big_quiet_step (fail))
   refine wpQuiet_nil ?_;have hBd:Below w0.heap.size w0 w0.drew:=(zD).drew;refine aU fun K hK=>?_;go_wp2_with fail;refine(jJ e.a e.l _ (hE1.later hBd) hrn.1).mono ?_;rintro _ y0 ⟨rfl,hb⟩;have hC0:Below w0.heap.size w0 y0:=hBd.trans (hb.mono hBd.size);go_wp2_with fail;refine aD (hK.out _ _ hC0 ?_);clear hK K hb hBd;refine aU fun K hK=>?_;go_wp2_with fail;refine(bY e.p _ (hE1.later hC0) hrn.2.1 hrn.2.2).mono ?_;rintro _ y1 ⟨rfl,hb⟩;have hC1:Below w0.heap.size w0 y1:=hC0.trans (hb.mono hC0.size);go_wp2_with fail;refine aD (hK.out _ _ hC1 ?_);clear hK K hb hC0;refine aU fun K hK=>?_;go_wp2_with fail;refine aD (hK.out _ _ (hC1.trans ((bl1 _ _).mono hC1.size)) ?_);clear hK K;refine dY ?_;go_wp2_with fail;clear s0 s1 s2;refine(jB (ws:=[⟨#[114,97,110,103,101]⟩,A6 e.a e.l,cC e.p]) (hPr.later hB1) (hC1.trans ((bl1 _ _).mono hC1.size)) (aB _ rfl) (PB (by decide) (DO hrn.1) hrn.2.ok) rfl (by omega) (Nat.le_trans hur.size hB1.size)).mono ?_;rintro _ w3 ⟨rfl,⟨v3,hP3⟩,hT3⟩;go_wp2;go_roundw
   case rel=>exact⟨k+1,by go_num,hlt'.out,⟨v3,by rw[hst.out,<-List.append_assoc];exact hP3⟩,hTr.trans ((kK.of hB1 hur.size).trans hT3)⟩
   case measure=>simp[intOf];have:=hlt'.out;omega
  ·obtain rfl:k=z.rn:=by omega
   have e:z.rs.take z.rn=z.rs:=by rw[<-hll.out,List.take_length]
   rw[e]at hPr;clear e;obtain⟨w1,hw1⟩:∃w1,w1=wr:=⟨_,rfl⟩;rw[<-hw1]at hPr hTr hur⊢;clear hw1;obtain⟨D,hD⟩:∃D,Hid (D=A++z.rs.map WL):=⟨_,rfl⟩;have hDl:D.length<=A.length+4:=by rw[hD.out,List.length_append,List.length_map,hll.out];omega
   rw[<-hD.out]at hPr;have hP1:=hPr;have hT1:=hTr;have hu1:=hur;have c9:w1.cell? ⟨w.heap.size,2,none⟩=some (.slice z.sx z.sn z.sc):=(aC (hT1.box _ _ _ (by omega) (by decide) hq2)).1 2;clear hPr hTr hur hlt hk hll;have hll:Hid (z.ss.length=z.sn):=hv.subs.len;go_wp2;clear c9;go_loopw [38] (fun i wr=>∃k:Nat,i= .int .i64 k/\k<=z.sn/\(∃v,B8 wr u.heap.size b v (D++(z.ss.take k).flatMap I1))/\kK u.heap.size b w1 wr) (fun i _=>z.sn- (intOf i).toNat)
   case atStart=>exact⟨0,rfl,by omega,⟨_,by simpa using hP1⟩,kK.of (zD) hu1.size⟩
   case round=>
    obtain⟨k,rfl,hk,⟨vr,hPr⟩,hTr⟩:=hrel
    have hur:Below u.heap.size u wr:=hu1.trans hTr.below
    by_cases hlt:k<z.sn
    ·have hlt':Hid (k<z.sn):=hlt;have hkl:k<z.ss.length:=by rw[hll.out];exact hlt
     obtain⟨bb,oo,hx,d0,d1,d2,d3⟩:=(hv.subs.later hur).cells k hlt;have hst:Hid ((z.ss.take (k+1)).flatMap I1=(z.ss.take k).flatMap I1++I1 (sbAt z.ss k)):=vO I1 sbZ hkl;have hfc:=(hv.subs.faces k hlt).2.2;have hsn:sbN (sbAt z.ss k):=hz.2.2.2.2 _ (gB sbZ hkl);have hlen:(D++(z.ss.take k).flatMap I1).length<=60000:=by
       have h1:=kX I1 (m:=9) (z.ss.take k) fun s hs=>MH (TS hv.subs s (List.mem_of_mem_take hs)) (hz.2.2.2.2 s (List.mem_of_mem_take hs));rw[List.length_take]at h1;rw[List.length_append];omega
     rw[hx];generalize sbAt z.ss k=e at*;go_wp2_with fail;have hB1:Below wr.heap.size wr (wr.alloc (RT e)):=bl1 _ _;refine(TL u b vr _ e (wr.alloc (RT e)) (hur.trans (hB1.mono hur.size)) (hPr.later hB1) hE hlen hfc hsn).mono ?_;rintro _ w3 ⟨rfl,⟨v3,hP3⟩,hT3⟩;go_wp2;go_roundw
     case rel=>exact⟨k+1,by go_num,hlt'.out,⟨v3,by rw[hst.out,<-List.append_assoc];exact hP3⟩,hTr.trans ((kK.of hB1 hur.size).trans hT3)⟩
     case measure=>simp[intOf];have:=hlt'.out;omega
    ·obtain rfl:k=z.sn:=by omega
     have e:z.ss.take z.sn=z.ss:=by rw[<-hll.out,List.take_length]
     rw[e]at hPr;clear e;go_wp2;refine bodyPost_end (results_none Tryz.results37 _ _ _) rfl ?_;exact⟨rfl,⟨vr,by rw[hD.out,hA.out]at hPr;simpa[B9]using hPr⟩,(hT.trans hT1).trans hTr⟩
abbrev ntO(x:Option Addr)(n c:Nat)(lx:Option Addr)(ln lc:Nat):Obj:= .cells #[.slice x n c, .slice lx ln lc] 41
theorem TV(u:World)(b:Nat)(v:Value)(L:List ByteArray)(x:Option Addr)(n c:Nat)(vs:List Vn)(lx:Option Addr)(ln lc:Nat)(ls:List (Int×Int))(w:World)(hu:Below u.heap.size u w)(hP:B8 w u.heap.size b v L)(hE:BN u)(hL:L.length<=10000)(hv:VS u x n vs)(hl:PS u lx ln ls)(hn:n<=64)(hln:ln<=64)(hvs:∀z∈vs,vnN z)(hls:∀l∈ls,num l.1/\num l.2):
  Calls Tryz.prog 22 #[.pointer (some ⟨b,0,none⟩), .agg #[.slice x n c, .slice lx ln lc]] w (mT u.heap.size b (L++ntL vs ls) w):=by
 have hbase:=hu.size;have hEw:=hE.later hu;have hbl:b<w.heap.size:=(zG hP.box);go_enter Tryz.func22,Tryz.ntmps22;go_upto_region 1 with fail
 obtain⟨w0,hw0⟩:∃w0,w0=w.alloc (ntO x n c lx ln lc):=⟨_,rfl⟩;have hB0:Below w.heap.size w w0:=by rw[hw0];exact bl1 w _
 have hq0:w0.heap[w.heap.size]?=some (ntO x n c lx ln lc):=by rw[hw0];exact aB _ rfl
 rw[<-hw0];clear hw0;have hP0:=hP.later hB0;have hE0:=hEw.later hB0;have c8:=aP hq0 0 rfl;have hll:Hid (vs.length=n):=hv.len;have hT:kK u.heap.size b w w0:=kK.of hB0 hbase;have hu0:Below u.heap.size u w0:=hu.trans hT.below;go_wp2;clear c8;go_loopw [11] (fun i wr=>∃k:Nat,i= .int .i64 k/\k<=n/\(∃v,B8 wr u.heap.size b v (L++(vs.take k).flatMap B9))/\kK u.heap.size b w0 wr) (fun i _=>n- (intOf i).toNat)
 case atStart=>exact⟨0,rfl,by omega,⟨_,by simpa using hP0⟩,kK.of (zD) hu0.size⟩
 case round=>
  obtain⟨k,rfl,hk,⟨vr,hPr⟩,hTr⟩:=hrel
  have hur:Below u.heap.size u wr:=hu0.trans hTr.below
  by_cases hlt:k<n
  ·have hlt':Hid (k<n):=hlt;have hkl:k<vs.length:=by rw[hll.out];exact hlt
   obtain⟨bb,oo,hx,d0,d1,d2⟩:=(hv.later hur).cells k hlt;have hst:Hid ((vs.take (k+1)).flatMap B9=(vs.take k).flatMap B9++B9 (aE vs k)):=vO B9 X8 hkl;have hvp:=(hv.vps k hlt).2.2.2;have hvn:vnN (aE vs k):=hvs _ (gB X8 hkl);have hlen:(L++(vs.take k).flatMap B9).length<=50000:=by
    have h1:=kX B9 (m:=100) (vs.take k) fun z hz=>by
     obtain⟨i,hi,rfl⟩:=List.getElem_of_mem (List.mem_of_mem_take hz);have h2:=(hv.vps i (by rw[<-hll.out];exact hi)).2.2.2;unfold aE at h2;rw[zF,List.getElem?_eq_getElem hi]at h2;exact FK h2 (hvs _ (List.getElem_mem hi))
    rw[List.length_take]at h1;rw[List.length_append];omega
   rw[hx];generalize aE vs k=e at*;go_wp2_with fail;have hB1:Below wr.heap.size wr (wr.alloc (VR e)):=bl1 _ _;refine(TT u b vr _ e (wr.alloc (VR e)) (hur.trans (hB1.mono hur.size)) (hPr.later hB1) hE hlen hvp hvn).mono ?_;rintro _ w3 ⟨rfl,⟨v3,hP3⟩,hT3⟩;go_wp2;go_roundw
   case rel=>exact⟨k+1,by go_num,hlt'.out,⟨v3,by rw[hst.out,<-List.append_assoc];exact hP3⟩,hTr.trans ((kK.of hB1 hur.size).trans hT3)⟩
   case measure=>simp[intOf];have:=hlt'.out;omega
  ·obtain rfl:k=n:=by omega
   have e:vs.take k=vs:=by rw[<-hll.out,List.take_length]
   rw[e]at hPr;clear e;obtain⟨w1,hw1⟩:∃w1,w1=wr:=⟨_,rfl⟩;rw[<-hw1]at hPr hTr hur⊢;clear hw1;obtain⟨D,hD⟩:∃D,Hid (D=L++vs.flatMap B9):=⟨_,rfl⟩;have hDl:D.length<=20000:=by
    have h1:=kX B9 (m:=100) vs fun z hz=>by
     obtain⟨i,hi,rfl⟩:=List.getElem_of_mem hz;have h2:=(hv.vps i (by rw[<-hll.out];exact hi)).2.2.2;unfold aE at h2;rw[zF,List.getElem?_eq_getElem hi]at h2;exact FK h2 (hvs _ (List.getElem_mem hi))
    rw[hll.out]at h1;rw[hD.out,List.length_append];omega
   rw[<-hD.out]at hPr;have hP1:=hPr;have hT1:=hTr;have hu1:=hur;have c9:w1.cell? ⟨w.heap.size,1,none⟩=some (.slice lx ln lc):=(aC (hT1.box _ _ _ (by omega) (by decide) hq0)).1 1;clear hPr hTr hur hlt hk hll;have hll:Hid (ls.length=ln):=hl.len;go_wp2;clear c9;go_loopw [22] (fun i wr=>∃k:Nat,i= .int .i64 k/\k<=ln/\(∃v,B8 wr u.heap.size b v (D++(ls.take k).map XR))/\kK u.heap.size b w1 wr) (fun i _=>ln- (intOf i).toNat)
   case atStart=>exact⟨0,rfl,by omega,⟨_,by simpa using hP1⟩,kK.of (zD) hu1.size⟩
   case round=>
    obtain⟨k,rfl,hk,⟨vr,hPr⟩,hTr⟩:=hrel
    have hur:Below u.heap.size u wr:=hu1.trans hTr.below
    by_cases hlt:k<ln
    ·have hlt':Hid (k<ln):=hlt;have hkl:k<ls.length:=by rw[hll.out];exact hlt
     obtain⟨bb,oo,hx,d0,d1⟩:=(hl.later hur).cells k hlt;have hst:Hid ((ls.take (k+1)).map XR=(ls.take k).map XR++[XR (IG ls k)]):=pC XR (0,0) hkl;replace d0:wr.cell? ⟨bb,oo+k*2,none⟩=some (.int .i64 (IG ls k).1):=d0;replace d1:wr.cell? ⟨bb,oo+k*2+1,none⟩=some (.int .i64 (IG ls k).2):=d1;have hlk:=hls (IG ls k) (gB (0,0) hkl);have hlen:(D++(ls.take k).map XR).length<=100000:=by rw[List.length_append,List.length_map,List.length_take];omega
     rw[hx];generalize IG ls k=e at*;go_upto_region 9 with fail
     obtain⟨w0,hw0⟩:∃w0,w0=wr.alloc (aCb e):=⟨_,rfl⟩;have hB1:Below wr.heap.size wr w0:=by rw[hw0];exact bl1 wr _
     have hq1:w0.heap[wr.heap.size]?=some (aCb e):=by rw[hw0];exact aB _ rfl
     rw[<-hw0];clear hw0;have hE1:=(hE.later hur).later hB1;have s0:=Ws.here (aP hq1 0 rfl);have s1:=Ws.here (aP hq1 1 rfl);refine bK [0,1,2,3,6] [4,7] [5,8,9] [10] (by kernel_rfl) (by kernel_rfl) (fun d _ _ _ _ h=>by cases d<;>exact h) ?_;simp only[zK,zM,zI,zJ];repeat(go_big_quiet_step (fail))
     refine wpQuiet_nil ?_;repeat(go_big_quiet_step (fail))
     refine wpQuiet_nil ?_;have hBd:Below w0.heap.size w0 w0.drew:=(zD).drew;refine aU fun K hK=>?_;go_wp2_with fail;refine(bY e.1 _ (hE1.later hBd) hlk.1.1 hlk.1.2).mono ?_;rintro _ y0 ⟨rfl,hb⟩;have hC0:Below w0.heap.size w0 y0:=hBd.trans (hb.mono hBd.size);go_wp2_with fail;refine aD (hK.out _ _ hC0 ?_);clear hK K hb hBd;refine aU fun K hK=>?_;go_wp2_with fail;refine(bY e.2 _ (hE1.later hC0) hlk.2.1 hlk.2.2).mono ?_;rintro _ y1 ⟨rfl,hb⟩;have hC1:Below w0.heap.size w0 y1:=hC0.trans (hb.mono hC0.size);go_wp2_with fail;refine aD (hK.out _ _ hC1 ?_);clear hK K hb hC0;refine aU fun K hK=>?_;go_wp2_with fail;refine aD (hK.out _ _ (hC1.trans ((bl1 _ _).mono hC1.size)) ?_);clear hK K;refine dY ?_;go_wp2_with fail;clear s0 s1;refine(jB (ws:=[⟨#[108,105,110,107]⟩,cC e.1,cC e.2]) (hPr.later hB1) (hC1.trans ((bl1 _ _).mono hC1.size)) (aB _ rfl) (PB (by decide) hlk.1.ok hlk.2.ok) rfl (by omega) (Nat.le_trans hur.size hB1.size)).mono ?_;rintro _ w3 ⟨rfl,⟨v3,hP3⟩,hT3⟩;go_wp2;go_roundw
     case rel=>exact⟨k+1,by go_num,hlt'.out,⟨v3,by rw[hst.out,<-List.append_assoc];exact hP3⟩,hTr.trans ((kK.of hB1 hur.size).trans hT3)⟩
     case measure=>simp[intOf];have:=hlt'.out;omega
    ·obtain rfl:k=ln:=by omega
     have e:ls.take k=ls:=by rw[<-hll.out,List.take_length]
     rw[e]at hPr;clear e;go_wp2;refine bodyPost_end (results_none Tryz.results22 _ _ _) rfl ?_;exact⟨rfl,⟨vr,by rw[hD.out]at hPr;simpa[ntL]using hPr⟩,(hT.trans hT1).trans hTr⟩
def txB(L:List ByteArray):ByteArray:=⟨(L.map (·.data.toList)).flatten.toArray⟩
theorem DP:∀xs:List (List UInt8),Lib.join xs []=xs.flatten
 |[]=>rfl
 |x::xs=>by
  rw[Lib.join_cons];simp[Lib.joinTail]
theorem DQ:∀L:List ByteArray,(∀x∈L,x.size<=m)->(L.map (·.data.toList)).flatten.length<=L.length*m
 |[],_=>by simp
 |x::L,h=>by
  have h1:=DQ L fun y hy=>h y (by simp[hy]);have h2:x.data.toList.length<=m:=Nat.le_trans (Nat.le_of_eq Array.length_toList) (h x (List.mem_cons_self ..));rw[zK,List.flatten_cons,List.length_append,List.length_cons,Nat.add_mul];omega
theorem PG(base b:Nat)(v:Value)(L:List ByteArray)(w:World)(hP:B8 w base b v L)(h0:0<L.length)(hL:L.length<=2000):
  Calls Tryz.prog 23 #[.pointer (some ⟨b,0,none⟩)] w fun e w'=>e= .returned (.string (txB L))/\Below w.heap.size w w':=by
 have hs:=DQ L hP.sz;have hr:=hP.row;rcases hP.row.2 with ⟨-,hv⟩|⟨g,cap,cur,rfl,h3,h4,h5,h6,h7,h8⟩
 ·omega
 have hr:=(JD hP.row (fun u hu=>by simp only[List.mem_map]at hu;obtain⟨y, -,rfl⟩:=hu;rfl)).2.2.2 _ rfl;have hj:=tR g 0 cap L ⟨#[]⟩ w (fun j x hx=>by have:=hr j (.string x) (by simp[hx]);rwa[jN]at this) (zG h4) (by omega) h5 (by show(Lib.join _ []).length<=_;rw[DP];omega);have he:Lib.join (L.map (·.data.toList)) (ByteArray.mk #[]).data.toList=(L.map (·.data.toList)).flatten:=DP _;rw[he]at hj;have c0:=aP hP.box 0 rfl;clear hr he hs;go_enter Tryz.func23,Tryz.ntmps23;go_wp2_with (go_at_call 38;refine hj.mono ?_;rintro e w1 ⟨rfl,hb1⟩);go_ret;exact⟨rfl,hb1⟩
structure SiN(u:World)(t:Int)(ps:List Po)(vs:List Vn)(ls:List (Int×Int))(n vn ln:Nat):Prop where
 tk:num t
 po:∀p∈ps,poW u p
 nv:∀z∈vs,vnN z
 lk:∀l∈ls,num l.1/\num l.2
 n8:n<=8
 v6:vn<=6
 l12:ln<=12
def ZT(t:Int)(ps:List Po)(vs:List Vn)(ls:List (Int×Int)):List ByteArray:=bkL t ps++ntL vs ls
def shE(t:Int)(ps:List Po)(vn:Nat)(vs:List Vn)(ln:Nat)(ls:List (Int×Int)):ByteArray:=if mS t ps vn vs ln ls=0 then txB (ZT t ps vs ls)else⟨#[]⟩
theorem WM(hs:Si u x n c ps vx vn vc vs lx ln ls)(hN:SiN u t ps vs ls n vn ln):0<(ZT t ps vs ls).length/\(bkL t ps).length<=600/\(ZT t ps vs ls).length<=2000:=by
 have h1:=kX PD (m:=65) ps fun p hp=>by
  have h2:=hN.po p hp;have:=h2.ls.len;have:=h2.n;simp[PD];omega
 have h3:=kX B9 (m:=100) vs fun z hz=>by
  obtain⟨i,hi,rfl⟩:=List.getElem_of_mem hz;have h2:=(hs.vps.vps i (by rw[<-hs.vps.len];exact hi)).2.2.2;unfold aE at h2;rw[zF,List.getElem?_eq_getElem hi]at h2;exact FK h2 (hN.nv _ (List.getElem_mem hi))
 have:=hs.bk.ps.len;have:=hs.vps.len;have:=hs.lk.len;have:=hN.n8;have:=hN.v6;have:=hN.l12;simp only[ZT,bkL,ntL,List.length_append,List.length_cons,List.length_map];omega
theorem TW(t:Int)(x:Option Addr)(n c:Nat)(ps:List Po)(vx:Option Addr)(vn vc:Nat)(vs:List Vn)(lx:Option Addr)(ln lc:Nat)(ls:List (Int×Int))(w:World)(hs:Si w x n c ps vx vn vc vs lx ln ls)(hE:BN w)(hN:mS t ps vn vs ln ls=0->SiN w t ps vs ls n vn ln):
  Calls Tryz.prog 11 #[.agg #[.int .i64 t, .slice x n c, .slice vx vn vc, .slice lx ln lc]] w fun e w'=>e= .returned (.tuple #[.string (shE t ps vn vs ln ls), .int .i64 (mS t ps vn vs ln ls)])/\Below w.heap.size w w':=by
 obtain⟨w0,hw0⟩:∃w0,w0=w.alloc (iI t (.slice x n c) (.slice vx vn vc) (.slice lx ln lc)):=⟨_,rfl⟩;have hB0:Below w.heap.size w w0:=by rw[hw0];exact bl1 w _
 have hq0:w0.heap[w.heap.size]?=some (iI t (.slice x n c) (.slice vx vn vc) (.slice lx ln lc)):=by rw[hw0];exact aB _ rfl
 have hck:=rS t x n c ps vx vn vc vs lx ln lc ls w0 (hs.later hB0);obtain⟨E,hEe⟩:∃E,mS t ps vn vs ln ls=E:=⟨_,rfl⟩;have hsh:Hid (shE t ps vn vs ln ls=if E=0 then txB (ZT t ps vs ls)else⟨#[]⟩):=by unfold Hid shE;rw[hEe]
 rw[hEe]at hck hN⊢;clear hEe;obtain⟨s0,s1,s2,s3⟩:=dL hq0 rfl rfl rfl rfl;go_enter Tryz.func11,Tryz.ntmps11;go_upto_region 1 with fail
 rw[<-hw0];clear hw0;go_wp2_with fail;refine hck.mono ?_;rintro _ w1 ⟨rfl,hb1⟩;have hB1:=hB0.trans (hb1.mono hB0.size);clear hck s0 s1 s2 s3;have hq1:=aA hb1 hq0;by_cases hz:E=0
 ·subst hz;rw[if_pos rfl]at hsh;replace hN:=hN rfl;obtain⟨hl0,hlb,hl2⟩:=WM hs hN;have h8:=hN.n8;have h6:=hN.v6;have h12:=hN.l12;go_upto_region 5 with fail
  obtain⟨w2,hw2⟩:∃w2,w2=w1.alloc (.cells #[.slice none 0 0] 71):=⟨_,rfl⟩;have hb2:Below w1.heap.size w1 w2:=by rw[hw2];exact bl1 w1 _
  have hp2:w2.heap[w1.heap.size]?=some (.cells #[.slice none 0 0] 71):=by rw[hw2];exact aB _ rfl
  rw[<-hw2];clear hw2;have hB2:=hB1.trans (hb2.mono hB1.size);have hq2:=aA hb2 hq1;have hne:w.heap.size≠w1.heap.size:=by have:=(zG hq1);omega
  obtain⟨s0,s1⟩:=aR hq2 rfl rfl;go_wp2_with fail;refine(PF w w1.heap.size (.slice none 0 0) [] t x n c ps w2 hB2 ⟨hp2,⟨rfl, .inl ⟨rfl,rfl⟩⟩,hB1.size,fun x hx=>by cases hx⟩ hE (by simp) hs.bk.ps (by omega) hN.tk hN.po).mono ?_;rintro _ w3 ⟨rfl,⟨v3,hP3⟩,hT3⟩;have hq3:=hT3.box _ _ _ hne (by decide) hq2;have hB3:=hB2.trans hT3.below;clear s0 s1 hT3;have s2:=aP hq3 2 rfl;have s3:=aP hq3 3 rfl;go_wp2_with fail;refine(TV w w1.heap.size v3 _ vx vn vc vs lx ln lc ls w3 hB3 hP3 hE (by simp;omega) hs.vps hs.lk (by omega) (by omega) hN.nv hN.lk).mono ?_;rintro _ w4 ⟨rfl,⟨v4,hP4⟩,hT4⟩;have hB4:=hB3.trans hT4.below;clear s2 s3 hT4;rw[List.nil_append]at hP4;go_wp2_with fail;refine(PG w.heap.size _ v4 _ w4 hP4 hl0 hl2).mono ?_;rintro _ w5 ⟨rfl,hb5⟩;go_wp2;go_ret2;exact⟨by rw[hsh.out];rfl,hB4.trans (hb5.mono hB4.size)⟩
 ·rw[if_neg hz]at hsh;go_wp2;go_ret2;exact⟨by rw[hsh.out];rfl,hB1⟩
theorem ZU(h:anyAt n f=true):∃k,k<n/\f k=true:=by
 unfold anyAt at h;rw[List.any_eq_true]at h;obtain⟨k,hk,hf⟩:=h;exact⟨k,List.mem_range.1 hk,hf⟩
theorem jC{x:Int}(h:dE x 1 65536=true):num x:=by
 simp only[dE,zH,decide_eq_true_eq]at h;exact⟨by omega,by omega⟩
theorem TX{a l c m:Int}(h:iH a l c m=true):rt a l=true:=by
 unfold iH at h;simp only[zH]at h;exact h.1.1.1
theorem ZV{a l:Int}{f:Fc}(hr:rt a l=true)(h4:f.n<=4)(hl:f.ns.length=f.n)(h:(dE f.id 1 65536&&decide (0<f.n)&&US a l f.n f.ns)=true):fcN f:=by
 simp only[zH,US,Bool.not_eq_true']at h;refine⟨jC h.1.1,h4,fun x hx=>?_⟩;obtain⟨i,hi,rfl⟩:=List.getElem_of_mem hx;have h1:bT f.ns i=f.ns[i]:=by unfold bT;rw[zF,List.getElem?_eq_getElem hi];rfl
 have h2:rL a l (bT f.ns i)=true:=by
  cases h3:rL a l (bT f.ns i)with
  |true=>rfl
  |false=>
   have:anyAt f.n (fun i=>!rL a l (bT f.ns i))=true:=bR (k:=i) (by omega) (by simp[h3])
   rw[h.2.2]at this
   cases this
 have h5:=zZ hr h2;rw[h1]at h5;exact⟨h5.1,by omega⟩
theorem ZW{v:Vn}(hv:Vp w v.rx v.rn v.rc v.rs v.sx v.sn v.sc v.ss)(h:bD v.id v.rn v.rs v.sn v.ss=0):vnN v:=by
 have hR:=aBg hv.ranges.len hv.subs.len h;have hrl:=hv.ranges.len;have hsl:=hv.subs.len;refine⟨jC hR.iw,hR.r4,hR.s6,fun r hr=>?_,fun s hs=>?_⟩
 ·obtain⟨i,hi,rfl⟩:=List.getElem_of_mem hr;have h1:=hR.rg i (by omega);rw[SC hi]at h1;simp only[IX,zH]at h1;exact⟨h1.1,jC h1.2⟩
 ·obtain⟨i,hi,rfl⟩:=List.getElem_of_mem hs;have e:sbAt v.ss i=v.ss[i]:=by unfold sbAt;rw[zF,List.getElem?_eq_getElem hi];rfl
  have h1:=hR.sb i (by omega);have h2:=hR.fc i (by omega);have h3:=hR.n8 i (by omega);have h4:=hR.n4 i (by omega);have h5:=(hv.subs.faces i (by omega)).2.2;rw[e]at h1 h2 h3 h4 h5;simp only[rJ,zH]at h1;have hrt:rt v.ss[i].a v.ss[i].l=true:=by
   obtain⟨k, -,hk⟩:=ZU h1.2;exact TX hk
  refine⟨jC h1.1,hrt,h3,fun f hf=>?_⟩;obtain⟨j,hj,rfl⟩:=List.getElem_of_mem hf;have hfl:=h5.len;have e2:fcAt v.ss[i].fs j=v.ss[i].fs[j]:=by unfold fcAt;rw[zF,List.getElem?_eq_getElem hj];rfl
  have h6:=h4 j (by omega);have h7:=(h5.addrs j (by omega)).2.2.len;rw[e2]at h6 h7;simp only[sZ,zH]at h2;have h8:=List.all_eq_true.1 h2.1.1 j (List.mem_range.2 (by omega));unfold qL at h8;rw[e2]at h8;exact ZV hrt h6 h7 h8
theorem SiN.of(hs:Si w x n c ps vx vn vc vs lx ln ls)(h:mS t ps vn vs ln ls=0):SiN w t ps vs ls n vn ln:=by
 obtain⟨hB,hN, -⟩:=KX h;have rb:=nB hs.bk.full hB;obtain⟨h6,h12,hr,hc⟩:=vL hN;have hpl:=hs.bk.ps.len;have hvl:=hs.vps.len;have hll:=hs.lk.len;have hid:∀y,¬aJ vn vs y<0->num y:=fun y hy=>by
  obtain⟨i,hi,rfl⟩:=KU.1 hy;exact jC (rO (hc i hi)).1
 refine⟨⟨rb.t0,by have:=rb.t1;omega⟩,fun p hp=>?_,fun z hz=>?_,fun l hl=>?_,by have:=rb.few;omega,h6,h12⟩
 ·obtain⟨i,hi,rfl⟩:=List.getElem_of_mem hp;have e:poAt ps i=ps[i]:=bC hi;have h1:=(hs.bk.ps.leases i (by omega)).2.2;rw[e]at h1;have h2:=rb.n32 _ hp;have h3:=h1.len;refine⟨h1,by omega,rb.root _ hp,jC (rb.idw _ hp),?_,fun e he=>?_⟩
  ·obtain⟨f,hf⟩:=rb.ups _ hp
   cases f with
   |zero=>cases hf
   |succ f=>
    unfold lL at hf
    by_cases c0:ps[i].up=0
    ·rw[c0];exact⟨by omega,by omega⟩
    ·rw[if_neg c0]at hf;by_cases c1:aO ps ps[i].up<0
     ·rw[if_pos c1]at hf;cases hf
     ·obtain⟨j,hj, -,hjd⟩:=aX c1;rw[<-hjd];exact jC (rb.idw _ (poAt_mem hj))
  ·have hrt:rt e.a e.l=true:=TX ((rb.used _ hp).inn (e.a,e.l) (List.mem_map.2 ⟨e,he,rfl⟩));rcases rb.les _ hp e he with ⟨-,h4,h5⟩|⟨-,h5,q,hq,h4, -⟩|⟨-,h4,h5,h7⟩
   ·exact⟨hrt,jC h4,by rw[h5];exact⟨by omega,by omega⟩⟩
   ·exact⟨hrt,by rw[<-h4];exact jC (rb.idw q hq),by rw[h5];exact⟨by omega,by omega⟩⟩
   ·have:=rb.t0;have:=rb.t1;exact⟨hrt,by rw[h4];exact⟨by omega,by omega⟩,⟨by omega,by omega⟩⟩
 ·obtain⟨i,hi,rfl⟩:=List.getElem_of_mem hz;have e:aE vs i=vs[i]:=by unfold aE;rw[zF,List.getElem?_eq_getElem hi];rfl
  have h1:=(hs.vps.vps i (by omega)).2.2.2;have h2:=hc i (by omega);rw[e]at h1 h2;exact ZW h1 h2
 ·obtain⟨i,hi,rfl⟩:=List.getElem_of_mem hl;obtain⟨-, -, -,hlk, -⟩:=lW hN;simp only[eR,zH,Bool.not_eq_true']at hlk;have h1:uZ vn vs ls i=false:=by
   cases hb:uZ vn vs ls i with
   |false=>rfl
   |true=>
    have:=bR (n:=ln) (k:=i) (by omega) hb
    rw[hlk.2]at this
    cases this
  have e:ls.getD i (0,0)=ls[i]:=by rw[zF,List.getElem?_eq_getElem hi];rfl
  simp only[uZ,cM,eF,e,Bool.or_eq_false_iff,decide_eq_false_iff_not]at h1;exact⟨hid _ h1.1.2,hid _ h1.2⟩
structure Cm where
 op:Int
 a:Int
 b:Int
 c:Int
 p:Int
 l:Int
 mn:Int
 mx:Int
 us:Int
 co:Int
def Cm.num(c:Cm)(k:Nat):Int:=
 match k with
 |0=>c.a|1=>c.b|2=>c.c|3=>c.p|4=>c.l|5=>c.mn|6=>c.mx|7=>c.us|_=>c.co
def XS(n:Int):List Int:=[n/16777216%256,n/65536%256,n/256%256,n%256]
def WN(n:Int):List Int:=[n%256,n/256%256,n/65536%256,n/16777216%256]
def vP(c:Cm):Nat->List Int
 |0=>[]
 |k+1=>vP c k++XS (c.num k)
def lZ(c:Cm)(k:Nat):List Int:=c.op%256::vP c k
def cmdB(c:Cm):List Int:=lZ c 9
theorem vQ(c:Cm):∀k,(lZ c k).length=1+4*k
 |0=>rfl
 |k+1=>by
  have:=vQ c k;simp only[lZ,vP,XS,List.length_cons,List.length_append,List.length_nil]at this⊢;omega
theorem mA(c:Cm):(cmdB c).length=37:=vQ c 9
theorem K5(c:Cm)(k:Nat):lZ c (k+1)=lZ c k++XS (c.num k):=rfl
def FL(n:Int):Bool:=decide (-2147483648<=n)&&decide (n<=2147483647)
def okCm(c:Cm):Bool:=decide (0<=c.op)&&decide (c.op<=255)&&(List.range 9).all fun k=>FL (c.num k)
theorem A9{n:Int}:FL n=true↔ -2147483648<=n/\n<=2147483647:=by unfold FL;simp
theorem IH{c:Cm}(h0:0<=c.op)(h1:c.op<=255)(h:∀k,k<9->FL (c.num k)=true):okCm c=true:=by
 unfold okCm;simp only[zH,decide_eq_true_eq,List.all_eq_true,List.mem_range];exact⟨⟨h0,h1⟩,h⟩
theorem MI{c:Cm}(h:okCm c=true):0<=c.op/\c.op<=255:=by
 unfold okCm at h;simp only[zH,decide_eq_true_eq]at h;exact h.1
theorem II{c:Cm}(h:okCm c=true)(k:Nat)(hk:k<9):FL (c.num k)=true:=by
 unfold okCm at h;simp only[zH,decide_eq_true_eq,List.all_eq_true,List.mem_range]at h;exact h.2 k hk
theorem yD{c:Cm}(hk:k<9)(h:FL (c.num k)=false):okCm c=false:=by
 cases hc:okCm c
 ·rfl
 ·rw[II hc k hk]at h
  cases h
theorem TY{c:Cm}(h:c.op<0\/255<c.op):okCm c=false:=by
 cases hc:okCm c
 ·rfl
 ·have:=MI hc;omega
def qF(xs:List Int)(i:Nat):Int:=xs.getD i 0
def sgn(v:Int):Int:=if 2147483648<=v then v- 4294967296 else v
def TZ(a b c d:Int):Int:=16777216*a+65536*b+256*c+d
def fL(xs:List Int)(k:Nat):Int:=sgn (TZ (qF xs (4*k+1)) (qF xs (4*k+2)) (qF xs (4*k+3)) (qF xs (4*k+4)))
def wY(xs:List Int):Cm:=⟨qF xs 0,fL xs 0,fL xs 1,fL xs 2,fL xs 3,fL xs 4,fL xs 5,fL xs 6,fL xs 7,fL xs 8⟩
def BO(xs:List Int):Prop:=∀x∈xs,0<=x/\x<=255
theorem mU(h:BO xs)(i:Nat):0<=qF xs i/\qF xs i<=255:=by
 unfold qF;rw[zF];by_cases hi:i<xs.length
 ·rw[List.getElem?_eq_getElem hi];exact h _ (List.getElem_mem hi)
 ·rw[List.getElem?_eq_none (by omega)];exact⟨by decide,by decide⟩
theorem WO(n:Int):BO (XS n):=by
 intro x hx;simp only[XS,List.mem_cons,List.not_mem_nil,or_false]at hx;omega
theorem WP(n:Int):BO (WN n):=by
 intro x hx;simp only[WN,List.mem_cons,List.not_mem_nil,or_false]at hx;omega
theorem rV(h:BO xs)(g:BO ys):BO (xs++ys):=fun x hx=>by
 rcases List.mem_append.1 hx with hx|hx
 ·exact h x hx
 ·exact g x hx
theorem BA{x:Int}(h:0<=x/\x<=255)(g:BO ys):BO (x::ys):=fun y hy=>by
 rcases List.mem_cons.1 hy with rfl|hy
 ·exact h
 ·exact g y hy
theorem BB(c:Cm):∀k,BO (vP c k)
 |0=>fun x hx=>by cases hx
 |k+1=>rV (BB c k) (WO _)
theorem PH(c:Cm)(k:Nat):BO (lZ c k):=BA (by omega) (BB c k)
theorem jD{n:Int}(h:FL n=true):sgn (TZ (n/16777216%256) (n/65536%256) (n/256%256) (n%256))=n:=by
 rw[A9]at h;unfold sgn TZ;split<;>omega
theorem PI{c:Cm}(h:okCm c=true):wY (cmdB c)=c:=by
 have ho:=MI h;have hn:=II h;obtain⟨op,a,b,d,p,l,mn,mx,us,co⟩:=c;have e0:=jD (hn 0 (by omega));have e1:=jD (hn 1 (by omega));have e2:=jD (hn 2 (by omega));have e3:=jD (hn 3 (by omega));have e4:=jD (hn 4 (by omega));have e5:=jD (hn 5 (by omega));have e6:=jD (hn 6 (by omega));have e7:=jD (hn 7 (by omega));have e8:=jD (hn 8 (by omega));simp only[Cm.num]at e0 e1 e2 e3 e4 e5 e6 e7 e8;simp only[wY,fL,cmdB,lZ,vP,XS,qF,Cm.num,List.nil_append,List.cons_append,zJ,zI,Nat.mul_zero,Nat.zero_add,Nat.reduceMul,Nat.reduceAdd,e0,e1,e2,e3,e4,e5,e6,e7,e8];congr 1;show op%256=op;have:0<=op/\op<=255:=ho;omega
def wZ(xs:List Int):Nat->Int
 |0=>0
 |k+1=>wZ xs k+((k:Int)+1)*qF xs k
def ZX(xs:List Int):Int:=wZ xs xs.length
theorem pD(h:BO xs):∀k,k<=256->0<=wZ xs k/\wZ xs k<=65280*k
 |0,_=>⟨by simp[wZ],by simp[wZ]⟩
 |k+1,hk=>by
  obtain⟨i0,i1⟩:=pD h k (by omega);obtain⟨b0,b1⟩:=mU h k;have m0:0<=((k:Int)+1)*qF xs k:=Int.mul_nonneg (by omega) b0;have m1:((k:Int)+1)*qF xs k<=256*255:=Int.mul_le_mul (by omega) b1 b0 (by omega);simp only[wZ];omega
def frameB(xs:List Int):List Int:=((xs.length:Int)::xs)++WN (ZX ((xs.length:Int)::xs))
theorem K6(xs:List Int):(frameB xs).length=xs.length+5:=by
 unfold frameB WN;simp
theorem vT(h:BO xs)(hl:xs.length<=255):BO (frameB xs):=rV (BA (by omega) h) (WP _)
theorem BC(xs:List Int):((frameB xs).drop 1).take xs.length=xs:=by
 unfold frameB;simp
def BP(xs:List Int):Bool:=decide (42<=xs.length)&&decide (frameB ((xs.drop 1).take 37)=xs.take 42)
def rp:Nat->List Int->List Cm
 |0,_=>[]
 |f+1,xs=>if BP xs=true then wY ((xs.drop 1).take 37)::rp f (xs.drop 42)else[]
theorem T0:∀(f:Nat) (xs:List Int),(rp f xs).length<=f
 |0,_=>by simp[rp]
 |f+1,xs=>by
  unfold rp;have:=T0 f (xs.drop 42);split
  ·simp;omega
  ·simp
def gC(l:List Cm):List Int:=l.flatMap fun c=>frameB (cmdB c)
theorem qC(c:Cm)(l:List Cm):gC (c::l)=frameB (cmdB c)++gC l:=by simp[gC]
theorem PJ(c:Cm)(l:List Cm):gC (l++[c])=gC l++frameB (cmdB c):=by simp[gC]
theorem vU(c:Cm):(frameB (cmdB c)).length=42:=by rw[K6,mA]
theorem tS:∀l:List Cm,(gC l).length=42*l.length
 |[]=>rfl
 |c::l=>by rw[qC,List.length_append,vU,tS l,List.length_cons];omega
theorem PK(c:Cm)(ys:List Int):BP (frameB (cmdB c)++ys)=true:=by
 have hl:=vU c;have ht:=BC (cmdB c);rw[mA]at ht;unfold BP;simp only[zH,decide_eq_true_eq];refine⟨by rw[List.length_append];omega,?_⟩;rw[List.drop_append_of_le_length (by omega),List.take_append_of_le_length (by rw[List.length_drop];omega),ht,List.take_append_of_le_length (by omega),List.take_of_length_le (by omega)]
theorem IJ{c:Cm}(h:okCm c=true)(f:Nat)(ys:List Int):rp (f+1) (frameB (cmdB c)++ys)=c::rp f ys:=by
 have hl:=vU c;have ht:=BC (cmdB c);rw[mA]at ht;rw[show rp (f+1) (frameB (cmdB c)++ys)=if BP (frameB (cmdB c)++ys)=true then wY (((frameB (cmdB c)++ys).drop 1).take 37)::rp f ((frameB (cmdB c)++ys).drop 42)else[]from rfl,if_pos (PK c ys)];rw[List.drop_append_of_le_length (by omega),List.take_append_of_le_length (by rw[List.length_drop];omega),ht,PI h,List.drop_append_of_le_length (by omega),List.drop_of_length_le (by omega)];rfl
theorem T1:∀(l:List Cm) (f k:Nat),(∀c∈l,okCm c=true)->l.length<=f->k<=42*l.length->rp f ((gC l).take k)=l.take (k/42)
 |[],f,k,_,_,hk=>by
  have:k=0:=by simpa using hk
  subst this
  cases f with
  |zero=>rfl
  |succ f=>rfl
 |c::l,f,k,h,hf,hk=>by
  have hl:=vU c
  cases f with
  |zero=>simp at hf
  |succ f=>
   rw[qC]
   by_cases h42:42<=k
   ·rw[List.take_append,List.take_of_length_le (by omega),IJ (h c (by simp)),hl,T1 l f (k- 42) (fun d hd=>h d (by simp[hd])) (by simpa using hf) (by simp only[List.length_cons]at hk;omega)];rw[show k/42=(k- 42)/42+1 by omega,List.take_succ_cons]
   ·rw[show k/42=0 by omega,List.take_zero];unfold rp;rw[if_neg];unfold BP;rw[zH,decide_eq_true_eq,List.length_take];omega
theorem MJ:∀(l:List Cm) (f:Nat) (ys:List Int),(∀c∈l,okCm c=true)->l.length<=f->rp f (gC l++ys)=l++rp (f- l.length) ys
 |[],f,ys,_,_=>by simp[gC]
 |c::l,f,ys,h,hf=>by
  cases f with
  |zero=>simp at hf
  |succ f=>
   rw[qC,List.append_assoc,IJ (h c (by simp)),MJ l f ys (fun d hd=>h d (by simp[hd])) (by simpa using hf)]
   simp
end Go.Proofs.YtjphnaccgfjnjaaGreatDoor
