/- A part of the proof. -/
import Derived.Test.YtkgeoeglidnnnaaGreatDoorMD08
set_option maxRecDepth 100000
set_option maxHeartbeats 20000000
namespace Go.Proofs.YtkgeoeglidnnnaaGreatDoor
variable {E E' vid c m a y z : Int} {w w' W W' : World} {V u v vR vS : Value} {ss ts : List Sb} {i base b o g base' rn rc sn sc bm n hx ln : Nat} {cs cur : Array Value} {t : TypeId} {rs : List Rg} {rx sx x : Option Addr} {fs gs : List Fc} {s : Sb} {e : Ending} {T : Nat → Bool} {listed : Array Bool} {P : Program} {ops : Array Oper} {Q : Exit → Act → World → Prop} {S C : World → Prop} {oi : Oper} {l rest : List Oper} {r : Option Nat} {A : Act} {ls : List (Int × Int)} {vs : List Vn}
open Go.RowKit Go.Shelf
def nX(E:Int)(R:World->Value->Prop)(w:World)(e:Ending)(w':World):Prop:=
 ∃V,e= .returned (.tuple #[V, .int .i64 E])/\Below w.heap.size w w'/\(E≠0->V= .agg #[.int .i64 0, .slice none 0 0, .slice none 0 0])/\(E=0->R w' V)
theorem nX.err{R:World->Value->Prop}(hE:E=E'/\E'≠0)(hb:Below w.heap.size w w'):
  nX E R w (.returned (.tuple #[.agg #[.int .i64 0, .slice none 0 0, .slice none 0 0], .int .i64 E'])) w':=
 ⟨_,by rw[hE.1],hb,fun _=>rfl,fun h=>absurd (hE.1.symm.trans h) hE.2⟩
theorem nX.ok{R:World->Value->Prop}(hE:E=0)(hb:Below w.heap.size w w')(h:R w' V):
  nX E R w (.returned (.tuple #[V, .int .i64 0])) w':=
 ⟨_,by rw[hE],hb,fun h'=>absurd hE h',fun _=>h⟩
def FcB(w:World)(s:Sb):Prop:=s.n<=s.c/\s.n<=9223372036854775807/\oW w s.x s.n s.fs
theorem R5(h:i<ss.length):aG ss i∈ss:=by
 unfold aG;rw[zF,List.getElem?_eq_getElem h];exact List.getElem_mem h
theorem dC.put(h:dC w base v ss)(hb:b<base):dC (w.setCell ⟨b,o,none⟩ u) base v ss:=
 h.kept (aN _ _ _ _) (fun k hk=>by have:=h.lt k hk;omega)
theorem dC.putBox(h:dC w base v ss)(hb:w.heap[b]?=some (.cells cs t))(h1:t≠72):dC (w.setCell ⟨b,o,none⟩ u) base v ss:=
 h.kept (aN _ _ _ _) (fun k hk e=>by subst e;exact h.ne hb h1 hk)
def E6(w:World)(base:Nat)(ss:List Sb):Prop:=∀s∈ss,nV w base (.slice s.x s.n s.c) s.fs s.fs.length
theorem kN.ofa(h:kN w base v ss ss.length):E6 w base ss:=fun s hs=>by
 obtain⟨i,hi,rfl⟩:=List.getElem_of_mem hs;have e:aG ss i=ss[i]:=by unfold aG;rw[zF,List.getElem?_eq_getElem hi];rfl
 have:=h.own i hi;rw[e]at this;exact this
theorem E6.keptOf(h:E6 w base ss)(hg:w.grownBy w' (some g))(hb:w.heap[g]?=some (.cells cur t))(h1:t≠75)(h2:t≠3):E6 w' base ss:=fun s hs=>(h s hs).kept_of hg hb h1 h2
theorem E6.put(h:E6 w base ss)(hb:b<base):E6 (w.setCell ⟨b,o,none⟩ u) base ss:=fun s hs=>
 (h s hs).kept (aN _ _ _ _) (fun k hk=>by have:=(h s hs).row.lt k hk;omega) (fun j hj k hk=>by have:=((h s hs).own j hj).lt k hk;omega)
theorem E6.fcb(h:E6 w base ss):∀s∈ss,FcB w s:=fun s hs=>by
 obtain⟨g1,g2,g3,g4⟩:=(h s hs).fcs;exact⟨g3,Nat.le_trans g3 g4,g1⟩
def PU(w:World)(base:Nat)(vid:Int)(v:Value)(rs:List Rg)(ss:List Sb):Prop:=∃vR vS,v= .agg #[.int .i64 vid,vR,vS]/\bT w base vR rs/\dC w base vS ss/\E6 w base ss
theorem PU.mk{b1 b2 b3:Nat}(hR:bT w b1 vR rs)(h1:base<=b1)(hS:dC w b2 vS ss)(h2:base<=b2)(hF:E6 w b3 ss)(h3:base<=b3):PU w base vid (.agg #[.int .i64 vid,vR,vS]) rs ss:=
 ⟨vR,vS,rfl,hR.low h1,hS.low h2,fun s hs=>(hF s hs).low h3⟩
theorem E6.low(h:E6 w base ss)(hb:base'<=base):E6 w base' ss:=fun s hs=>(h s hs).low hb
def X9(e:Sb)(qs rs:List Sb):Prop:=∃i,i<=qs.length/\(∀j,j<i->¬e.id<(aG qs j).id)/\(i<qs.length->e.id<(aG qs i).id)/\rs=qs.take i++[e]++qs.drop i
def sE(vid:Int)(rn:Nat)(rs:List Rg)(sn:Nat)(ss:List Sb)(id c m:Int):Int:=
 if bN vid rn rs sn ss≠0 then bN vid rn rs sn ss else if oY rn rs id c m=false then 3 else if 0<=cG sn (fun i=>(aG ss i).id==id)\/anyAt sn (AX ss c m)=true then 6 else if sn=6 then 2 else 0
def aEo(vid:Int)(rs:List Rg)(ss:List Sb)(id c m:Int)(base:Nat)(w:World)(V:Value):Prop:=∃ts ss',PU w base vid V rs ss'/\cO ss ts/\X9 ⟨id,c,m,none,0,0,[]⟩ ts ss'
structure TU(w W:World)(vid:Int)(rx:Option Addr)(rn rc:Nat)(sx:Option Addr)(sn sc:Nat)(c m:Int):Prop where
 hb:W.heap[w.heap.size]?=some (.cells #[.int .i64 vid, .slice rx rn rc, .slice sx sn sc] 51)
 hp:W.heap[w.heap.size+1]?=some (.cells #[.int .i64 c, .int .i64 m] 53)
 hs:W.heap[w.heap.size+2]?=some (.cells #[.int .i64 0, .slice none 0 0, .slice none 0 0] 51)
 below:Below w.heap.size w W
theorem TU.later(h:TU w W vid rx rn rc sx sn sc c m)(hb:Below W.heap.size W W'):TU w W' vid rx rn rc sx sn sc c m:=
 ⟨aA hb h.hb,aA hb h.hp,aA hb h.hs,h.below.trans (hb.mono h.below.size)⟩
theorem R6(vid:Int)(rx:Option Addr)(rn rc:Nat)(rs:List Rg)(sx:Option Addr)(sn sc:Nat)(ss:List Sb)(id c m:Int)(w:World)(hv:Vp w rx rn rc rs sx sn sc ss)(hrn:rn<=9223372036854775807)(hsn:sn<=9223372036854775807)(hrc:rc<=9223372036854775807):
  Calls Tryz.prog 198 #[.agg #[.int .i64 vid, .slice rx rn rc, .slice sx sn sc], .int .i64 id, .agg #[.int .i64 c, .int .i64 m]] w (nX (sE vid rn rs sn ss id c m) (aEo vid rs ss id c m w.heap.size) w):=by
 have hrl:Hid (rs.length=rn):=hv.ranges.len;have hsl:Hid (ss.length=sn):=hv.subs.len;go_enter Tryz.func198,Tryz.ntmps198;go_upto_region 1 with fail
 obtain⟨w0,hw0⟩:∃w0,w0=((w.alloc (eH vid (.slice rx rn rc) (.slice sx sn sc))).alloc (.cells #[.int .i64 c, .int .i64 m] 53)).alloc (eH 0 (.slice none 0 0) (.slice none 0 0)):=⟨_,rfl⟩;rw[<-hw0];have hT0:TU w w0 vid rx rn rc sx sn sc c m:=by
  rw[hw0];exact⟨aH _ (aH _ (aB _ rfl)),aH _ (aB _ (by simp)),aB _ (by simp),(bP w _ _).alloc (by simp;omega) _⟩
 clear hw0;obtain⟨b0,b1,b2⟩:=bZ hT0.hb rfl rfl rfl;obtain⟨p0,p1⟩:=aZ hT0.hp rfl rfl;obtain⟨s0,s1,s2⟩:=bZ hT0.hs rfl rfl rfl;obtain⟨zs0,zs1,zs2⟩:=fB hT0.hs;have hck:=checkV_any vid rx rn rc rs sx sn sc ss w0 (hv.later hT0.below) hrn hsn hrc;by_cases hc0:bN vid rn rs sn ss=0
 ·rw[hc0]at hck;obtain⟨f1,f2,f3,f4⟩:=jK hc0;have hE1:Hid (sE vid rn rs sn ss id c m=if oY rn rs id c m=false then 3 else if 0<=cG sn (fun i=>(aG ss i).id==id)\/anyAt sn (AX ss c m)=true then 6 else if sn=6 then 2 else 0):=if_neg (c:=bN vid rn rs sn ss≠0) (by simp[hc0]);clear hc0;go_wp2_with fail;refine(hck).mono ?_;rintro e w1 ⟨rfl,hbw1⟩;have hT1:=hT0.later hbw1;clear b0 b1 b2 p0 p1 s0 zs0 s1 zs1 s2 zs2;obtain⟨b0,b1,b2⟩:=bZ hT1.hb rfl rfl rfl;obtain⟨p0,p1⟩:=aZ hT1.hp rfl rfl;obtain⟨s0,s1,s2⟩:=bZ hT1.hs rfl rfl rfl;obtain⟨zs0,zs1,zs2⟩:=fB hT1.hs;have hsr:=fun t h=>kC vid id c m rx sx rn rc sn sc rs t h w1 (hv.later hT1.below).ranges (by omega)
  cases hrg:oY rn rs id c m with
  |false=>
   have hne:sE vid rn rs sn ss id c m=3/\(3:Int)≠0:=⟨hE1.out.trans (if_pos hrg),by decide⟩
   go_wp2_with fail
   refine(hsr _ hrg).mono ?_
   rintro e w2 ⟨rfl,hbw2⟩
   have hT2:=hT1.later hbw2
   clear b0 b1 b2 p0 p1 s0 zs0 s1 zs1 s2 zs2
   obtain⟨b0,b1,b2⟩:=bZ hT2.hb rfl rfl rfl
   obtain⟨p0,p1⟩:=aZ hT2.hp rfl rfl
   obtain⟨s0,s1,s2⟩:=bZ hT2.hs rfl rfl rfl
   obtain⟨zs0,zs1,zs2⟩:=fB hT2.hs
   go_wp2
   refine bodyPost_ret (v:= .tuple #[.agg #[.int .i64 0, .slice none 0 0, .slice none 0 0], .int .i64 3]) (by simp[results,Tryz.results198,go_sem,s0,s1,s2]) rfl ?_
   exact nX.err hne (((hT2.below.setCell (p:=⟨w.heap.size+2,0,none⟩) (zA) _).setCell (p:=⟨w.heap.size+2,1,none⟩) (zA) _).setCell (p:=⟨w.heap.size+2,2,none⟩) (zA) _)
  |true=>
   have hE2:Hid (sE vid rn rs sn ss id c m=if 0<=cG sn (fun i=>(aG ss i).id==id)\/anyAt sn (AX ss c m)=true then 6 else if sn=6 then 2 else 0):=hE1.out.trans (if_neg (by simp[hrg]))
   go_wp2_with fail
   refine(hsr _ hrg).mono ?_
   rintro e w2 ⟨rfl,hbw2⟩
   have hT2:=hT1.later hbw2
   clear b0 b1 b2 p0 p1 s0 zs0 s1 zs1 s2 zs2
   obtain⟨b0,b1,b2⟩:=bZ hT2.hb rfl rfl rfl
   obtain⟨p0,p1⟩:=aZ hT2.hp rfl rfl
   obtain⟨s0,s1,s2⟩:=bZ hT2.hs rfl rfl rfl
   obtain⟨zs0,zs1,zs2⟩:=fB hT2.hs
   have hsp:=sD vid id rx rn rc sx sn sc ss w2 (hv.later hT2.below).subs (by omega)
   generalize hfp:cG sn (fun i=>(aG ss i).id==id)=fp at hsp hE2
   by_cases hge:0<=fp
   ·have hne:sE vid rn rs sn ss id c m=6/\(6:Int)≠0:=⟨hE2.out.trans (if_pos (.inl hge)),by decide⟩;go_wp2_with fail;refine(hsp).mono ?_;rintro e w3 ⟨rfl,hbw3⟩;have hT3:=hT2.later hbw3;clear b0 b1 b2 p0 p1 s0 zs0 s1 zs1 s2 zs2;obtain⟨b0,b1,b2⟩:=bZ hT3.hb rfl rfl rfl;obtain⟨p0,p1⟩:=aZ hT3.hp rfl rfl;obtain⟨s0,s1,s2⟩:=bZ hT3.hs rfl rfl rfl;obtain⟨zs0,zs1,zs2⟩:=fB hT3.hs;go_wp2;refine bodyPost_ret (v:= .tuple #[.agg #[.int .i64 0, .slice none 0 0, .slice none 0 0], .int .i64 6]) (by simp[results,Tryz.results198,go_sem,s0,s1,s2]) rfl ?_;exact nX.err hne (((hT3.below.setCell (p:=⟨w.heap.size+2,0,none⟩) (zA) _).setCell (p:=⟨w.heap.size+2,1,none⟩) (zA) _).setCell (p:=⟨w.heap.size+2,2,none⟩) (zA) _)
   ·go_wp2_with fail;refine(hsp).mono ?_;rintro e w3 ⟨rfl,hbw3⟩;have hT3:=hT2.later hbw3;clear b0 b1 b2 p0 p1 s0 zs0 s1 zs1 s2 zs2;obtain⟨b0,b1,b2⟩:=bZ hT3.hb rfl rfl rfl;obtain⟨p0,p1⟩:=aZ hT3.hp rfl rfl;obtain⟨s0,s1,s2⟩:=bZ hT3.hs rfl rfl rfl;obtain⟨zs0,zs1,zs2⟩:=fB hT3.hs;have hmt:=rS c m sx sn sc ss w3 (hv.later hT3.below).subs (by omega)
    cases hany:anyAt sn (AX ss c m)with
    |true=>
     rw[hany]at hmt
     have hne:sE vid rn rs sn ss id c m=6/\(6:Int)≠0:=⟨hE2.out.trans (if_pos (.inr hany)),by decide⟩
     go_wp2_with fail
     refine(hmt).mono ?_
     rintro e w4 ⟨rfl,hbw4⟩
     have hT4:=hT3.later hbw4
     clear b0 b1 b2 p0 p1 s0 zs0 s1 zs1 s2 zs2
     obtain⟨b0,b1,b2⟩:=bZ hT4.hb rfl rfl rfl
     obtain⟨p0,p1⟩:=aZ hT4.hp rfl rfl
     obtain⟨s0,s1,s2⟩:=bZ hT4.hs rfl rfl rfl
     obtain⟨zs0,zs1,zs2⟩:=fB hT4.hs
     go_wp2
     refine bodyPost_ret (v:= .tuple #[.agg #[.int .i64 0, .slice none 0 0, .slice none 0 0], .int .i64 6]) (by simp[results,Tryz.results198,go_sem,s0,s1,s2]) rfl ?_
     exact nX.err hne (((hT4.below.setCell (p:=⟨w.heap.size+2,0,none⟩) (zA) _).setCell (p:=⟨w.heap.size+2,1,none⟩) (zA) _).setCell (p:=⟨w.heap.size+2,2,none⟩) (zA) _)
    |false=>
     rw[hany]at hmt
     have hE3:Hid (sE vid rn rs sn ss id c m=if sn=6 then 2 else 0):=hE2.out.trans (if_neg (by rw[hany];simp;omega))
     by_cases h6:sn=6
     ·subst h6;have hne:sE vid rn rs 6 ss id c m=2/\(2:Int)≠0:=⟨hE3.out.trans (if_pos rfl),by decide⟩;go_wp2_with fail;refine(hmt).mono ?_;rintro e w4 ⟨rfl,hbw4⟩;have hT4:=hT3.later hbw4;clear b0 b1 b2 p0 p1 s0 zs0 s1 zs1 s2 zs2;obtain⟨b0,b1,b2⟩:=bZ hT4.hb rfl rfl rfl;obtain⟨p0,p1⟩:=aZ hT4.hp rfl rfl;obtain⟨s0,s1,s2⟩:=bZ hT4.hs rfl rfl rfl;obtain⟨zs0,zs1,zs2⟩:=fB hT4.hs;go_wp2;refine bodyPost_ret (v:= .tuple #[.agg #[.int .i64 0, .slice none 0 0, .slice none 0 0], .int .i64 2]) (by simp[results,Tryz.results198,go_sem,s0,s1,s2]) rfl ?_;exact nX.err hne (((hT4.below.setCell (p:=⟨w.heap.size+2,0,none⟩) (zA) _).setCell (p:=⟨w.heap.size+2,1,none⟩) (zA) _).setCell (p:=⟨w.heap.size+2,2,none⟩) (zA) _)
     ·have hE0:Hid (sE vid rn rs sn ss id c m=0):=hE3.out.trans (if_neg h6);have hv3:=fun W (hW:Below w.heap.size w W)=>fM vid rx rn rc rs sx sn sc ss W (hv.later hW) (by omega) (by omega) (fun i hi=>by have:=f3 i hi;omega) (fun i hi j hj=>by have:=f4 i hi j hj;omega);go_wp2_with fail;refine(hmt).mono ?_;rintro e w4 ⟨rfl,hbw4⟩;have hT4:=hT3.later hbw4;clear b0 b1 b2 p0 p1 s0 zs0 s1 zs1 s2 zs2;obtain⟨b0,b1,b2⟩:=bZ hT4.hb rfl rfl rfl;obtain⟨p0,p1⟩:=aZ hT4.hp rfl rfl;obtain⟨s0,s1,s2⟩:=bZ hT4.hs rfl rfl rfl;obtain⟨zs0,zs1,zs2⟩:=fB hT4.hs;go_wp2_with fail;refine(hv3 _ hT4.below).mono ?_;rintro e w5 ⟨vR,vS,ts,rfl,hOR,hss,hOS,hb5⟩;have hT5:=hT4.later hb5;obtain⟨xr,cr,rfl, -⟩:=hOR.rs;obtain⟨xt,ct,rfl,ht1,ht2,ht3⟩:=hOS.subs;have htl:Hid (ts.length=sn):=by unfold Hid;rw[<-hss.1];exact hsl.out
      have hxt:(xt=none/\ct=0)\/∃b o,xt=some ⟨b,o,none⟩:=by
       rcases hOS.row.2 with ⟨hv', -⟩|⟨g2,cap2,cur2,hv', -⟩
       ·simp only[Value.slice.injEq]at hv';exact .inl ⟨hv'.1,hv'.2.2⟩
       ·simp only[Value.slice.injEq]at hv';exact .inr ⟨_,_,hv'.1⟩
      clear b0 b1 b2 p0 p1 s0 zs0 s1 zs1 s2 zs2;go_upto_region 12 with fail
      obtain⟨w6,hw6⟩:∃w6,w6=w5.alloc (eH vid (.slice xr rs.length cr) (.slice xt ts.length ct)):=⟨_,rfl⟩;rw[<-hw6];have hb56:Below w5.heap.size w5 w6:=by rw[hw6];exact bl1 _ _
      have hn6:w6.heap[w5.heap.size]?=some (eH vid (.slice xr rs.length cr) (.slice xt ts.length ct)):=by rw[hw6];exact aB _ rfl
      clear hw6;have hT6:=hT5.later hb56;have n2:=aO hn6 2 rfl;have n2':∀o,(w6.alloc o).cell? ⟨w5.heap.size,2,none⟩=some (.slice xt ts.length ct):=fun o=>aF (bl1 w6 o) n2;obtain⟨p0,p1⟩:=aZ hT6.hp rfl rfl;have p0':∀o,(w6.alloc o).cell? ⟨w.heap.size+1,0,none⟩=some (.int .i64 c):=fun o=>aF (bl1 w6 o) p0;have p1':∀o,(w6.alloc o).cell? ⟨w.heap.size+1,1,none⟩=some (.int .i64 m):=fun o=>aF (bl1 w6 o) p1;have hput:=fun W (hW:Below w6.heap.size w6 W) hby=>RM ⟨id,c,m,none,0,0,[]⟩ xt ts.length ct ts w6.heap.size 1 W ((ht1.later hb56).later hW) (by rw[htl.out];omega) ht2 ht3 hxt hby;go_wp2_with fail;refine(hput _ (bl1 w6 _) (by simp)).mono ?_;rintro e w7 ⟨v7,rfl,hb7,i,hi,hlow,hup,hO7⟩;obtain⟨qs,hqs⟩:∃qs,Hid (qs=ts.take i++[(⟨id,c,m,none,0,0,[]⟩:Sb)]++ts.drop i):=⟨_,rfl⟩;rw[<-hqs.out]at hO7;obtain⟨x7,c7,rfl, -⟩:=hO7.mem;have hb67:Below w6.heap.size w6 w7:=(bl1 w6 _).trans (hb7.mono (by simp));have hT7:=hT6.later hb67;have hn7:=aA hb67 hn6;have hOS7:=kN.later (kN.later hOS hb56) hb67;have hOR7:=bT.later (bT.later hOR hb56) hb67;clear n2 n2' p0 p1 p0' p1';have hsz4:w.heap.size+2<w4.heap.size:=(zG hT4.hs);have hz5:w.heap.size+2<w5.heap.size:=Nat.lt_of_lt_of_le hsz4 hb5.size;have hz6:w.heap.size+2<w6.heap.size:=Nat.lt_of_lt_of_le hz5 hb56.size;have m0:=aO hn7 0 rfl;have m1:=aO hn7 1 rfl;have m2:=aO hn7 2 rfl;have zm:=(aD hn7).2 2;obtain⟨s0,s1,s2⟩:=bZ hT7.hs rfl rfl rfl;obtain⟨zs0,zs1,zs2⟩:=fB hT7.hs;have ne1:¬w5.heap.size=w.heap.size+2:=by omega
      have ne2:¬w.heap.size+2=w5.heap.size:=by omega
      go_wp2;refine bodyPost_ret (v:= .tuple #[.agg #[.int .i64 vid, .slice xr rs.length cr, .slice x7 qs.length c7], .int .i64 0]) (by simp[results,Tryz.results198,go_sem,s0,s1,s2]) rfl ?_;have hfin:=(((hT7.below.setCell (p:=⟨w5.heap.size,2,none⟩) (by show w.heap.size<=w5.heap.size;omega) (.slice x7 qs.length c7)).setCell (p:=⟨w.heap.size+2,0,none⟩) (zA) (.int .i64 vid)).setCell (p:=⟨w.heap.size+2,1,none⟩) (zA) (.slice xr rs.length cr)).setCell (p:=⟨w.heap.size+2,2,none⟩) (zA) (.slice x7 qs.length c7);have hos:=(((hOS7.putBox (o:=2) (u:= .slice x7 qs.length c7) hn7 (by decide) (by decide) (by decide)).put (o:=0) (u:= .int .i64 vid) hsz4).put (o:=1) (u:= .slice xr rs.length cr) hsz4).put (o:=2) (u:= .slice x7 qs.length c7) hsz4;have hor:=(((hOR7.putBox (o:=2) (u:= .slice x7 qs.length c7) hn7 (by decide)).put (o:=0) (u:= .int .i64 vid) hsz4).put (o:=1) (u:= .slice xr rs.length cr) hsz4).put (o:=2) (u:= .slice x7 qs.length c7) hsz4;have hoq:=((((hO7.low (base':=w6.heap.size) (by simp)).putBox (o:=2) (u:= .slice x7 qs.length c7) hn7 (by decide)).put (o:=0) (u:= .int .i64 vid) hz6).put (o:=1) (u:= .slice xr rs.length cr) hz6).put (o:=2) (u:= .slice x7 qs.length c7) hz6;refine nX.ok hE0.out hfin ⟨ts,qs,PU.mk (b3:=w4.heap.size) hor (by omega) hoq (by omega) (fun s hs=>?_) (by omega),hss,⟨i,hi,fun j hj=>by have:=hlow j hj;simpa using this,hup,hqs.out⟩⟩;rw[hqs.out]at hs;simp only[List.mem_append,List.mem_singleton]at hs;rcases hs with (hs|rfl)|hs
      ·exact hos.ofa s (List.mem_of_mem_take hs)
      ·exact⟨World.ownsRow_nil _ _ _ _,fun i hi=>absurd hi (Nat.not_lt_zero _),fun i _ hi=>absurd hi (Nat.not_lt_zero _)⟩
      ·exact hos.ofa s (List.mem_of_mem_drop hs)
 ·have hne:sE vid rn rs sn ss id c m=bN vid rn rs sn ss/\bN vid rn rs sn ss≠0:=⟨if_pos hc0,hc0⟩;go_wp2_with fail;refine(hck).mono ?_;rintro e w1 ⟨rfl,hbw1⟩;have hT1:=hT0.later hbw1;clear b0 b1 b2 p0 p1 s0 zs0 s1 zs1 s2 zs2;obtain⟨b0,b1,b2⟩:=bZ hT1.hb rfl rfl rfl;obtain⟨p0,p1⟩:=aZ hT1.hp rfl rfl;obtain⟨s0,s1,s2⟩:=bZ hT1.hs rfl rfl rfl;obtain⟨zs0,zs1,zs2⟩:=fB hT1.hs;go_wp2;refine bodyPost_ret (v:= .tuple #[.agg #[.int .i64 0, .slice none 0 0, .slice none 0 0], .int .i64 (bN vid rn rs sn ss)]) (by simp[results,Tryz.results198,go_sem,s0,s1,s2]) rfl ?_;exact nX.err hne (((hT1.below.setCell (p:=⟨w.heap.size+2,0,none⟩) (zA) _).setCell (p:=⟨w.heap.size+2,1,none⟩) (zA) _).setCell (p:=⟨w.heap.size+2,2,none⟩) (zA) _)
theorem oR{x:Obj}(hg:w.grownBy w' (some g))(hne:b≠g)(hx:w.heap[b]?=some x):w'.heap[b]?=some x:=by
 obtain⟨-, -, -, -,h⟩:=hg;exact(h b (zG hx) (fun e=>hne (by simpa using e))).trans hx
def ZM(vid:Int)(rn:Nat)(rs:List Rg)(sn:Nat)(ss:List Sb)(id:Int):Int:=
 if bN vid rn rs sn ss≠0 then bN vid rn rs sn ss else if cG sn (fun i=>(aG ss i).id==id)<0 then 5 else if 0<(aG ss (cG sn (fun i=>(aG ss i).id==id)).toNat).n then 9 else 0
structure TN(w W:World)(vid:Int)(rx:Option Addr)(rn rc:Nat)(sx:Option Addr)(sn sc:Nat):Prop where
 hb:W.heap[w.heap.size]?=some (.cells #[.int .i64 vid, .slice rx rn rc, .slice sx sn sc] 51)
 hs:W.heap[w.heap.size+1]?=some (.cells #[.int .i64 0, .slice none 0 0, .slice none 0 0] 51)
 below:Below w.heap.size w W
theorem TN.later(h:TN w W vid rx rn rc sx sn sc)(hb:Below W.heap.size W W'):TN w W' vid rx rn rc sx sn sc:=
 ⟨aA hb h.hb,aA hb h.hs,h.below.trans (hb.mono h.below.size)⟩
theorem NX(c m:Int)(p:Rg)(b:Nat)(w:World)(h0:w.cell? ⟨b,0,none⟩=some (.int .i64 c))(h1:w.cell? ⟨b,1,none⟩=some (.int .i64 m)):
  Calls Tryz.prog 242 #[.agg #[.int .i64 p.a, .int .i64 p.l, .int .i64 p.p], .pointer (some ⟨b,0,none⟩)] w fun e w'=>e= .returned (.bool (decide (p.a=c)&&decide (p.l=m)))/\Below w.heap.size w w':=by
 have k0:∀q,(w.alloc q).cell? ⟨b,0,none⟩=some (.int .i64 c):=fun q=>cell_later (bl1 w q) h0;have k1:∀q,(w.alloc q).cell? ⟨b,1,none⟩=some (.int .i64 m):=fun q=>cell_later (bl1 w q) h1;have he:=fun W=>B3 p.a p.l c m W;have hg:=fun x y W=>qW .eql x y #[.int .i64 p.a, .int .i64 p.l] #[.int .i64 c, .int .i64 m] W;go_enter Tryz.func242,Tryz.ntmps242;go_wp2;go_ret;exact⟨rfl,bl1 w _⟩
theorem JW(args:Array Value)(W:World):(callFunc 242 args).run Tryz.prog W= .ok (.enter 242 args) W:=by simp[go_sem]
theorem NY(c m:Int)(p:Sb)(b:Nat)(w:World)(h0:w.cell? ⟨b,0,none⟩=some (.int .i64 c))(h1:w.cell? ⟨b,1,none⟩=some (.int .i64 m)):
  Calls Tryz.prog 243 #[.agg #[.int .i64 p.id, .int .i64 p.a, .int .i64 p.l, .slice p.x p.n p.c], .pointer (some ⟨b,0,none⟩)] w fun e w'=>e= .returned (.bool (jQ p.a p.l c m))/\Below w.heap.size w w':=by
 have k0:∀q,(w.alloc q).cell? ⟨b,0,none⟩=some (.int .i64 c):=fun q=>cell_later (bl1 w q) h0;have k1:∀q,(w.alloc q).cell? ⟨b,1,none⟩=some (.int .i64 m):=fun q=>cell_later (bl1 w q) h1;go_enter Tryz.func243,Tryz.ntmps243;go_wp2_with (go_at_call 154;refine(inside_any _ _ _ _ _).mono ?_;rintro e w1 ⟨rfl,hb1⟩);go_ret;exact⟨rfl,(bl1 w _).trans (hb1.mono (by simp))⟩
theorem JX(args:Array Value)(W:World):(callFunc 243 args).run Tryz.prog W= .ok (.enter 243 args) W:=by simp[go_sem]
def rpB(rs:List Rg)(c m:Int)(i:Nat):Bool:=decide ((rgAt rs i).a=c)&&decide ((rgAt rs i).l=m)
def siB(ss:List Sb)(c m:Int)(i:Nat):Bool:=jQ (aG ss i).a (aG ss i).l c m
theorem CN(c m:Int)(b:Nat)(x:Option Addr)(n k:Nat)(rs:List Rg)(t:Int)(h:cG n (rpB rs c m)=t)(w:World)(hp:RS w x n rs)(hn:n<=9223372036854775807)(h0:w.cell? ⟨b,0,none⟩=some (.int .i64 c))(h1:w.cell? ⟨b,1,none⟩=some (.int .i64 m)):
  Calls Tryz.prog 172 #[.slice x n k, .func (.func 242) #[] #[.pointer (some ⟨b,0,none⟩)]] w fun e w'=>e= .returned (.int .i64 t)/\Below w.heap.size w w':=by
 refine(wM 242 #[.pointer (some ⟨b,0,none⟩)] x n k rs (rpB rs c m) w hp hn (fun i _ W hW=>NX c m (rgAt rs i) b W (cell_later hW h0) (cell_later hW h1)) JW).mono ?_;rintro e w' ⟨⟨r,rfl,hr⟩,hb⟩;exact⟨by rw[yT hr,h],hb⟩
theorem JY(c m:Int)(b:Nat)(x:Option Addr)(n k:Nat)(ss:List Sb)(t:Bool)(h:anyAt n (siB ss c m)=t)(w:World)(hp:SS w x n ss)(hn:n<=1048576)(h0:w.cell? ⟨b,0,none⟩=some (.int .i64 c))(h1:w.cell? ⟨b,1,none⟩=some (.int .i64 m)):
  Calls Tryz.prog 161 #[.slice x n k, .func (.func 243) #[] #[.pointer (some ⟨b,0,none⟩)]] w fun e w'=>e= .returned (.bool t)/\Below w.heap.size w w':=by
 subst h;exact eU 243 #[.pointer (some ⟨b,0,none⟩)] x n k ss (siB ss c m) w hp hn (fun i _ W hW=>NY c m (aG ss i) b W (cell_later hW h0) (cell_later hW h1)) JX
theorem NZ(W:World)(a:Addr):W.drew.cell? a=W.cell? a:=rfl
def gU(vid:Int)(rn:Nat)(rs:List Rg)(sn:Nat)(ss:List Sb)(c m:Int):Int:=
 if bN vid rn rs sn ss≠0 then bN vid rn rs sn ss else if cG rn (rpB rs c m)<0 then 5 else if anyAt sn (siB ss c m)=true then 9 else 0
def jL(vid:Int)(rn:Nat)(rs:List Rg)(sn:Nat)(ss:List Sb)(c m:Int)(w:World)(e:Ending)(w':World):Prop:=
 ∃V r,e= .returned (.tuple #[V, .agg #[.int .i64 (Rg.a r), .int .i64 r.l, .int .i64 r.p], .int .i64 (gU vid rn rs sn ss c m)])/\Below w.heap.size w w'/\(gU vid rn rs sn ss c m≠0->V= .agg #[.int .i64 0, .slice none 0 0, .slice none 0 0]/\r=⟨0,0,0⟩)/\
  (gU vid rn rs sn ss c m=0->∃ts i,cO ss ts/\i<rn/\rpB rs c m i=true/\(∀j,j<i->rpB rs c m j=false)/\r=rgAt rs i/\PU w' w.heap.size vid V (rs.take i++rs.drop (i+1)) ts)
theorem jL.err(hE:gU vid rn rs sn ss c m=E/\E≠0)(hb:Below w.heap.size w w'):
  jL vid rn rs sn ss c m w (.returned (.tuple #[.agg #[.int .i64 0, .slice none 0 0, .slice none 0 0], .agg #[.int .i64 0, .int .i64 0, .int .i64 0], .int .i64 E])) w':=
 ⟨_,⟨0,0,0⟩,by rw[hE.1],hb,fun _=>⟨rfl,rfl⟩,fun h=>absurd (hE.1.symm.trans h) hE.2⟩
structure TD(w W:World)(vid:Int)(rx:Option Addr)(rn rc:Nat)(sx:Option Addr)(sn sc:Nat)(c m:Int):Prop where
 hb:W.heap[w.heap.size]?=some (.cells #[.int .i64 vid, .slice rx rn rc, .slice sx sn sc] 51)
 hp:W.heap[w.heap.size+1]?=some (.cells #[.int .i64 c, .int .i64 m] 53)
 hs:W.heap[w.heap.size+2]?=some (.cells #[.int .i64 0, .slice none 0 0, .slice none 0 0] 51)
 hg:W.heap[w.heap.size+3]?=some (.cells #[.int .i64 0, .int .i64 0, .int .i64 0] 59)
 below:Below w.heap.size w W
theorem TD.later(h:TD w W vid rx rn rc sx sn sc c m)(hb:Below W.heap.size W W'):TD w W' vid rx rn rc sx sn sc c m:=
 ⟨aA hb h.hb,aA hb h.hp,aA hb h.hs,aA hb h.hg,h.below.trans (hb.mono h.below.size)⟩
theorem N0(vid:Int)(rx:Option Addr)(rn rc:Nat)(rs:List Rg)(sx:Option Addr)(sn sc:Nat)(ss:List Sb)(c m:Int)(w:World)(hv:Vp w rx rn rc rs sx sn sc ss)(hrn:rn<=9223372036854775807)(hsn:sn<=9223372036854775807)(hrc:rc<=9223372036854775807):
  Calls Tryz.prog 197 #[.agg #[.int .i64 vid, .slice rx rn rc, .slice sx sn sc], .agg #[.int .i64 c, .int .i64 m]] w (jL vid rn rs sn ss c m w):=by
 have hrl:Hid (rs.length=rn):=hv.ranges.len;have hsl:Hid (ss.length=sn):=hv.subs.len;go_enter Tryz.func197,Tryz.ntmps197;go_upto_region 1 with fail
 obtain⟨w0,hw0⟩:∃w0,w0=(((w.alloc (eH vid (.slice rx rn rc) (.slice sx sn sc))).alloc (.cells #[.int .i64 c, .int .i64 m] 53)).alloc (eH 0 (.slice none 0 0) (.slice none 0 0))).alloc (.cells #[.int .i64 0, .int .i64 0, .int .i64 0] 59):=⟨_,rfl⟩;rw[<-hw0];have hT0:TD w w0 vid rx rn rc sx sn sc c m:=by
  rw[hw0];exact⟨aH _ (aH _ (aH _ (aB _ rfl))),aH _ (aH _ (aB _ (by simp))),aH _ (aB _ (by simp)),aB _ (by simp),((bP w _ _).alloc (by simp;omega) _).alloc (by simp;omega) _⟩
 clear hw0;obtain⟨b0,b1,b2⟩:=bZ hT0.hb rfl rfl rfl;obtain⟨p0,p1⟩:=aZ hT0.hp rfl rfl;obtain⟨s0,s1,s2⟩:=bZ hT0.hs rfl rfl rfl;obtain⟨zs0,zs1,zs2⟩:=fB hT0.hs;obtain⟨g0,g1,g2⟩:=bZ hT0.hg rfl rfl rfl;obtain⟨zg0,zg1,zg2⟩:=fB hT0.hg;have hck:=checkV_any vid rx rn rc rs sx sn sc ss w0 (hv.later hT0.below) hrn hsn hrc;by_cases hc0:bN vid rn rs sn ss=0
 ·rw[hc0]at hck;obtain⟨f1,f2,f3,f4⟩:=jK hc0;have hE1:Hid (gU vid rn rs sn ss c m=if cG rn (rpB rs c m)<0 then 5 else if anyAt sn (siB ss c m)=true then 9 else 0):=if_neg (c:=bN vid rn rs sn ss≠0) (by simp[hc0]);clear hc0;go_wp2_with fail;refine(hck).mono ?_;rintro e w1 ⟨rfl,hbw1⟩;have hT1:=hT0.later hbw1;clear b0 b1 b2 p0 p1 s0 zs0 s1 zs1 s2 zs2 g0 zg0 g1 zg1 g2 zg2;obtain⟨b0,b1,b2⟩:=bZ hT1.hb rfl rfl rfl;obtain⟨p0,p1⟩:=aZ hT1.hp rfl rfl;obtain⟨s0,s1,s2⟩:=bZ hT1.hs rfl rfl rfl;obtain⟨zs0,zs1,zs2⟩:=fB hT1.hs;obtain⟨g0,g1,g2⟩:=bZ hT1.hg rfl rfl rfl;obtain⟨zg0,zg1,zg2⟩:=fB hT1.hg;have hsp:=fun t h=>CN c m (w.heap.size+1) rx rn rc rs t h w1 (hv.later hT1.below).ranges hrn p0 p1;rcases fstAt_cases rn (rpB rs c m)with ⟨i,hi,hf,hno,hfp⟩|⟨-,hfp⟩
  ·have hsp':=hsp _ hfp;clear hsp;have hE2:Hid (gU vid rn rs sn ss c m=if anyAt sn (siB ss c m)=true then 9 else 0):=by
    have:=hE1.out;rw[hfp]at this;rw[if_neg (by omega)]at this;exact this
   clear hfp hE1;have hHf:Hid (rpB rs c m i=true/\∀j,j<i->rpB rs c m j=false):=⟨hf,hno⟩;clear hf hno;have hi':Hid (i<rn):=hi;obtain⟨b,o,rfl,r0,r1,r2⟩:=hv.ranges.cells i hi;have hbw:Hid (b<w.heap.size):=block_lt_of_cell r0;go_wp2_with fail;refine(hsp').mono ?_;rintro e w2 ⟨rfl,hbw2⟩;have hT2:=hT1.later hbw2;clear b0 b1 b2 p0 p1 s0 zs0 s1 zs1 s2 zs2 g0 zg0 g1 zg1 g2 zg2;obtain⟨b0,b1,b2⟩:=bZ hT2.hb rfl rfl rfl;obtain⟨p0,p1⟩:=aZ hT2.hp rfl rfl;obtain⟨s0,s1,s2⟩:=bZ hT2.hs rfl rfl rfl;obtain⟨zs0,zs1,zs2⟩:=fB hT2.hs;obtain⟨g0,g1,g2⟩:=bZ hT2.hg rfl rfl rfl;obtain⟨zg0,zg1,zg2⟩:=fB hT2.hg;have i0:(0:Int)<=i:=by omega
   have i1:(i:Int)<rn:=by omega
   have hda:=fun t h=>JY c m (w.heap.size+1) sx sn sc ss t h w2 (hv.later hT2.below).subs (by omega) p0 p1
   cases hany:anyAt sn (siB ss c m)with
   |true=>
    have hne:gU vid rn rs sn ss c m=9/\(9:Int)≠0:=⟨hE2.out.trans (if_pos hany),by decide⟩
    clear r0 r1 r2
    go_wp2_with fail
    refine(hda _ hany).mono ?_
    rintro e w3 ⟨rfl,hbw3⟩
    have hT3:=hT2.later hbw3
    clear b0 b1 b2 p0 p1 s0 zs0 s1 zs1 s2 zs2 g0 zg0 g1 zg1 g2 zg2
    obtain⟨b0,b1,b2⟩:=bZ hT3.hb rfl rfl rfl
    obtain⟨p0,p1⟩:=aZ hT3.hp rfl rfl
    obtain⟨s0,s1,s2⟩:=bZ hT3.hs rfl rfl rfl
    obtain⟨zs0,zs1,zs2⟩:=fB hT3.hs
    obtain⟨g0,g1,g2⟩:=bZ hT3.hg rfl rfl rfl
    obtain⟨zg0,zg1,zg2⟩:=fB hT3.hg
    go_wp2
    refine bodyPost_ret (v:= .tuple #[.agg #[.int .i64 0, .slice none 0 0, .slice none 0 0], .agg #[.int .i64 0, .int .i64 0, .int .i64 0], .int .i64 9]) (by simp[results,Tryz.results197,go_sem,s0,s1,s2,g0,g1,g2]) rfl ?_
    exact jL.err hne ((((((hT3.below.setCell (p:=⟨w.heap.size+2,0,none⟩) (zA) _).setCell (p:=⟨w.heap.size+2,1,none⟩) (zA) _).setCell (p:=⟨w.heap.size+2,2,none⟩) (zA) _).setCell (p:=⟨w.heap.size+3,0,none⟩) (zA) _).setCell (p:=⟨w.heap.size+3,1,none⟩) (zA) _).setCell (p:=⟨w.heap.size+3,2,none⟩) (zA) _)
   |false=>
    have hE0:Hid (gU vid rn rs sn ss c m=0):=hE2.out.trans (if_neg (by simp[hany]))
    have hv3:=fun W (hW:Below w.heap.size w W)=>fM vid (some ⟨b,o,none⟩) rn rc rs sx sn sc ss W (hv.later hW) (by omega) (by omega) (fun i hi=>by have:=f3 i hi;omega) (fun i hi j hj=>by have:=f4 i hi j hj;omega)
    have r0':Hid (w.cell? ⟨b,o+i*3,none⟩=some (.int .i64 (rgAt rs i).a)):=r0
    have r1':Hid (w.cell? ⟨b,o+i*3+1,none⟩=some (.int .i64 (rgAt rs i).l)):=r1
    have r2':Hid (w.cell? ⟨b,o+i*3+2,none⟩=some (.int .i64 (rgAt rs i).p)):=r2
    clear r0 r1 r2
    go_wp2_with fail
    refine(hda _ hany).mono ?_
    rintro e w3 ⟨rfl,hbw3⟩
    have hT3:=hT2.later hbw3
    clear b0 b1 b2 p0 p1 s0 zs0 s1 zs1 s2 zs2 g0 zg0 g1 zg1 g2 zg2
    obtain⟨b0,b1,b2⟩:=bZ hT3.hb rfl rfl rfl
    obtain⟨p0,p1⟩:=aZ hT3.hp rfl rfl
    obtain⟨s0,s1,s2⟩:=bZ hT3.hs rfl rfl rfl
    obtain⟨zs0,zs1,zs2⟩:=fB hT3.hs
    obtain⟨g0,g1,g2⟩:=bZ hT3.hg rfl rfl rfl
    obtain⟨zg0,zg1,zg2⟩:=fB hT3.hg
    go_wp2_with fail
    refine(hv3 _ hT3.below).mono ?_
    rintro e w5 ⟨vR,vS,ts,rfl,hOR,hss,hOS,hb5⟩
    have hT5:=hT3.later hb5
    obtain⟨xt,ct,rfl, -⟩:=hOS.subs
    obtain⟨k,hk⟩:∃k,rs.length=k+1:=⟨rs.length- 1,by have:=hi'.out;have:=hrl.out;omega⟩
    have hik:i<=k:=by have:=hi'.out;have:=hrl.out;omega
    have hk64:k<=64:=by have:=hrl.out;omega
    obtain⟨g,cap,hg5,cur,hgh,hcap1,hcap2,hvR⟩:∃g cap,w3.heap.size<=g/\∃cur,w5.heap[g]?=some (.cells cur 59)/\k+1<=cap/\cap<=9223372036854775807/\vR= .slice (some ⟨g,0,none⟩) (k+1) cap:=by
     obtain⟨x2,c2,hv2,h1,h2, -, -⟩:=hOR.mem;rcases hOR.2 with ⟨hv', -⟩|⟨g,cap,cur,hv',hg1,hg2, -⟩
     ·rw[hv']at hv2;simp only[Value.slice.injEq]at hv2;omega
     ·rw[hv']at hv2;simp only[Value.slice.injEq]at hv2;obtain⟨-, -,rfl⟩:=hv2;exact⟨g,cap,hg1,cur,hg2,by omega,h2,by rw[hv',hk]⟩
    subst hvR
    clear b0 b1 b2 p0 p1 s0 zs0 s1 zs1 s2 zs2 g0 zg0 g1 zg1 g2 zg2
    have hgl:g<w5.heap.size:=(zG hgh)
    go_upto_region 11 with fail
    obtain⟨w6,hw6⟩:∃w6,w6=w5.alloc (eH vid (.slice (some ⟨g,0,none⟩) (k+1) cap) (.slice xt ts.length ct)):=⟨_,rfl⟩
    rw[<-hw6]
    have hb56:Below w5.heap.size w5 w6:=by rw[hw6];exact bl1 _ _
    have hn6:w6.heap[w5.heap.size]?=some (eH vid (.slice (some ⟨g,0,none⟩) (k+1) cap) (.slice xt ts.length ct)):=by rw[hw6];exact aB _ rfl
    clear hw6
    have hT6:=hT5.later hb56
    have hg6:=aA hb56 hgh
    have hOR6:=bT.later hOR hb56
    have hOS6:=kN.later hOS hb56
    have n1:=aO hn6 1 rfl
    have hdel:=GL w3.heap.size g k cap i (i+1) rs w6 hOR6 hk hik rfl hk64 hcap1 hcap2
    rw[show((i+1:Nat):Int)=(i:Int)+1 by omega]at hdel
    go_wp2_with fail
    refine hdel.mono ?_
    rintro e w7 ⟨rfl,hO7,hg7⟩
    clear n1 hdel
    have hsz3:w.heap.size+3<w3.heap.size:=(zG hT3.hg)
    have hn7:=oR hg7 (by omega) hn6
    have hb7:=oR hg7 (by omega) hT6.hb
    have hs7:=oR hg7 (by omega) hT6.hs
    have hr7:=oR hg7 (by omega) hT6.hg
    have hB7:=dH hT6.below hg7 (fun q e=>by cases e;omega)
    have hOS7:kN w7 w3.heap.size (.slice xt ts.length ct) ts ts.length:=⟨hOS6.row.kept hg7 (fun q hq e=>by subst e;exact hOS6.row.ne hg6 (by decide) hq),fun j hj=>(hOS6.own j hj).kept_of hg7 hg6 (by decide) (by decide),hOS6.apart⟩
    have m1:=aO hn7 1 rfl
    have zm:=(aD hn7).2 1
    go_upto_region 12 with fail
    clear m1 zm
    obtain⟨w8,hw8⟩:∃w8,w8=w7.setCell ⟨w5.heap.size,1,none⟩ (.slice (some ⟨g,0,none⟩) k cap):=⟨_,rfl⟩
    rw[<-hw8]
    have hn8:w8.heap[w5.heap.size]?=some (eH vid (.slice (some ⟨g,0,none⟩) k cap) (.slice xt ts.length ct)):=by
     rw[hw8];have:=heap_setCell_same w7 w5.heap.size 1 _ _ (.slice (some ⟨g,0,none⟩) k cap) hn7;simpa using this
    have hz35:=hb5.size
    have hq1:w.heap.size≠w5.heap.size:=by omega
    have hq2:w.heap.size+2≠w5.heap.size:=by omega
    have hq3:w.heap.size+3≠w5.heap.size:=by omega
    have hb8:w8.heap[w.heap.size]?=some (eH vid (.slice (some ⟨b,o,none⟩) rn rc) (.slice sx sn sc)):=by rw[hw8];exact(zB hq1).trans hb7
    have hs8:w8.heap[w.heap.size+2]?=some (eH 0 (.slice none 0 0) (.slice none 0 0)):=by rw[hw8];exact(zB hq2).trans hs7
    have hr8:w8.heap[w.heap.size+3]?=some (.cells #[.int .i64 0, .int .i64 0, .int .i64 0] 59):=by rw[hw8];exact(zB hq3).trans hr7
    have hB8:Below w.heap.size w w8:=by rw[hw8];exact hB7.setCell (p:=⟨w5.heap.size,1,none⟩) (by show w.heap.size<=w5.heap.size;omega) _
    have hO8:bT w8 w3.heap.size (.slice (some ⟨g,0,none⟩) k cap) (rs.take i++rs.drop (i+1)):=by rw[hw8];exact hO7.putBox hn7 (by decide)
    have hOS8:kN w8 w3.heap.size (.slice xt ts.length ct) ts ts.length:=by rw[hw8];exact hOS7.putBox hn7 (by decide) (by decide) (by decide)
    clear hw8
    obtain⟨n0,n1,n2⟩:=bZ hn8 rfl rfl rfl
    have b1:=aO hb8 1 rfl
    have r0:=cell_later hB8 r0'.out
    have r1:=cell_later hB8 r1'.out
    have r2:=cell_later hB8 r2'.out
    obtain⟨s0,s1,s2⟩:=bZ hs8 rfl rfl rfl
    obtain⟨zs0,zs1,zs2⟩:=fB hs8
    obtain⟨g0,g1,g2⟩:=bZ hr8 rfl rfl rfl
    obtain⟨zg0,zg1,zg2⟩:=fB hr8
    have hbq:=hbw.out
    go_region_held3 (fun w'=>w'.cell? ⟨w5.heap.size,0,none⟩=some (.int .i64 vid)/\w'.cell? ⟨w5.heap.size,1,none⟩=some (.slice (some ⟨g,0,none⟩) k cap)/\w'.cell? ⟨w5.heap.size,2,none⟩=some (.slice xt ts.length ct)/\w'.cell? ⟨w.heap.size,1,none⟩=some (.slice (some ⟨b,o,none⟩) rn rc)/\w'.cell? ⟨b,o+i*3,none⟩=some (.int .i64 (rgAt rs i).a)/\w'.cell? ⟨b,o+i*3+1,none⟩=some (.int .i64 (rgAt rs i).l)/\w'.cell? ⟨b,o+i*3+2,none⟩=some (.int .i64 (rgAt rs i).p)) (first|(refine⟨?_,?_,?_,?_,?_,?_,?_⟩<;>((try rw[NZ]);(repeat rw[bA (by omega)]);assumption))) (fail)
    all_goals go_wp2
    have hp2:w.heap.size+2<w3.heap.size:=by omega
    have hp3:w.heap.size+3<w3.heap.size:=by omega
    have hfin:=Below.drew ((((((hB8.setCell (p:=⟨w.heap.size+2,0,none⟩) (zA) (.int .i64 vid)).setCell (p:=⟨w.heap.size+2,1,none⟩) (zA) (.slice (some ⟨g,0,none⟩) k cap)).setCell (p:=⟨w.heap.size+2,2,none⟩) (zA) (.slice xt ts.length ct)).setCell (p:=⟨w.heap.size+3,0,none⟩) (zA) (.int .i64 (rgAt rs i).a)).setCell (p:=⟨w.heap.size+3,1,none⟩) (zA) (.int .i64 (rgAt rs i).l)).setCell (p:=⟨w.heap.size+3,2,none⟩) (zA) (.int .i64 (rgAt rs i).p))
    have hor:=bT.drew ((((((hO8.put (o:=0) (u:=(.int .i64 vid)) hp2).put (o:=1) (u:=(.slice (some ⟨g,0,none⟩) k cap)) hp2).put (o:=2) (u:=(.slice xt ts.length ct)) hp2).put (o:=0) (u:=(.int .i64 (rgAt rs i).a)) hp3).put (o:=1) (u:=(.int .i64 (rgAt rs i).l)) hp3).put (o:=2) (u:=(.int .i64 (rgAt rs i).p)) hp3)
    have hos:=kN.later ((((((hOS8.put (o:=0) (u:=(.int .i64 vid)) hp2).put (o:=1) (u:=(.slice (some ⟨g,0,none⟩) k cap)) hp2).put (o:=2) (u:=(.slice xt ts.length ct)) hp2).put (o:=0) (u:=(.int .i64 (rgAt rs i).a)) hp3).put (o:=1) (u:=(.int .i64 (rgAt rs i).l)) hp3).put (o:=2) (u:=(.int .i64 (rgAt rs i).p)) hp3) (zD).drew
    refine bodyPost_ret (v:= .tuple #[.agg #[.int .i64 vid, .slice (some ⟨g,0,none⟩) k cap, .slice xt ts.length ct], .agg #[.int .i64 (rgAt rs i).a, .int .i64 (rgAt rs i).l, .int .i64 (rgAt rs i).p], .int .i64 0]) (by simp[results,Tryz.results197,go_sem,s0,s1,s2,g0,g1,g2]) rfl ?_
    exact⟨_,rgAt rs i,by rw[hE0.out],hfin,fun h=>absurd hE0.out h,fun _=>⟨ts,i,hss,hi'.out,hHf.out.1,hHf.out.2,rfl,PU.mk hor (by omega) hos.row (by omega) hos.ofa (by omega)⟩⟩
  ·have hsp':=hsp _ hfp;have hne:gU vid rn rs sn ss c m=5/\(5:Int)≠0:=⟨hE1.out.trans (if_pos (by rw[hfp];decide)),by decide⟩;clear hfp hE1 hsp;go_wp2_with fail;refine(hsp').mono ?_;rintro e w2 ⟨rfl,hbw2⟩;have hT2:=hT1.later hbw2;clear b0 b1 b2 p0 p1 s0 zs0 s1 zs1 s2 zs2 g0 zg0 g1 zg1 g2 zg2;obtain⟨b0,b1,b2⟩:=bZ hT2.hb rfl rfl rfl;obtain⟨p0,p1⟩:=aZ hT2.hp rfl rfl;obtain⟨s0,s1,s2⟩:=bZ hT2.hs rfl rfl rfl;obtain⟨zs0,zs1,zs2⟩:=fB hT2.hs;obtain⟨g0,g1,g2⟩:=bZ hT2.hg rfl rfl rfl;obtain⟨zg0,zg1,zg2⟩:=fB hT2.hg;go_wp2;refine bodyPost_ret (v:= .tuple #[.agg #[.int .i64 0, .slice none 0 0, .slice none 0 0], .agg #[.int .i64 0, .int .i64 0, .int .i64 0], .int .i64 5]) (by simp[results,Tryz.results197,go_sem,s0,s1,s2,g0,g1,g2]) rfl ?_;exact jL.err hne ((((((hT2.below.setCell (p:=⟨w.heap.size+2,0,none⟩) (zA) _).setCell (p:=⟨w.heap.size+2,1,none⟩) (zA) _).setCell (p:=⟨w.heap.size+2,2,none⟩) (zA) _).setCell (p:=⟨w.heap.size+3,0,none⟩) (zA) _).setCell (p:=⟨w.heap.size+3,1,none⟩) (zA) _).setCell (p:=⟨w.heap.size+3,2,none⟩) (zA) _)
 ·have hne:gU vid rn rs sn ss c m=bN vid rn rs sn ss/\bN vid rn rs sn ss≠0:=⟨if_pos hc0,hc0⟩;go_wp2_with fail;refine(hck).mono ?_;rintro e w1 ⟨rfl,hbw1⟩;have hT1:=hT0.later hbw1;clear b0 b1 b2 p0 p1 s0 zs0 s1 zs1 s2 zs2 g0 zg0 g1 zg1 g2 zg2;obtain⟨b0,b1,b2⟩:=bZ hT1.hb rfl rfl rfl;obtain⟨p0,p1⟩:=aZ hT1.hp rfl rfl;obtain⟨s0,s1,s2⟩:=bZ hT1.hs rfl rfl rfl;obtain⟨zs0,zs1,zs2⟩:=fB hT1.hs;obtain⟨g0,g1,g2⟩:=bZ hT1.hg rfl rfl rfl;obtain⟨zg0,zg1,zg2⟩:=fB hT1.hg;have hsp:=CN c m (w.heap.size+1) rx rn rc rs _ rfl w1 (hv.later hT1.below).ranges hrn p0 p1;generalize cG rn (rpB rs c m)=fp at hsp;go_wp2_with fail;refine(hsp).mono ?_;rintro e w2 ⟨rfl,hbw2⟩;have hT2:=hT1.later hbw2;clear b0 b1 b2 p0 p1 s0 zs0 s1 zs1 s2 zs2 g0 zg0 g1 zg1 g2 zg2;obtain⟨b0,b1,b2⟩:=bZ hT2.hb rfl rfl rfl;obtain⟨p0,p1⟩:=aZ hT2.hp rfl rfl;obtain⟨s0,s1,s2⟩:=bZ hT2.hs rfl rfl rfl;obtain⟨zs0,zs1,zs2⟩:=fB hT2.hs;obtain⟨g0,g1,g2⟩:=bZ hT2.hg rfl rfl rfl;obtain⟨zg0,zg1,zg2⟩:=fB hT2.hg;go_wp2;refine bodyPost_ret (v:= .tuple #[.agg #[.int .i64 0, .slice none 0 0, .slice none 0 0], .agg #[.int .i64 0, .int .i64 0, .int .i64 0], .int .i64 (bN vid rn rs sn ss)]) (by simp[results,Tryz.results197,go_sem,s0,s1,s2,g0,g1,g2]) rfl ?_;exact jL.err hne ((((((hT2.below.setCell (p:=⟨w.heap.size+2,0,none⟩) (zA) _).setCell (p:=⟨w.heap.size+2,1,none⟩) (zA) _).setCell (p:=⟨w.heap.size+2,2,none⟩) (zA) _).setCell (p:=⟨w.heap.size+3,0,none⟩) (zA) _).setCell (p:=⟨w.heap.size+3,1,none⟩) (zA) _).setCell (p:=⟨w.heap.size+3,2,none⟩) (zA) _)
def plE(vid:Int)(rn:Nat)(rs:List Rg)(sn:Nat)(ss:List Sb)(sub id:Int):Int:=
 if bN vid rn rs sn ss≠0 then bN vid rn rs sn ss else if cG sn (fun i=>(aG ss i).id==sub)<0 then 5 else if cG (aG ss (cG sn (fun i=>(aG ss i).id==sub)).toNat).n (fun j=>(fcAt (aG ss (cG sn (fun i=>(aG ss i).id==sub)).toNat).fs j).id==id)<0 then 5 else 0
structure JZ(sn:Nat)(ss:List Sb)(sub id:Int)(i j:Nat):Prop where
 isn:i<sn
 sid:(aG ss i).id=sub
 sno:∀k,k<i->(aG ss k).id≠sub
 jn:j<(aG ss i).n
 fid:(fcAt (aG ss i).fs j).id=id
 fno:∀k,k<j->(fcAt (aG ss i).fs k).id≠id
theorem R7(h:i<fs.length):fcAt fs i∈fs:=by
 unfold fcAt;rw[zF,List.getElem?_eq_getElem h];exact List.getElem_mem h
theorem nV.mk'(h:fU w base v fs)(ho:∀f∈fs,dQ w base (.slice f.x f.n f.c) f.ns):nV w base v fs fs.length:=
 ⟨h,fun i hi=>ho _ (R7 hi),fun i hi hi2=>by omega⟩
theorem nV.each(h:nV w base v fs fs.length):∀f∈fs,dQ w base (.slice f.x f.n f.c) f.ns:=fun f hf=>by
 obtain⟨i,hi,rfl⟩:=List.getElem_of_mem hf;have e:fcAt fs i=fs[i]:=by unfold fcAt;rw[zF,List.getElem?_eq_getElem hi];rfl
 have:=h.own i hi;rw[e]at this;exact this
open Go.RowKit Go.Shelf Go.Maps
theorem pN{D:DataW Unit}(h:w.ownsMap Tryz.prog 3 (plainElem Tryz.prog 3) bm n D)(hb:Below w.heap.size w w'):w'.ownsMap Tryz.prog 3 (plainElem Tryz.prog 3) bm n D:=by
 obtain⟨es,cl,h1,h2⟩:=h;exact⟨es,cl,aA hb h1,h2⟩
def N1(s:Sb)(w:World)(e:Ending)(w':World):Prop:=
 Below w.heap.size w w'/\((∃y,e= .returned (.tuple #[.int .i64 y, .bool true])/\mC s.a s.l y=true/\y∉aT s.fs/\∀z,s.a<z->z<y->z∈aT s.fs)\/(e= .returned (.tuple #[.int .i64 0, .bool false])/\∀z,mC s.a s.l z=true->z∈aT s.fs))
theorem N2(s:Sb)(w:World)(hrt:rt s.a s.l=true)(hp:oW w s.x s.n s.fs)(hn:s.n<=64)(hm:∀i,i<s.n->(fcAt s.fs i).n<=64)
 (hr:∀i,i<s.n->∀j,j<(fcAt s.fs i).n->0<=aU (fcAt s.fs i).ns j/\aU (fcAt s.fs i).ns j<=1000000):
  Calls Tryz.prog 282 #[.agg #[.int .i64 s.id, .int .i64 s.a, .int .i64 s.l, .slice s.x s.n s.c]] w (N1 s w):=by
 obtain⟨h0,h1,h2,h3,h4⟩:=bC hrt;obtain⟨s0,s1⟩:=rV h0 h1;have hus:=fun x W=>usable_any s.a s.l x W hrt;go_enter Tryz.func282,Tryz.ntmps282;go_upto_region 1 with fail
 obtain⟨w0,hw0⟩:∃w0,w0=w.alloc (NF s):=⟨_,rfl⟩;rw[<-hw0];have hB0:Below w.heap.size w w0:=by rw[hw0];exact bl1 w _
 have hb0:w0.heap[w.heap.size]?=some (NF s):=by rw[hw0];exact aB _ rfl
 clear hw0;obtain⟨c0,c1,c2,c3⟩:=fW hb0 rfl rfl rfl rfl;have hzz:w.heap.size<w0.heap.size:=(zG hb0);go_wp2_with fail;refine(yF s.id s.a s.l s.x s.n s.c s.fs w0 (hp.later hB0) hn hm hr).mono ?_;rintro e w1 ⟨bm,D,rfl,hbm,hO,hC,hb1⟩;have hb1x:=aA hb1 hb0;have hB1:Below w.heap.size w w1:=hB0.trans (hb1.mono hB0.size);clear c0 c1 c2 c3;have c1:=aO hb1x 1 rfl;have hwr:IntKind.i64.wrap (s.a+1)=s.a+1:=by rw[IntKind.wrap_i64];omega
 go_wp2;clear c1 hwr;go_loopw [5] (fun i wr=>∃y:Int,i= .int .i64 y/\s.a<y/\y<=s.a+sp s.l+1/\(∀z,s.a<z->z<y->z∈aT s.fs)/\wr.ownsMap Tryz.prog 3 (plainElem Tryz.prog 3) bm (aT s.fs).length D/\wr.heap[w.heap.size]?=some (NF s)/\Below w.heap.size w wr) (fun i _=>(s.a+sp s.l+1- intOf i).toNat)
 case atStart=>exact⟨s.a+1,rfl,by omega,by omega,fun z h5 h6=>by omega,hO,hb1x,hB1⟩
 case round=>
  obtain⟨y,rfl,hy1,hy2,hall,hOr,hbr,hBr⟩:=hrel
  have d1:=aO hbr 1 rfl
  have d2:=aO hbr 2 rfl
  have hcall:=hus y wr
  cases hu:mC s.a s.l y with
  |false=>
   rw[hu]at hcall
   have hHy:Hid (∀z,mC s.a s.l z=true->z∈aT s.fs):=fun z hz=>by
    simp only[mC,Bool.and_eq_false_iff,decide_eq_false_iff_not,zH,decide_eq_true_eq]at hu hz;exact hall z hz.1 (by omega)
   clear hall hu
   go_wp2_with fail
   refine hcall.mono ?_
   rintro e w2 ⟨rfl,hb2⟩
   have hB2:=hBr.trans (hb2.mono hBr.size)
   go_wp2
   refine bodyPost_ret (v:= .tuple #[.int .i64 0, .bool false]) (by simp[results,Tryz.results282,go_sem]) rfl ?_
   exact⟨hB2, .inr ⟨rfl,hHy.out⟩⟩
  |true=>
   rw[hu]at hcall
   have hu':Hid (mC s.a s.l y=true):=hu
   have hyl:Hid (y<s.a+sp s.l- 1):=by
    simp only[mC,zH,decide_eq_true_eq]at hu;exact hu.2
   clear hu
   have hkey:keyOf Tryz.prog 3 (.int .i64 y)=some (.int .i64 y):=keyOf_int_mk under_int (fJ (by omega) (by omega))
   have hat:=hC.at_ y
   have hall':Hid (∀z,s.a<z->z<y->z∈aT s.fs):=hall
   clear hall
   by_cases hmem:y∈aT s.fs
   ·have hcn:Hid (((aT s.fs).count y:Int)≠0):=by
     have:=List.count_pos_iff.2 hmem;unfold Hid;omega
    have hmem':Hid (y∈aT s.fs):=hmem;clear hmem;go_wp2_with fail;refine hcall.mono ?_;rintro e w2 ⟨rfl,hb2⟩;have hB2:=hBr.trans (hb2.mono hBr.size);have hO2:=pN hOr hb2;have hbx2:=aA hb2 hbr;have hwr:IntKind.i64.wrap (y+1)=y+1:=by rw[IntKind.wrap_i64];omega
    clear d1 d2 hcall;go_wp2_with (first|(at_lookup;refine wpList_lookup_own_int _ rfl _ _ 279 rfl 3 3 .i64 key_law under_uses under_int (zero_int _) bm _ _ rfl hO2 _ _ rfl hkey ?_;intro cc hat2 hwc;have hcc:¬cc=0:=(by rw[hat]at hat2;cases hat2;exact hcn.out))|go_in)
    go_roundw
    case rel=>exact⟨y+1,by go_num,by omega,by have:=hyl.out;omega,fun z h5 h6=>by
     by_cases e:z=y
     ·rw[e];exact hmem'.out
     ·exact hall'.out z h5 (by omega),hO2,hbx2,hB2⟩
    case measure=>simp[intOf];have:=hyl.out;omega
   ·have hcn:Hid ((aT s.fs).count y=0):=List.count_eq_zero.2 hmem;have hmem':Hid (y∉aT s.fs):=hmem;clear hmem;go_wp2_with fail;refine hcall.mono ?_;rintro e w2 ⟨rfl,hb2⟩;have hB2:=hBr.trans (hb2.mono hBr.size);have hO2:=pN hOr hb2;clear d1 d2 hcall;go_wp2_with (first|(at_lookup;refine wpList_lookup_own_int _ rfl _ _ 279 rfl 3 3 .i64 key_law under_uses under_int (zero_int _) bm _ _ rfl hO2 _ _ rfl hkey ?_;intro cc hat2 hwc;obtain rfl:cc=0:=(by rw[hat,hcn.out]at hat2;cases hat2;rfl))|go_in)
    refine bodyPost_ret (v:= .tuple #[.int .i64 y, .bool true]) (by simp[results,Tryz.results282,go_sem]) rfl ?_;exact⟨hB2, .inl ⟨y,rfl,hu'.out,hmem'.out,hall'.out⟩⟩
structure sF(s:Sb)(y:Int):Prop where
 use:mC s.a s.l y=true
 free:y∉aT s.fs
 first:∀z,s.a<z->z<y->z∈aT s.fs
def N3(s:Sb)(w:World)(e:Ending)(w':World):Prop:=
 Below w.heap.size w w'/\((∃y,e= .returned (.tuple #[.int .i64 y, .int .i64 0])/\sF s y)\/(e= .returned (.tuple #[.int .i64 0, .int .i64 8])/\∀z,mC s.a s.l z=true->z∈aT s.fs))
theorem N4(s:Sb)(w:World)(hrt:rt s.a s.l=true)(hp:oW w s.x s.n s.fs)(hn:s.n<=64)(hm:∀i,i<s.n->(fcAt s.fs i).n<=64)
 (hr:∀i,i<s.n->∀j,j<(fcAt s.fs i).n->0<=aU (fcAt s.fs i).ns j/\aU (fcAt s.fs i).ns j<=1000000):
  Calls Tryz.prog 251 #[.agg #[.int .i64 s.id, .int .i64 s.a, .int .i64 s.l, .slice s.x s.n s.c]] w (N3 s w):=by
 go_enter Tryz.func251,Tryz.ntmps251;go_upto_region 1 with fail
 obtain⟨w0,hw0⟩:∃w0,w0=w.alloc (NF s):=⟨_,rfl⟩;rw[<-hw0];have hB0:Below w.heap.size w w0:=by rw[hw0];exact bl1 w _
 have hb0:w0.heap[w.heap.size]?=some (NF s):=by rw[hw0];exact aB _ rfl
 clear hw0;obtain⟨c0,c1,c2,c3⟩:=fW hb0 rfl rfl rfl rfl;have hl:=N2 s w0 hrt (hp.later hB0) hn hm hr;clear hm hr;go_wp2_with fail;refine hl.mono ?_;rintro e w1 ⟨hb1,h⟩;have hB1:=hB0.trans (hb1.mono hB0.size);clear c0 c1 c2 c3 hl;rcases h with ⟨y,rfl,h1,h2,h3⟩|⟨rfl,h1⟩
 ·have hL:sF s y:=⟨h1,h2,h3⟩;clear h1 h2 h3;go_wp2;refine bodyPost_ret (v:= .tuple #[.int .i64 y, .int .i64 0]) (by simp[results,Tryz.results251,go_sem]) rfl ?_;exact⟨hB1, .inl ⟨y,rfl,hL⟩⟩
 ·have hH:Hid (∀z,mC s.a s.l z=true->z∈aT s.fs):=h1;clear h1;go_wp2;refine bodyPost_ret (v:= .tuple #[.int .i64 0, .int .i64 8]) (by simp[results,Tryz.results251,go_sem]) rfl ?_;exact⟨hB1, .inr ⟨rfl,hH.out⟩⟩
def eE(s:Sb)(id:Int)(w:World)(e:Ending)(w':World):Prop:=
 Below w.heap.size w w'/\if bV id 1 65536=false then e= .returned (.tuple #[.int .i64 0, .int .i64 3])else if 0<=cG s.n (fun i=>(fcAt s.fs i).id==id)then e= .returned (.tuple #[.int .i64 0, .int .i64 6])else if s.n=8 then e= .returned (.tuple #[.int .i64 0, .int .i64 2])else
  (∃y,e= .returned (.tuple #[.int .i64 y, .int .i64 0])/\sF s y)\/(e= .returned (.tuple #[.int .i64 0, .int .i64 8])/\∀z,mC s.a s.l z=true->z∈aT s.fs)
theorem eE.c3{id:Int}(h:bV id 1 65536=false)(hb:Below w.heap.size w w'):eE s id w (.returned (.tuple #[.int .i64 0, .int .i64 3])) w':=⟨hb,by rw[if_pos h]⟩
theorem eE.c6{id:Int}(h:bV id 1 65536=true)(h2:0<=cG s.n (fun i=>(fcAt s.fs i).id==id))(hb:Below w.heap.size w w'):eE s id w (.returned (.tuple #[.int .i64 0, .int .i64 6])) w':=⟨hb,by rw[if_neg (by simp[h]),if_pos h2]⟩
theorem eE.c2{id:Int}(h:bV id 1 65536=true)(h2:¬0<=cG s.n (fun i=>(fcAt s.fs i).id==id))(h3:s.n=8)(hb:Below w.heap.size w w'):eE s id w (.returned (.tuple #[.int .i64 0, .int .i64 2])) w':=⟨hb,by rw[if_neg (by simp[h]),if_neg h2,if_pos h3]⟩
theorem eE.c0{id:Int}(h:bV id 1 65536=true)(h2:¬0<=cG s.n (fun i=>(fcAt s.fs i).id==id))(h3:¬s.n=8)(hb:Below w.heap.size w w')(hh:(∃y,e= .returned (.tuple #[.int .i64 y, .int .i64 0])/\sF s y)\/(e= .returned (.tuple #[.int .i64 0, .int .i64 8])/\∀z,mC s.a s.l z=true->z∈aT s.fs)):eE s id w e w':=⟨hb,by rw[if_neg (by simp[h]),if_neg h2,if_neg h3];exact hh⟩
theorem EC(s:Sb)(id:Int)(w:World)(hrt:rt s.a s.l=true)(hp:oW w s.x s.n s.fs)(hn:s.n<=64)(hm:∀i,i<s.n->(fcAt s.fs i).n<=64)
 (hr:∀i,i<s.n->∀j,j<(fcAt s.fs i).n->0<=aU (fcAt s.fs i).ns j/\aU (fcAt s.fs i).ns j<=1000000):
  Calls Tryz.prog 248 #[.agg #[.int .i64 s.id, .int .i64 s.a, .int .i64 s.l, .slice s.x s.n s.c], .int .i64 id] w (eE s id w):=by
 have hgv:=fun W h=>N4 s W hrt h hn hm hr;clear hm hr;go_enter Tryz.func248,Tryz.ntmps248;go_upto_region 1 with fail
 obtain⟨w0,hw0⟩:∃w0,w0=w.alloc (NF s):=⟨_,rfl⟩;rw[<-hw0];have hB0:Below w.heap.size w w0:=by rw[hw0];exact bl1 w _
 have hb0:w0.heap[w.heap.size]?=some (NF s):=by rw[hw0];exact aB _ rfl
 clear hw0;obtain⟨c0,c1,c2,c3⟩:=fW hb0 rfl rfl rfl rfl
 cases hid:bV id 1 65536 with
 |false=>
  have hid':Hid (bV id 1 65536=false):=hid
  go_wp2_with fail
  refine(isId_is id false hid _).mono ?_
  rintro e w1 ⟨rfl,rfl⟩
  clear hid
  go_wp2
  refine bodyPost_ret (v:= .tuple #[.int .i64 0, .int .i64 3]) (by simp[results,Tryz.results248,go_sem]) rfl ?_
  exact eE.c3 hid'.out hB0
 |true=>
  have hid':Hid (bV id 1 65536=true):=hid
  go_wp2_with fail
  refine(isId_is id true hid _).mono ?_
  rintro e w1 ⟨rfl,rfl⟩
  clear hid
  have hfp:=BN s id w1 (hp.later hB0) (by omega)
  generalize hfe:cG s.n (fun i=>(fcAt s.fs i).id==id)=fp at hfp
  have hfe':Hid (cG s.n (fun i=>(fcAt s.fs i).id==id)=fp):=hfe
  clear hfe
  by_cases hge:0<=fp
  ·go_wp2_with fail;refine hfp.mono ?_;rintro e w2 ⟨rfl,hb2⟩;have hB2:=hB0.trans (hb2.mono hB0.size);go_wp2;refine bodyPost_ret (v:= .tuple #[.int .i64 0, .int .i64 6]) (by simp[results,Tryz.results248,go_sem]) rfl ?_;exact eE.c6 hid'.out (by rw[hfe'.out];exact hge) hB2
  ·go_wp2_with fail;refine hfp.mono ?_;rintro e w2 ⟨rfl,hb2⟩;have hB2:=hB0.trans (hb2.mono hB0.size);have hbx:=aA hb2 hb0;clear c0 c1 c2 c3;obtain⟨c0,c1,c2,c3⟩:=fW hbx rfl rfl rfl rfl;by_cases h8:s.n=8
   ·go_wp2;refine bodyPost_ret (v:= .tuple #[.int .i64 0, .int .i64 2]) (by simp[results,Tryz.results248,go_sem]) rfl ?_;exact eE.c2 hid'.out (by rw[hfe'.out];omega) h8 hB2
   ·have hl:=hgv w2 (hp.later hB2);clear hgv;go_wp2_with fail;refine hl.mono ?_;rintro e w3 ⟨hb3,h⟩;have hB3:=hB2.trans (hb3.mono hB2.size);clear c0 c1 c2 c3 hl;rcases h with ⟨y,rfl,hL⟩|⟨rfl,h1⟩
    ·go_wp2;refine bodyPost_ret (v:= .tuple #[.int .i64 y, .int .i64 0]) (by simp[results,Tryz.results248,go_sem]) rfl ?_;exact eE.c0 hid'.out (by rw[hfe'.out];omega) h8 hB3 (.inl ⟨y,rfl,hL⟩)
    ·have hH:Hid (∀z,mC s.a s.l z=true->z∈aT s.fs):=h1;clear h1;go_wp2;refine bodyPost_ret (v:= .tuple #[.int .i64 0, .int .i64 8]) (by simp[results,Tryz.results248,go_sem]) rfl ?_;exact eE.c0 hid'.out (by rw[hfe'.out];omega) h8 hB3 (.inr ⟨rfl,hH.out⟩)
theorem mF(h:bN vid rn rs sn ss=0):bV vid 1 65536=true/\yD rn rs=true/\wH rn rs sn ss=true:=by
 unfold bN at h;split at h
 ·omega
 ·split at h
  ·rename_i hw;simp only[zH]at hw;exact⟨hw.1.1,hw.1.2,hw.2⟩
  ·omega
theorem R8(h:bN vid rn rs sn ss=0):∀i,i<sn->rt (aG ss i).a (aG ss i).l=true/\
  ∀k,k<(aG ss i).n->∀j,j<(fcAt (aG ss i).fs k).n->0<=aU (fcAt (aG ss i).fs k).ns j/\aU (fcAt (aG ss i).fs k).ns j<=1000000:=fun i hi=>by
 obtain⟨-, -,hs⟩:=mF h;unfold wH at hs;rw[zH,List.all_eq_true]at hs;have h1:=hs.1 i (by simpa using hi);unfold nS at h1;simp only[zH]at h1;have hrt:=RR h1.1.1;refine⟨hrt,fun k hk j hj=>?_⟩;have hf:=h1.2;unfold oZ at hf;simp only[zH,List.all_eq_true]at hf;have h2:=hf.1.1 k (by simpa using hk);unfold mU at h2;simp only[zH]at h2;exact yG hrt (X2 h2.2 j hj)
end Go.Proofs.YtkgeoeglidnnnaaGreatDoor
namespace Go.Proofs.YtkgeoeglidnnnaaGreatDoor.Z
variable {E E' vid c m a y z : Int} {w w' W W' : World} {V u v vR vS : Value} {ss ts : List Sb} {i base b o g base' rn rc sn sc bm n hx ln : Nat} {cs cur : Array Value} {t : TypeId} {rs : List Rg} {rx sx x : Option Addr} {fs gs : List Fc} {s : Sb} {e : Ending} {T : Nat → Bool} {listed : Array Bool} {P : Program} {ops : Array Oper} {Q : Exit → Act → World → Prop} {S C : World → Prop} {oi : Oper} {l rest : List Oper} {r : Option Nat} {A : Act} {ls : List (Int × Int)} {vs : List Vn}
open Go.RowKit
def J0(T:Nat->Bool)(listed:Array Bool):Prop:=∀j,listed.getD j false=true->T j=true
theorem J0.back(h:J0 T (listed.setIfInBounds i true)):J0 T listed:=fun j hj=>h j (getD_set_true hj)
theorem J0.at(h:J0 T (listed.setIfInBounds i true))(hi:listed.getD i true=false):T i=true:=by
 refine h i ?_;have hl:i<listed.size:=by
  by_cases e:i<listed.size
  ·exact e
  ·rw[Array.getD_eq_getD_getElem?,Array.getElem?_eq_none (by omega)]at hi
   cases hi
 rw[Array.getD_eq_getD_getElem?,Array.getElem?_setIfInBounds_self_of_lt hl];rfl
theorem J0.set(h:J0 T listed)(hi:T i=true):J0 T (listed.setIfInBounds i true):=fun j hj=>by
 by_cases e:i=j
 ·subst e;exact hi
 ·rw[getD_set_ne false e]at hj;exact h j hj
def oX(P:Program)(ops:Array Oper)(Q:Exit->Act->World->Prop)(S:World->Prop)(T:Nat->Bool):Nat->Array Bool->Act->World->Prop
 |0,listed,a,w=>Region.ready .any ops listed=[]/\Q .normal a w
 |f+1,listed,a,w=>(Region.ready .any ops listed=[]->Q .normal a w)/\∀i∈Region.ready .any ops listed,wpOp P ops Q i (fun a' w'=>(J0 T (listed.setIfInBounds i true)->S w')/\oX P ops Q S T f (listed.setIfInBounds i true) a' w') a w
theorem oI:∀(f:Nat) (listed:Array Bool) (a:Act) (w:World),oX P ops Q S T f listed a w->wpAny P .any ops Q f listed a w
 |0,_,_,_,h=>h
 |f+1,_,_,_,h=>⟨h.1,fun i hi=>wpOp_mono (fun a' w' h'=>oI f _ a' w' h'.2) (h.2 i hi)⟩
theorem sX(hi:ops[i]?=some oi)(hsel:∀(j:Nat) (o:Oper) cs b,ops[j]?=some o->o.op≠ .select cs b)
 (hQ:∀d v c a w,Q (.panic c) (Act.put a d v) w->Q (.panic c) a w)(hTi:T i=true)(hC:(∀w,C w)\/((∀w,S w->C w)/\∀j,T j=false->j<ops.size->kG ops ops.size j i=true)):
  ∀(f:Nat) (listed:Array Bool) (a:Act) (w:World),nG ops listed->(J0 T listed\/∀w,C w)->
   (∀j oj,ops[j]?=some oj->j≠i->listed.getD j true=false->(∀e∈oj.after,Region.binds .any e=true->e.on≠i)->oi.apart ops oj=true)->
   i∈Region.ready .any ops listed->YieldsIf P ops C oi v a->(J0 T listed->S w)->
   oX P ops Q S T f (listed.setIfInBounds i true) (a.put oi.dst v) w->oX P ops Q S T (f+1) listed a w:=by
 intro f;have hCw:∀(listed:Array Bool) (w:World),(J0 T listed\/∀w,C w)->(J0 T listed->S w)->C w:=fun listed w ho hS=>by
  rcases ho with ho|ho
  ·rcases hC with hC|hC
   ·exact hC w
   ·exact hC.1 w (hS ho)
  ·exact ho w
 induction f with
 |zero=>
  intro listed a w _ ho _ hr hy hS H
  refine⟨fun h=>(by rw[h]at hr;cases hr),fun j hj=>?_⟩
  by_cases hji:j=i
  ·subst hji;exact hy.wpOp hi (hCw listed w ho hS) ⟨fun h=>hS h.back,H⟩
  ·have:=ready_mono hj hji;rw[H.1]at this
   cases this
 |succ f ih=>
  intro listed a w hsh ho hfree hr hy hS H
  refine⟨fun h=>(by rw[h]at hr;cases hr),fun j hj=>?_⟩
  by_cases hji:j=i
  ·subst hji;exact hy.wpOp hi (hCw listed w ho hS) ⟨fun h=>hS h.back,H⟩
  ·have h1:=H.2 j (ready_mono hj hji);obtain⟨hjun,oj,hoj,hall⟩:=mem_ready.1 hj;have h0:=(mem_ready.1 hr).1;have hnot:∀e∈oj.after,Region.binds .any e=true->e.on≠i:=fun e he hb heq=>by
    have h1:=hall e he hb;rw[heq,getD_both h0]at h1
    cases h1
   have ho':J0 T (listed.setIfInBounds j true)\/∀w,C w:=by
    rcases hC with hC|hC
    ·exact .inr hC
    ·rcases ho with ho|ho
     ·cases hT:T j with
      |true=>exact .inl (ho.set hT)
      |false=>
       have h2:=nH hsh ops.size j i (hC.2 j hT (zG hoj)) (fun ok hok e he hb=>by
        have:ok=oj:=Option.some.inj (hok.symm.trans hoj);subst this;exact hall e he hb)
       rw[getD_both h0]at h2
       cases h2
     ·exact .inr ho
   have h2:=wpOp_putIf hoj (hfree j oj hoj hji hjun hnot) (fun cs b=>hsel i oi cs b hi) (fun cs b=>hsel j oj cs b hoj) (fun c a w=>hQ _ _ c a w) hy h1;have hfree':∀k ok,ops[k]?=some ok->k≠i->(listed.setIfInBounds j true).getD k true=false->
     (∀e∈ok.after,Region.binds .any e=true->e.on≠i)->oi.apart ops ok=true:=fun k ok hk hki hun hno=>by
    refine hfree k ok hk hki ?_ hno;by_cases hjk:j=k
    ·subst hjk;exact hjun
    ·rw[getD_set_ne true hjk]at hun;exact hun
   refine wpOp_mono (fun a' w' h3=>⟨fun h=>?_,ih (listed.setIfInBounds j true) a' w' (hsh.set hj) ho' hfree' (ready_mono hr (Ne.symm hji)) h3.1 (fun h=>?_) ?_⟩) h2
   ·exact h3.2.1 (by rw[Array.setIfInBounds_comm _ _ (Ne.symm hji)];exact h.set hTi)
   ·exact h3.2.1 (by rw[Array.setIfInBounds_comm _ _ (Ne.symm hji)];exact h.set hTi)
   ·rw[Array.setIfInBounds_comm _ _ hji];exact h3.2.2
theorem wQ(hsel:Region.noSelect l.toArray=true)
 (hQ:∀d v c a w,Q (.panic c) (Act.put a d v) w->Q (.panic c) a w)(D:Array Bool)(hS:S w):
  ∀(hs:List Nat) (listed:Array Bool) (a:Act),(∀i∈hs,i<l.length/\MR (l.getD i kM)=true/\T i=true/\((∀w,C w)\/((∀w,S w->C w)/\∀j,T j=false->j<l.toArray.size->kG l.toArray l.toArray.size j i=true)))->nG l.toArray listed->(J0 T listed\/∀w,C w)->qX l.toArray hs listed=true->iC hs listed=D->
   wpQuiet P l.toArray C (fun a'=>oX P l.toArray Q S T g D a' w) (hs.map fun i=>l.getD i kM) a->oX P l.toArray Q S T (hs.length+g) listed a w
 |[],listed,a,_,hsh,_,_,hd,h=>by
  rw[List.length_nil,Nat.zero_add];subst hd;exact h
 |i::is,listed,a,hh,hsh,ho,hB,hd,h=>by
  obtain⟨hil,hpl,hTi,hwt⟩:=hh i (by simp);have h0:=kU hil;simp only[qX,zH]at hB;have hr:i∈Region.ready .any l.toArray listed:=by simpa using hB.1.1
  have hq:qOp P l.toArray C i (wpQuiet P l.toArray C (fun a'=>oX P l.toArray Q S T g D a' w) (is.map fun i=>l.getD i kM)) a:=by unfold qOp;simp only[h0];exact h
  obtain⟨v,hy,hKK⟩:=yieldsIn_of_qOp h0 hq;rw[List.length_cons,show is.length+1+g=(is.length+g)+1 by omega];refine sX h0 (Region.noSelect_spec hsel) hQ hTi hwt (is.length+g) listed a w hsh ho (Region.free_spec h0 hB.1.2) hr (pY hpl hy) (fun _=>hS) ?_;exact wQ hsel hQ D hS is _ _ (fun k hk=>hh k (by simp[hk])) (hsh.set hr) (ho.imp (fun g=>g.set hTi) id) hB.2 hd hKK
structure Wx:Type where
 val:World
@[simp] theorem Wx.all_const(p:Prop):(Wx->p)↔p:=⟨fun h=>h ⟨default⟩,fun h _=>h⟩
theorem Wx.any(w:World):∃u:Wx,w=u.val:=⟨⟨w⟩,rfl⟩
theorem fC{Q Q':Act->Prop}(h:∀a,Q a->Q' a):∀(l:List Oper) (a:Act),wpQuiet P ops C Q l a->wpQuiet P ops C Q' l a
 |[],a,g=>h a g
 |o::l,a,g=>by
  unfold wpQuiet at g⊢;split
  ·rename_i hw;rw[if_pos hw]at g;exact Oper.quiet_mono (fC h l) g
  ·rename_i hw;rw[if_neg hw]at g;exact fC h l _ g
theorem bB:∀(ts:List Nat) (listed:Array Bool) (a:Act) (w:World),(∀i∈ts,i<l.length/\T i=false)->
  wC l.toArray ts listed=true->wpList P l.toArray Q (ts.map fun i=>l.getD i kM) a w->oX P l.toArray Q S T ts.length listed a w
 |[],_,_,_,_,hB,h=>⟨by simpa[wC]using hB,h⟩
 |i::ts,listed,a,w,hh,hB,h=>by
  obtain⟨hil,hT⟩:=hh i (by simp);have h0:=kU hil;simp only[wC,zH,decide_eq_true_eq]at hB;refine⟨fun h1=>(by rw[hB.1]at h1;cases h1),fun k hk=>?_⟩;have hun:=(mem_ready.1 hk).1;rw[hB.1]at hk;have hik:k=i:=by simpa using hk
  subst hik;have hw:wpOp P l.toArray Q k (wpList P l.toArray Q (ts.map fun i=>l.getD i kM)) a w:=by unfold wpOp;simp only[h0];exact h
  exact wpOp_mono (fun a' w' h'=>⟨fun h=>absurd (h.at hun) (by rw[hT];decide),bB ts _ a' w' (fun i hi=>hh i (by simp[hi])) hB.2 h'⟩) hw
def pZ(ts:List Nat)(j:Nat):Bool:=!(ts.contains j)
def aEl(l:List Oper)(hs:List Nat)(c:Nat)(ps ts:List Nat):Bool:=
 Region.noSelect l.toArray&&uW l.toArray (Array.replicate l.toArray.size false)&&qX l.toArray hs (Array.replicate l.toArray.size false)&&(hs.all fun i=>decide (i<l.length)&&MR (l.getD i kM)&&pZ ts i&&(List.range l.toArray.size).all fun j=>pZ ts j||kG l.toArray l.toArray.size j i)&&
 decide (Region.ready .any l.toArray (iC hs (Array.replicate l.toArray.size false))=[c])&&decide (c<l.length)&&pZ ts c&&
 (ps.all fun i=>decide (i<l.length)&&MR (l.getD i kM)&&pZ ts i)&&uW l.toArray ((iC hs (Array.replicate l.toArray.size false)).setIfInBounds c true)&&qX l.toArray ps ((iC hs (Array.replicate l.toArray.size false)).setIfInBounds c true)&&
 wC l.toArray ts (iC ps ((iC hs (Array.replicate l.toArray.size false)).setIfInBounds c true))&&(ts.all fun i=>decide (i<l.length)&&!(pZ ts i))&&decide (hs.length+(ps.length+ts.length+1)=l.toArray.size)
structure YY(P:Program)(l:List Oper)(Q:Exit->Act->World->Prop)(w:World)(ps ts:List Oper)(K:Act->World->Prop):Prop where
 out:∀a' w',Below w.heap.size w w'->wpQuiet P l.toArray (fun w'=>∃u:Wx,w'=u.val) (fun a''=>wpList P l.toArray Q ts a'' w') ps a'->K a' w'
end Go.Proofs.YtkgeoeglidnnnaaGreatDoor.Z
namespace Go.Proofs.YtkgeoeglidnnnaaGreatDoor
variable {E E' vid c m a y z : Int} {w w' W W' : World} {V u v vR vS : Value} {ss ts : List Sb} {i base b o g base' rn rc sn sc bm n hx ln : Nat} {cs cur : Array Value} {t : TypeId} {rs : List Rg} {rx sx x : Option Addr} {fs gs : List Fc} {s : Sb} {e : Ending} {T : Nat → Bool} {listed : Array Bool} {P : Program} {ops : Array Oper} {Q : Exit → Act → World → Prop} {S C : World → Prop} {oi : Oper} {l rest : List Oper} {r : Option Nat} {A : Act} {ls : List (Int × Int)} {vs : List Vn}
open Go.RowKit
theorem bK{id:Nat}{a:Act}(hs:List Nat)(c:Nat)(ps ts:List Nat)(hm:P.follows .mixedOrders=true)(hB:Z.aEl l hs c ps ts=true)(hQ:∀d v c a w,Q (.panic c) (Act.put a d v) w->Q (.panic c) a w)
 (h:wpQuiet P l.toArray (fun w'=>∃u:Ws w.heap.size w,w'=u.val) (fun a'=>∀K,Z.YY P l Q w (ps.map fun i=>l.getD i kM) (ts.map fun i=>l.getD i kM) K->wpList P l.toArray (mP K Q) [l.getD c kM] a' w.drew) (hs.map fun i=>l.getD i kM) a):(Code.region id l.toArray true).wp P Q a w:=by
 simp only[Z.aEl,zH,decide_eq_true_eq,List.all_eq_true,Bool.not_eq_true']at hB;obtain⟨⟨⟨⟨⟨⟨⟨⟨⟨⟨⟨⟨h1,h2⟩,h3⟩,h4⟩,h5⟩,h6⟩,h7⟩,h8⟩,h9⟩,h10⟩,h11⟩,h12⟩,h13⟩:=hB;refine wp_region_any hm (Z.oI (S:=fun w'=>∃u:Ws w.heap.size w,w'=u.val) (T:=Z.pZ ts) _ _ _ _ ?_);have hok:Z.J0 (Z.pZ ts) (Array.replicate l.toArray.size false):=fun j hj=>by
  rw[Array.getD_eq_getD_getElem?,Array.getElem?_replicate]at hj;split at hj<;>cases hj
 have key:∀f,f=hs.length+(ps.length+ts.length+1)->Z.oX P l.toArray Q (fun w'=>∃u:Ws w.heap.size w,w'=u.val) (Z.pZ ts) f (Array.replicate l.toArray.size false) a w.drew:=?_
 ·exact key _ h13.symm
 intro f hf;subst hf;refine Z.wQ (C:=fun w'=>∃u:Ws w.heap.size w,w'=u.val) h1 hQ _ ⟨⟨_,(zD).drew⟩,rfl⟩ hs _ _ (fun i hi=>?_) (gB h2) (.inl hok) h3 rfl ?_
 ·obtain⟨⟨⟨g1,g2⟩,g3⟩,g4⟩:=h4 i hi;refine⟨g1,g2,g3, .inr ⟨fun _ g=>g,fun j hj hjs=>?_⟩⟩;have:=g4 j (List.mem_range.2 hjs);rw[hj,Bool.false_or]at this;exact this
 refine Z.fC (fun a' g=>?_) _ _ h;refine⟨fun e=>(by rw[h5]at e;cases e),fun j hj=>?_⟩;rw[h5]at hj;obtain rfl:j=c:=by simpa using hj
 refine dT h6 (g _ ⟨fun a2 w2 hb2 g2=>⟨fun _=>⟨⟨w2,hb2⟩,rfl⟩,?_⟩⟩);refine Z.wQ (C:=fun w'=>∃u:Z.Wx,w'=u.val) h1 hQ _ ⟨⟨w2,hb2⟩,rfl⟩ ps _ _ (fun i hi=>?_) (gB h9) (.inr Z.Wx.any) h10 rfl ?_
 ·obtain⟨⟨g1,g2⟩,g3⟩:=h8 i hi;exact⟨g1,g2,g3, .inl Z.Wx.any⟩
 exact Z.fC (fun a3 g3=>Z.bB ts _ _ _ h12 h11 g3) _ _ g2
open Go.RowKit Go.Shelf
structure G0(sn:Nat)(ss:List Sb)(sub:Int)(i:Nat):Prop where
 isn:i<sn
 sid:(aG ss i).id=sub
 sno:∀k,k<i->(aG ss k).id≠sub
def yW(s:Sb)(E y:Int):Prop:=(E=0/\sF s y)\/(E=8/\y=0/\∀z,mC s.a s.l z=true->z∈aT s.fs)
theorem sF.one(h:sF s y)(g:sF s z):y=z:=by
 rcases Int.lt_trichotomy y z with hyz|hyz|hyz
 ·have hu:=h.use;unfold mC at hu;simp only[zH,decide_eq_true_eq]at hu;exact absurd (g.first y hu.1 hyz) h.free
 ·exact hyz
 ·have hu:=g.use;unfold mC at hu;simp only[zH,decide_eq_true_eq]at hu;exact absurd (h.first z hu.1 hyz) g.free
theorem yW.one{y':Int}(h:yW s E y)(g:yW s E' y'):E=E'/\y=y':=by
 rcases h with ⟨rfl,h⟩|⟨rfl,rfl,h⟩
 ·rcases g with ⟨rfl,g⟩|⟨rfl,rfl,g⟩
  ·exact⟨rfl,h.one g⟩
  ·exact absurd (g y h.use) h.free
 ·rcases g with ⟨rfl,g⟩|⟨rfl,rfl,g⟩
  ·exact absurd (h y' g.use) g.free
  ·exact⟨rfl,rfl⟩
def tW(s:Sb)(id:Int):Int:=if bV id 1 65536=false then 3 else if 0<=cG s.n (fun i=>(fcAt s.fs i).id==id)then 6 else if s.n=8 then 2 else 0
def sG(s:Sb)(id E y:Int):Prop:=(tW s id≠0->E=tW s id/\y=0)/\(tW s id=0->yW s E y)
theorem eE.rel{id:Int}(h:eE s id w e w'):Below w.heap.size w w'/\∃y E,e= .returned (.tuple #[.int .i64 y, .int .i64 E])/\sG s id E y:=by
 refine⟨h.1,?_⟩;have h2:=h.2;unfold sG tW;by_cases c1:bV id 1 65536=false
 ·rw[if_pos c1]at h2⊢;exact⟨0,3,h2,fun _=>⟨rfl,rfl⟩,fun h=>absurd h (by decide)⟩
 ·rw[if_neg c1]at h2⊢;by_cases c2:0<=cG s.n (fun i=>(fcAt s.fs i).id==id)
  ·rw[if_pos c2]at h2⊢;exact⟨0,6,h2,fun _=>⟨rfl,rfl⟩,fun h=>absurd h (by decide)⟩
  ·rw[if_neg c2]at h2⊢;by_cases c3:s.n=8
   ·rw[if_pos c3]at h2⊢;exact⟨0,2,h2,fun _=>⟨rfl,rfl⟩,fun h=>absurd h (by decide)⟩
   ·rw[if_neg c3]at h2⊢;rcases h2 with ⟨y,h2,h3⟩|⟨h2,h3⟩
    ·exact⟨y,0,h2,fun h=>absurd rfl h,fun _=> .inl ⟨rfl,h3⟩⟩
    ·exact⟨0,8,h2,fun h=>absurd rfl h,fun _=> .inr ⟨rfl,rfl,h3⟩⟩
theorem sG.zero{id:Int}(h:sG s id E y)(hE:E≠0):y=0:=by
 by_cases c:tW s id=0
 ·rcases h.2 c with ⟨h1, -⟩|⟨-,h1, -⟩
  ·exact absurd h1 hE
  ·exact h1
 ·exact(h.1 c).2
def kJ(A:Int->Int->Prop)(R:World->Value->Int->Prop)(w:World)(e:Ending)(w':World):Prop:=
 ∃V y E,e= .returned (.tuple #[V, .int .i64 y, .int .i64 E])/\Below w.heap.size w w'/\A E y/\(E≠0->V= .agg #[.int .i64 0, .slice none 0 0, .slice none 0 0]/\y=0)/\(E=0->R w' V y)
theorem kJ.err{A:Int->Int->Prop}{R:World->Value->Int->Prop}(hA:A E 0)(hE:E≠0)(hb:Below w.heap.size w w'):kJ A R w (.returned (.tuple #[.agg #[.int .i64 0, .slice none 0 0, .slice none 0 0], .int .i64 0, .int .i64 E])) w':=
 ⟨_,0,E,rfl,hb,hA,fun _=>⟨rfl,rfl⟩,fun h=>absurd h hE⟩
theorem kJ.ok{A:Int->Int->Prop}{R:World->Value->Int->Prop}(hA:A 0 y)(hb:Below w.heap.size w w')(h:R w' V y):kJ A R w (.returned (.tuple #[V, .int .i64 y, .int .i64 0])) w':=
 ⟨_,y,0,rfl,hb,hA,fun h=>absurd rfl h,fun _=>h⟩
def sH(vid:Int)(rn:Nat)(rs:List Rg)(sn:Nat)(ss:List Sb)(sub id E y:Int):Prop:=
 if bN vid rn rs sn ss≠0 then E=bN vid rn rs sn ss/\y=0 else((∀i,i<sn->(aG ss i).id≠sub)/\E=5/\y=0)\/∃i,G0 sn ss sub i/\sG (aG ss i) id E y
def LK(e:Fc)(qs rs:List Fc):Prop:=∃i,i<=qs.length/\(∀j,j<i->¬e.id<(fcAt qs j).id)/\(i<qs.length->e.id<(fcAt qs i).id)/\rs=qs.take i++[e]++qs.drop i
def aCn(vid:Int)(rn:Nat)(rs:List Rg)(sn:Nat)(ss:List Sb)(sub id:Int)(base:Nat)(w:World)(V:Value)(y:Int):Prop:=
 bN vid rn rs sn ss=0/\∃ts i x n c fx gs,G0 sn ss sub i/\sG (aG ss i) id 0 y/\cO ss ts/\LK ⟨id,fx,1,1,[y]⟩ (aG ts i).fs gs/\n=gs.length/\PU w base vid V rs (ts.set i (kD (aG ts i) x n c gs))
theorem kN.give{c:Nat}(h:kN w base v ts ts.length)(hO:nV w base (.slice x n c) gs gs.length):E6 w base (ts.set i (kD (aG ts i) x n c gs)):=fun s hs=>by
 obtain⟨k,hk,rfl⟩:=List.getElem_of_mem hs;have hk':k<ts.length:=by simpa using hk
 rw[List.getElem_set];by_cases e:i=k
 ·rw[if_pos e];exact hO
 ·rw[if_neg e];have e2:aG ts k=ts[k]:=by unfold aG;rw[zF,List.getElem?_eq_getElem hk'];rfl
  rw[<-e2];exact h.own k hk'
theorem G1(h:W.heap[hx]?=some (.cells #[.int .i64 y] 3))(hb:base<=hx):dQ W base (.slice (some ⟨hx,0,none⟩) 1 1) [y]:=
 ⟨rfl, .inr ⟨hx,1,#[.int .i64 y],rfl,hb,h,by simp,by unfold maxLen;omega,by simp,rfl⟩⟩
theorem aCo{c:Nat}(h:fU w base (.slice x n c) fs):(x=none/\c=0)\/∃b o,x=some ⟨b,o,none⟩:=by
 rcases h.2 with ⟨h, -⟩|⟨g,cap,cur,h, -⟩
 ·simp only[Value.slice.injEq]at h;exact .inl ⟨h.1,h.2.2⟩
 ·simp only[Value.slice.injEq]at h;exact .inr ⟨g,0,h.1⟩
theorem N5(vid:Int)(rx:Option Addr)(rn rc:Nat)(rs:List Rg)(sx:Option Addr)(sn sc:Nat)(ss:List Sb)(sub id:Int)(w:World)(hv:Vp w rx rn rc rs sx sn sc ss)(hrn:rn<=9223372036854775807)(hsn:sn<=9223372036854775807)(hrc:rc<=9223372036854775807):
  Calls Tryz.prog 200 #[.agg #[.int .i64 vid, .slice rx rn rc, .slice sx sn sc], .int .i64 sub, .int .i64 id] w (kJ (sH vid rn rs sn ss sub id) (aCn vid rn rs sn ss sub id w.heap.size) w):=by
 have hsl:Hid (ss.length=sn):=hv.subs.len;go_enter Tryz.func200,Tryz.ntmps200;go_upto_region 1 with fail
 obtain⟨w0,hw0⟩:∃w0,w0=(w.alloc (eH vid (.slice rx rn rc) (.slice sx sn sc))).alloc (eH 0 (.slice none 0 0) (.slice none 0 0)):=⟨_,rfl⟩;rw[<-hw0];have hT0:TN w w0 vid rx rn rc sx sn sc:=by
  rw[hw0];exact⟨aH _ (aB _ rfl),aB _ (by simp),bP w _ _⟩
 clear hw0;obtain⟨b0,b1,b2⟩:=bZ hT0.hb rfl rfl rfl;obtain⟨s0,s1,s2⟩:=bZ hT0.hs rfl rfl rfl;obtain⟨zs0,zs1,zs2⟩:=fB hT0.hs;have hck:=checkV_any vid rx rn rc rs sx sn sc ss w0 (hv.later hT0.below) hrn hsn hrc;by_cases hc0:bN vid rn rs sn ss=0
 ·rw[hc0]at hck;obtain⟨f1,f2,f3,f4⟩:=jK hc0;have hcs:=R8 hc0;have hA0:Hid (∀i y,G0 sn ss sub i->∀{E},sG (aG ss i) id E y->sH vid rn rs sn ss sub id E y):=fun i y h1 E h2=>by
   unfold sH;rw[if_neg (by simp[hc0])];exact .inr ⟨i,h1,h2⟩
  have hA5:Hid ((∀i,i<sn->(aG ss i).id≠sub)->sH vid rn rs sn ss sub id 5 0):=fun h=>by
   unfold sH;rw[if_neg (by simp[hc0])];exact .inl ⟨h,rfl,rfl⟩
  have hcz:Hid (bN vid rn rs sn ss=0):=hc0;clear hc0;go_wp2_with fail;refine(hck).mono ?_;rintro e w1 ⟨rfl,hbw1⟩;have hT1:=hT0.later hbw1;clear b0 b1 b2 s0 zs0 s1 zs1 s2 zs2;obtain⟨b0,b1,b2⟩:=bZ hT1.hb rfl rfl rfl;obtain⟨s0,s1,s2⟩:=bZ hT1.hs rfl rfl rfl;obtain⟨zs0,zs1,zs2⟩:=fB hT1.hs;have hsp:=fun t h=>GZ vid sub rx rn rc sx sn sc ss t h w1 (hv.later hT1.below).subs (by omega);rcases fstAt_cases sn (fun i=>(aG ss i).id==sub)with ⟨i,hi,hf,hno,hfp⟩|⟨hno,hfp⟩
  ·have hsp':=hsp _ hfp;clear hsp hfp;have hSA:Hid (G0 sn ss sub i):=⟨hi,by simpa using hf,fun j hj=>by simpa using hno j hj⟩;clear hf hno;have hi':Hid (i<sn):=hi;have hn8:=f3 i hi;obtain⟨b,o,rfl,c0,c1,c2,c3⟩:=hv.subs.cells i hi;go_wp2_with fail;refine(hsp').mono ?_;rintro e w2 ⟨rfl,hbw2⟩;have hT2:=hT1.later hbw2;clear b0 b1 b2 s0 zs0 s1 zs1 s2 zs2;obtain⟨b0,b1,b2⟩:=bZ hT2.hb rfl rfl rfl;obtain⟨s0,s1,s2⟩:=bZ hT2.hs rfl rfl rfl;obtain⟨zs0,zs1,zs2⟩:=fB hT2.hs;have d0:=cell_later hT2.below c0;have d1:=cell_later hT2.below c1;have d2:=cell_later hT2.below c2;have d3:=cell_later hT2.below c3;clear c0 c1 c2 c3;have i0:(0:Int)<=i:=by omega
   have i1:(i:Int)<sn:=by omega
   have hfl:=EC (aG ss i) id w2 (hcs i hi).1 ((hv.later hT2.below).subs.faces i hi).2.2 (by omega) (fun j hj=>by have:=f4 i hi j hj;omega) (hcs i hi).2;go_wp2_with fail;refine hfl.mono ?_;rintro e w3 hfa;obtain⟨hbw3,y,E,rfl,hrel'⟩:=hfa.rel;have hrel:Hid (sG (aG ss i) id E y):=hrel';clear hrel' hfa hfl;have hT3:=hT2.later hbw3;clear b0 b1 b2 s0 zs0 s1 zs1 s2 zs2;obtain⟨b0,b1,b2⟩:=bZ hT3.hb rfl rfl rfl;obtain⟨s0,s1,s2⟩:=bZ hT3.hs rfl rfl rfl;obtain⟨zs0,zs1,zs2⟩:=fB hT3.hs;clear d0 d1 d2 d3;by_cases hE:E=0
   ·subst hE;have hv3:=fun W (hW:Below w.heap.size w W)=>fM vid rx rn rc rs (some ⟨b,o,none⟩) sn sc ss W (hv.later hW) (by omega) (by omega) (fun i hi=>by have:=f3 i hi;omega) (fun i hi j hj=>by have:=f4 i hi j hj;omega);go_wp2_with fail;refine(hv3 _ hT3.below).mono ?_;rintro e w5 ⟨vR,vS,ts,rfl,hOR,hss,hOS,hb5⟩;clear hv3;have hT5:=hT3.later hb5;have htl:Hid (ts.length=sn):=by unfold Hid;rw[<-hss.1];exact hsl.out
    have hit:i<ts.length:=by rw[htl.out];exact hi
    have hsi:=hss.2 i (by rw[hss.1];exact hit);obtain⟨xr,cr,rfl, -⟩:=hOR.rs;obtain⟨g,cap,hg5,cur,hgh,hvS⟩:∃g cap,w3.heap.size<=g/\∃cur,w5.heap[g]?=some (.cells cur 72)/\vS= .slice (some ⟨g,0,none⟩) ts.length cap:=by
     obtain⟨x2,c2,hv2, -⟩:=hOS.row.mem;rcases hOS.row.2 with ⟨hv', -⟩|⟨g,cap,cur,hv',hg1,hg2, -⟩
     ·rw[hv']at hv2;simp only[Value.slice.injEq]at hv2;omega
     ·exact⟨g,cap,hg1,cur,hg2,hv'⟩
    subst hvS;have hgl:g<w5.heap.size:=(zG hgh);clear b0 b1 b2 s0 zs0 s1 zs1 s2 zs2;go_upto_region 11 with fail
    obtain⟨w6,hw6⟩:∃w6,w6=w5.alloc (eH vid (.slice xr rs.length cr) (.slice (some ⟨g,0,none⟩) ts.length cap)):=⟨_,rfl⟩;rw[<-hw6];have hb56:Below w5.heap.size w5 w6:=by rw[hw6];exact bl1 _ _
    have hn6:w6.heap[w5.heap.size]?=some (eH vid (.slice xr rs.length cr) (.slice (some ⟨g,0,none⟩) ts.length cap)):=by rw[hw6];exact aB _ rfl
    have hs6:w6.heap.size=w5.heap.size+1:=by rw[hw6];simp
    clear hw6;have h13:w1.heap.size<=w3.heap.size:=Nat.le_trans hbw2.size hbw3.size;have hT6:=hT5.later hb56;have hg6:=aA hb56 hgh;have hOR6:=bT.later (hOR.low (base':=w1.heap.size) h13) hb56;have hOS6:=kN.later (hOS.low (base':=w1.heap.size) h13) hb56;obtain⟨hfS,hfl,hfc,hfm⟩:=(hOS6.own i hit).fcs;have hfx:=aCo (hOS6.own i hit).row;have hn8':(aG ts i).n<=8:=by rw[<-hsi.2.2.2.1];exact hn8
    have hfl':Hid ((aG ts i).fs.length=(aG ts i).n):=hfl;have n2:=aO hn6 2 rfl;have d3:w6.cell? ⟨g,i*4+3,none⟩=some (.slice (aG ts i).x (aG ts i).n (aG ts i).c):=by
     obtain⟨x2,c2,he2, -, -, -,hm'⟩:=hOS6.row.mem;simp only[Value.slice.injEq]at he2;obtain⟨b2,o2,he3, -, -, -,c8⟩:=hm' i hit;rw[<-he2.1]at he3;simp only[Option.some.injEq,Addr.mk.injEq]at he3;obtain⟨rfl,rfl, -⟩:=he3;simpa using c8
    have i1':(i:Int)<ts.length:=by omega
    have hput:=fun W (hW:Below w6.heap.size w6 W) hx bf hby=>RO ⟨id,some ⟨hx,0,none⟩,1,1,[y]⟩ (aG ts i).x (aG ts i).n (aG ts i).c (aG ts i).fs bf 1 W (hfS.later hW) (by omega) hfc hfm hfx hby;have hb16:w1.heap.size<=w6.heap.size:=by have:=hb5.size;omega
    have hsz1:w.heap.size+1<w1.heap.size:=(zG hT1.hs);have hq1:w5.heap.size≠g:=by omega
    have hq2:w.heap.size+1≠g:=by omega
    have hq4:w.heap.size<=g:=by omega
    have e2:∀u:Ws w6.heap.size w6,u.val.cell? ⟨w5.heap.size,2,none⟩=some (.slice (some ⟨g,0,none⟩) ts.length cap):=Ws.cell (by omega) n2;have e3:∀u:Ws w6.heap.size w6,u.val.cell? ⟨g,i*4+3,none⟩=some (.slice (aG ts i).x (aG ts i).n (aG ts i).c):=Ws.cell (by omega) d3;have hbd:Below w6.heap.size w6 w6.drew:=(zD).drew;clear hfl hfc hfm hsi hcs f1 f2 f3 f4 hn8 hn8' hfx hfS hs6;refine bG (fun w'=>∃u:Ws w6.heap.size w6,w'=u.val) (fun j=>decide (j<15)) 18 _ (by kernel_rfl) rfl rfl ?_;refine bE 7 [0,1,2,3,4,5,6,7,8,9,10] rfl _ rfl (by kernel_rfl) (fun d _ _ _ _ h=>by cases d<;>exact h) ⟨⟨_,hbd⟩,rfl⟩ ?_;simp only[zK,zM,zI,zJ];repeat(go_big_quiet_step (fail))
    refine wpQuiet_nil ?_;refine iD 11 13 _ _ _ _ (by kernel_rfl) (by kernel_rfl) rfl rfl rfl rfl ?_ ?_
    ·intro K hK;simp only[zI,zJ];go_wp2_with fail;have hba:Below w6.heap.size w6 (w6.alloc (.cells #[.int .i64 y] 3)).drew:=(bl1 w6 _).drew;refine aC (hK.out _ _ ⟨⟨_,hba⟩,rfl⟩ ?_);clear hK K;refine bE 5 [12] rfl _ rfl (by kernel_rfl) (fun d _ _ _ _ h=>by cases d<;>exact h) ⟨⟨_,hba⟩,rfl⟩ ?_;simp only[zK,zM,zI,zJ];repeat(go_big_quiet_step (fail))
     refine wpQuiet_nil ?_;refine aY 13 _ _ (by kernel_rfl) (by kernel_rfl) rfl rfl ?_;intro K hK;simp only[zI,zJ];go_wp2_with fail;have hbb:Below w6.heap.size w6 (((w6.alloc (.cells #[.int .i64 y] 3)).alloc (.cells #[.func (.func 221) #[] #[]] 278)).drew):=(bP w6 _ _).drew;refine aC (hK.out _ _ ⟨⟨_,hbb⟩,rfl⟩ ?_);clear hK K;refine aY 14 _ _ (by kernel_rfl) (by kernel_rfl) rfl rfl ?_;intro K hK;simp only[zI,zJ];go_wp2_with fail;refine(hput (((w6.alloc (.cells #[.int .i64 y] 3)).alloc (.cells #[.func (.func 221) #[] #[]] 278)).drew) hbb w6.heap.size (w6.heap.size+1) (by simp)).mono ?_;rintro e w7 ⟨v7,rfl,hb7,p,hp,hlow,hup,hO7⟩;have hb67:Below w6.heap.size w6 w7:=(hbb).trans (hb7.mono (hbb).size);have hgx7:=aA hb7 (aH _ (aB _ rfl));obtain⟨gs,hgs⟩:∃gs,Hid (gs=(aG ts i).fs.take p++[(⟨id,some ⟨w6.heap.size,0,none⟩,1,1,[y]⟩:Fc)]++(aG ts i).fs.drop p):=⟨_,rfl⟩;rw[<-hgs.out]at hO7;obtain⟨x7,c7,rfl, -⟩:=hO7.mem;have hT7:=hT6.later hb67;have hn7:=aA hb67 hn6;have hg7:=aA hb67 hg6;have hOS7:=kN.later hOS6 hb67;have hOR7:=bT.later hOR6 hb67;have hbs:w1.heap.size<=((((w6.alloc (.cells #[.int .i64 y] 3)).alloc (.cells #[.func (.func 221) #[] #[]] 278)).drew)).heap.size:=Nat.le_trans hb16 (hbb).size;have hIx:=G1 (base:=w1.heap.size) hgx7 (Nat.le_trans hb16 (by simp));have hOF7:nV w7 w1.heap.size (.slice x7 gs.length c7) gs gs.length:=nV.mk' (hO7.low hbs) (fun f hf=>by
      rw[hgs.out]at hf;simp only[List.mem_append,List.mem_singleton]at hf;rcases hf with (hf|rfl)|hf
      ·exact(hOS7.own i hit).each f (List.mem_of_mem_take hf)
      ·exact hIx
      ·exact(hOS7.own i hit).each f (List.mem_of_mem_drop hf))
     have hfa7:=kN.give (i:=i) hOS7 hOF7;have hput7:LK ⟨id,some ⟨w6.heap.size,0,none⟩,1,1,[y]⟩ (aG ts i).fs gs:=⟨p,by rw[hfl'.out];exact hp,hlow,by rw[hfl'.out];exact hup,hgs.out⟩;have n2':w7.cell? ⟨w5.heap.size,2,none⟩=some (.slice (some ⟨g,0,none⟩) ts.length cap):=(aD hn7).1 2;have df:w7.frozen? ⟨g,i*4+3,none⟩=false:=hOS7.row.frozen _;have d3':=cell_later hb67 d3;clear hput e2 e3 n2 d3 hgs hlow hup hp;go_wp2_with fail;refine aC (hK.out _ _ ⟨⟨_,hb67⟩,rfl⟩ ?_);clear hK K;refine bB [15,16,17] rfl (by kernel_rfl) ?_;simp only[zK,zM,zI,zJ];go_upto_region 12 with fail
     obtain⟨w8,hw8⟩:∃w8,w8=w7.setCell ⟨g,i*4+3,none⟩ (.slice x7 gs.length c7):=⟨_,rfl⟩;rw[<-hw8];have hn8:w8.heap[w5.heap.size]?=some (eH vid (.slice xr rs.length cr) (.slice (some ⟨g,0,none⟩) ts.length cap)):=by rw[hw8];exact(zB hq1).trans hn7
     have hs8:w8.heap[w.heap.size+1]?=some (eH 0 (.slice none 0 0) (.slice none 0 0)):=by rw[hw8];exact(zB hq2).trans hT7.hs
     have hB8:Below w.heap.size w w8:=by rw[hw8];exact hT7.below.setCell (p:=⟨g,i*4+3,none⟩) hq4 _
     have hOR8:bT w8 w1.heap.size (.slice xr rs.length cr) rs:=by rw[hw8];exact hOR7.putBox hg7 (by decide)
     have hrow8:dC w8 w1.heap.size (.slice (some ⟨g,0,none⟩) ts.length cap) (ts.set i (kD (aG ts i) x7 gs.length c7 gs)):=by rw[hw8];exact hOS7.row.set i hit _ _ _ _
     have hfa8:E6 w8 w1.heap.size (ts.set i (kD (aG ts i) x7 gs.length c7 gs)):=by rw[hw8];exact hfa7.keptOf (aN _ _ _ _) hg7 (by decide) (by decide)
     clear hw8 n2' df d3';obtain⟨m0,m1,m2⟩:=bZ hn8 rfl rfl rfl;obtain⟨s0,s1,s2⟩:=bZ hs8 rfl rfl rfl;obtain⟨zs0,zs1,zs2⟩:=fB hs8;go_wp2;refine bodyPost_ret (v:= .tuple #[.agg #[.int .i64 vid, .slice xr rs.length cr, .slice (some ⟨g,0,none⟩) ts.length cap], .int .i64 y, .int .i64 0]) (by simp[results,Tryz.results200,go_sem,s0,s1,s2]) rfl ?_;exact kJ.ok (hA0.out _ _ hSA.out hrel.out) (((hB8.setCell (p:=⟨w.heap.size+1,0,none⟩) (zA) _).setCell (p:=⟨w.heap.size+1,1,none⟩) (zA) _).setCell (p:=⟨w.heap.size+1,2,none⟩) (zA) _) ⟨hcz.out,ts,i,x7,gs.length,c7,_,gs,hSA.out,hrel.out,hss,hput7,rfl,PU.mk (((hOR8.put hsz1).put hsz1).put hsz1) (by omega) (((hrow8.put hsz1).put hsz1).put hsz1) (by omega) (((hfa8.put hsz1).put hsz1).put hsz1) (by omega)⟩
    ·intro K hK;simp only[zI,zJ];go_wp2_with fail;have hba:Below w6.heap.size w6 (w6.alloc (.cells #[.func (.func 221) #[] #[]] 278)).drew:=(bl1 w6 _).drew;refine aC (hK.out _ _ ⟨⟨_,hba⟩,rfl⟩ ?_);clear hK K;refine aY 11 _ _ (by kernel_rfl) (by kernel_rfl) rfl rfl ?_;intro K hK;simp only[zI,zJ];go_wp2_with fail;have hbb:Below w6.heap.size w6 (((w6.alloc (.cells #[.func (.func 221) #[] #[]] 278)).alloc (.cells #[.int .i64 y] 3)).drew):=(bP w6 _ _).drew;refine aC (hK.out _ _ ⟨⟨_,hbb⟩,rfl⟩ ?_);clear hK K;refine aY 12 _ _ (by kernel_rfl) (by kernel_rfl) rfl rfl ?_;intro K hK;simp only[zI,zJ];go_wp2_with fail;refine aC (hK.out _ _ ⟨⟨_,hbb⟩,rfl⟩ ?_);clear hK K;refine aY 14 _ _ (by kernel_rfl) (by kernel_rfl) rfl rfl ?_;intro K hK;simp only[zI,zJ];go_wp2_with fail;refine(hput (((w6.alloc (.cells #[.func (.func 221) #[] #[]] 278)).alloc (.cells #[.int .i64 y] 3)).drew) hbb (w6.heap.size+1) w6.heap.size (by simp)).mono ?_;rintro e w7 ⟨v7,rfl,hb7,p,hp,hlow,hup,hO7⟩;have hb67:Below w6.heap.size w6 w7:=(hbb).trans (hb7.mono (hbb).size);have hgx7:=aA hb7 (aB (W:=w6.alloc (.cells #[.func (.func 221) #[] #[]] 278)) (k:=w6.heap.size+1) _ (by simp));obtain⟨gs,hgs⟩:∃gs,Hid (gs=(aG ts i).fs.take p++[(⟨id,some ⟨(w6.heap.size+1),0,none⟩,1,1,[y]⟩:Fc)]++(aG ts i).fs.drop p):=⟨_,rfl⟩;rw[<-hgs.out]at hO7;obtain⟨x7,c7,rfl, -⟩:=hO7.mem;have hT7:=hT6.later hb67;have hn7:=aA hb67 hn6;have hg7:=aA hb67 hg6;have hOS7:=kN.later hOS6 hb67;have hOR7:=bT.later hOR6 hb67;have hbs:w1.heap.size<=((((w6.alloc (.cells #[.func (.func 221) #[] #[]] 278)).alloc (.cells #[.int .i64 y] 3)).drew)).heap.size:=Nat.le_trans hb16 (hbb).size;have hIx:=G1 (base:=w1.heap.size) hgx7 (Nat.le_trans hb16 (by simp));have hOF7:nV w7 w1.heap.size (.slice x7 gs.length c7) gs gs.length:=nV.mk' (hO7.low hbs) (fun f hf=>by
      rw[hgs.out]at hf;simp only[List.mem_append,List.mem_singleton]at hf;rcases hf with (hf|rfl)|hf
      ·exact(hOS7.own i hit).each f (List.mem_of_mem_take hf)
      ·exact hIx
      ·exact(hOS7.own i hit).each f (List.mem_of_mem_drop hf))
     have hfa7:=kN.give (i:=i) hOS7 hOF7;have hput7:LK ⟨id,some ⟨(w6.heap.size+1),0,none⟩,1,1,[y]⟩ (aG ts i).fs gs:=⟨p,by rw[hfl'.out];exact hp,hlow,by rw[hfl'.out];exact hup,hgs.out⟩;have n2':w7.cell? ⟨w5.heap.size,2,none⟩=some (.slice (some ⟨g,0,none⟩) ts.length cap):=(aD hn7).1 2;have df:w7.frozen? ⟨g,i*4+3,none⟩=false:=hOS7.row.frozen _;have d3':=cell_later hb67 d3;clear hput e2 e3 n2 d3 hgs hlow hup hp;go_wp2_with fail;refine aC (hK.out _ _ ⟨⟨_,hb67⟩,rfl⟩ ?_);clear hK K;refine bB [15,16,17] rfl (by kernel_rfl) ?_;simp only[zK,zM,zI,zJ];go_upto_region 12 with fail
     obtain⟨w8,hw8⟩:∃w8,w8=w7.setCell ⟨g,i*4+3,none⟩ (.slice x7 gs.length c7):=⟨_,rfl⟩;rw[<-hw8];have hn8:w8.heap[w5.heap.size]?=some (eH vid (.slice xr rs.length cr) (.slice (some ⟨g,0,none⟩) ts.length cap)):=by rw[hw8];exact(zB hq1).trans hn7
     have hs8:w8.heap[w.heap.size+1]?=some (eH 0 (.slice none 0 0) (.slice none 0 0)):=by rw[hw8];exact(zB hq2).trans hT7.hs
     have hB8:Below w.heap.size w w8:=by rw[hw8];exact hT7.below.setCell (p:=⟨g,i*4+3,none⟩) hq4 _
     have hOR8:bT w8 w1.heap.size (.slice xr rs.length cr) rs:=by rw[hw8];exact hOR7.putBox hg7 (by decide)
     have hrow8:dC w8 w1.heap.size (.slice (some ⟨g,0,none⟩) ts.length cap) (ts.set i (kD (aG ts i) x7 gs.length c7 gs)):=by rw[hw8];exact hOS7.row.set i hit _ _ _ _
     have hfa8:E6 w8 w1.heap.size (ts.set i (kD (aG ts i) x7 gs.length c7 gs)):=by rw[hw8];exact hfa7.keptOf (aN _ _ _ _) hg7 (by decide) (by decide)
     clear hw8 n2' df d3';obtain⟨m0,m1,m2⟩:=bZ hn8 rfl rfl rfl;obtain⟨s0,s1,s2⟩:=bZ hs8 rfl rfl rfl;obtain⟨zs0,zs1,zs2⟩:=fB hs8;go_wp2;refine bodyPost_ret (v:= .tuple #[.agg #[.int .i64 vid, .slice xr rs.length cr, .slice (some ⟨g,0,none⟩) ts.length cap], .int .i64 y, .int .i64 0]) (by simp[results,Tryz.results200,go_sem,s0,s1,s2]) rfl ?_;exact kJ.ok (hA0.out _ _ hSA.out hrel.out) (((hB8.setCell (p:=⟨w.heap.size+1,0,none⟩) (zA) _).setCell (p:=⟨w.heap.size+1,1,none⟩) (zA) _).setCell (p:=⟨w.heap.size+1,2,none⟩) (zA) _) ⟨hcz.out,ts,i,x7,gs.length,c7,_,gs,hSA.out,hrel.out,hss,hput7,rfl,PU.mk (((hOR8.put hsz1).put hsz1).put hsz1) (by omega) (((hrow8.put hsz1).put hsz1).put hsz1) (by omega) (((hfa8.put hsz1).put hsz1).put hsz1) (by omega)⟩
   ·have hy:Hid (y=0):=hrel.out.zero hE;go_wp2;refine bodyPost_ret (v:= .tuple #[.agg #[.int .i64 0, .slice none 0 0, .slice none 0 0], .int .i64 0, .int .i64 E]) (by simp[results,Tryz.results200,go_sem,s0,s1,s2]) rfl ?_;exact kJ.err (hA0.out i 0 hSA.out (hy.out▸hrel.out)) hE (((hT3.below.setCell (p:=⟨w.heap.size+1,0,none⟩) (zA) _).setCell (p:=⟨w.heap.size+1,1,none⟩) (zA) _).setCell (p:=⟨w.heap.size+1,2,none⟩) (zA) _)
  ·have hsp':=hsp _ hfp;have hno':Hid (∀i,i<sn->(aG ss i).id≠sub):=fun i hi=>by simpa using hno i hi
   clear hfp hsp hno;go_wp2_with fail;refine(hsp').mono ?_;rintro e w2 ⟨rfl,hbw2⟩;have hT2:=hT1.later hbw2;clear b0 b1 b2 s0 zs0 s1 zs1 s2 zs2;obtain⟨b0,b1,b2⟩:=bZ hT2.hb rfl rfl rfl;obtain⟨s0,s1,s2⟩:=bZ hT2.hs rfl rfl rfl;obtain⟨zs0,zs1,zs2⟩:=fB hT2.hs;go_wp2;refine bodyPost_ret (v:= .tuple #[.agg #[.int .i64 0, .slice none 0 0, .slice none 0 0], .int .i64 0, .int .i64 5]) (by simp[results,Tryz.results200,go_sem,s0,s1,s2]) rfl ?_;exact kJ.err (hA5.out hno'.out) (by decide) (((hT2.below.setCell (p:=⟨w.heap.size+1,0,none⟩) (zA) _).setCell (p:=⟨w.heap.size+1,1,none⟩) (zA) _).setCell (p:=⟨w.heap.size+1,2,none⟩) (zA) _)
 ·have hA1:Hid (sH vid rn rs sn ss sub id (bN vid rn rs sn ss) 0):=by
   unfold Hid sH;rw[if_pos hc0];exact⟨rfl,rfl⟩
  go_wp2_with fail;refine(hck).mono ?_;rintro e w1 ⟨rfl,hbw1⟩;have hT1:=hT0.later hbw1;clear b0 b1 b2 s0 zs0 s1 zs1 s2 zs2;obtain⟨b0,b1,b2⟩:=bZ hT1.hb rfl rfl rfl;obtain⟨s0,s1,s2⟩:=bZ hT1.hs rfl rfl rfl;obtain⟨zs0,zs1,zs2⟩:=fB hT1.hs;go_wp2;refine bodyPost_ret (v:= .tuple #[.agg #[.int .i64 0, .slice none 0 0, .slice none 0 0], .int .i64 0, .int .i64 (bN vid rn rs sn ss)]) (by simp[results,Tryz.results200,go_sem,s0,s1,s2]) rfl ?_;exact kJ.err hA1.out hc0 (((hT1.below.setCell (p:=⟨w.heap.size+1,0,none⟩) (zA) _).setCell (p:=⟨w.heap.size+1,1,none⟩) (zA) _).setCell (p:=⟨w.heap.size+1,2,none⟩) (zA) _)
def YA(s:Sb)(f:Fc)(E y:Int):Prop:=if f.n=4 then E=2/\y=0 else yW s E y
def aCp(vid:Int)(rn:Nat)(rs:List Rg)(sn:Nat)(ss:List Sb)(sub id E y:Int):Prop:=
 (plE vid rn rs sn ss sub id≠0->E=plE vid rn rs sn ss sub id/\y=0)/\(plE vid rn rs sn ss sub id=0->∃i j,JZ sn ss sub id i j/\YA (aG ss i) (fcAt (aG ss i).fs j) E y)
def aCq(e:Int)(qs rs:List Int):Prop:=∃i,i<=qs.length/\(∀j,j<i->¬e<aU qs j)/\(i<qs.length->e<aU qs i)/\rs=qs.take i++[e]++qs.drop i
theorem yX{x:Obj}(hg:w.grownBy w' r)(hne:r≠some b)(hx:w.heap[b]?=some x):w'.heap[b]?=some x:=
 (hg.block b (zG hx) (fun e=>hne e.symm)).trans hx
theorem kN.nil(w:World)(base:Nat):kN w base (.slice none 0 0) [] 0:=
 ⟨⟨rfl, .inl ⟨rfl,rfl⟩⟩,fun _ hi=>absurd hi (Nat.not_lt_zero _),fun _ _ hi=>absurd hi (Nat.not_lt_zero _)⟩
open Go.ChangeShapes Go.WideShapes Go.ChangeAt Go.RowKit Go.Joins
section
variable {H : Type} {enc : TypeId × Value → H} {w : World} {base : Nat} {spare : Nat → Bool} {held : Bool}
theorem gL{y:Option (DataW H×List MemPlace)}(hy:y.isSome=true)(h:DataW.trod enc Tryz.prog w base spare held n 3 [v]=y):∃a:Int,v= .int .i64 a:=by
 obtain⟨y,rfl⟩:=Option.isSome_iff_exists.1 hy;obtain⟨a,e, -⟩:=DataW.trod_int Tryz.underlying3 h;simp at e;exact⟨a,e⟩
end
theorem nY(h:i<rs.length):rgAt rs i=rs[i]:=by simp[rgAt,List.getD_eq_getElem?_getD,h]
theorem G2:Tryz.prog.underlying 77=some (.struct (Tryz.prog.fieldsOf 77)):=by kernel_rfl
theorem N6:Tryz.prog.stoodInHeld 77=false:=by kernel_rfl
theorem LL(a l c m:Int)(w:World):(binOp .eql 77 (.agg #[.int .i64 a, .int .i64 l]) (.agg #[.int .i64 c, .int .i64 m])).run Tryz.prog w= .ok (.bool (decide (a=c)&&decide (l=m))) w:=by
 rw[run_eql_struct,show(10000:Nat)=9999+1 from rfl,run_equalIn_agg w 9999 _ _ _ G2 N6];simp only[Program.fieldsOf,Tryz.underlying77];go_simp;by_cases h1:a=c<;>by_cases h2:l=m<;>simp[h1,h2]
theorem J1:Tryz.prog.eqGuardType Tryz.prog.depth 77=false:=by kernel_rfl
theorem yY(op:BinOp)(x y:Operand)(p q:Array Value)(w:World):(eqGuard op 77 x y (.agg p) (.agg q)).run Tryz.prog w= .ok () w:=by
 have h:=J1;unfold eqGuard
 cases op<;>simp[go_sem,h]
theorem J2{Q:Act->Prop}{o:Oper}(x y:Operand)(t:TypeId)(a l c m:Int)(hop:o.op= .binOp .eql 77 x y t)(hg:o.guard=none)
 (hx:A.eval x= .agg #[.int .i64 a, .int .i64 l])(hy:A.eval y= .agg #[.int .i64 c, .int .i64 m])(h:wpQuiet Tryz.prog ops C Q rest (A.put o.dst (.bool (decide (a=c)&&decide (l=m))))):wpQuiet Tryz.prog ops C Q (o::rest) A:=by
 unfold wpQuiet;rw[if_pos (by simp[Region.wanted,hg])];refine⟨_,fun w _=>?_,h⟩;unfold Oper.quietAt execOp;rw[hop];simp only[hx,hy,Sem.run_bind,yY,LL,Result.andThen_ok,Sem.run_pure];exact⟨rfl,rfl⟩
def lC(ps:List (Int×Int))(a l:Int)(i:Nat):Bool:=decide (a=at0 ps i)&&decide (l=bY ps i)
theorem G3(a l:Int)(x:Option Addr)(n c:Nat)(ps:List (Int×Int))(w:World)(hp:PS w x n ps)(hn:n<=64):
  Calls Tryz.prog 206 #[.slice x n c, .agg #[.int .i64 a, .int .i64 l]] w fun e w'=>(∃r:Int,e= .returned (.int .i64 r)/\((∃i:Nat,i<n/\lC ps a l i=true/\(∀j,j<i->lC ps a l j=false)/\r=i)\/((∀j,j<n->lC ps a l j=false)/\r= -1)))/\Below w.heap.size w w':=by
 go_enter Tryz.func206,Tryz.ntmps206;go_wp2;go_loopw [8] (fun i wr=>∃k:Nat,k<=n/\i= .int .i64 k/\Below (w.heap.size+1) (w.alloc (.cells #[.int .i64 a, .int .i64 l] 77)) wr/\(∀j,j<k->lC ps a l j=false)) (fun i _=>n- (intOf i).toNat)
 case atStart=>exact⟨0,by omega,rfl,zD,fun j hj=>by omega⟩
 case round=>
  obtain⟨k,hk,rfl,hB,hno⟩:=hrel
  have hz:=hB.size
  simp only[World.size_alloc]at hz
  by_cases hlt:k<n
  ·have hp2:=(hp.later (bl1 w (.cells #[.int .i64 a, .int .i64 l] 77)));obtain⟨b,o,rfl,c0,c1⟩:=hp2.cells k hlt;have hbl:=block_lt_of_cell c0;simp only[World.size_alloc]at hbl;have d0:wr.cell? ⟨b,o+k*2,none⟩=some (.int .i64 (at0 ps k)):=(hB.cell (p:=⟨b,o+k*2,none⟩) hbl).trans c0;have d1:wr.cell? ⟨b,o+k*2+1,none⟩=some (.int .i64 (bY ps k)):=(hB.cell (p:=⟨b,o+k*2+1,none⟩) hbl).trans c1;have e0:wr.cell? ⟨w.heap.size,0,none⟩=some (.int .i64 a):=(hB.cell (p:=⟨w.heap.size,0,none⟩) (by show w.heap.size<_;omega)).trans (by simp);have e1:wr.cell? ⟨w.heap.size,1,none⟩=some (.int .i64 l):=(hB.cell (p:=⟨w.heap.size,1,none⟩) (by show w.heap.size<_;omega)).trans (by simp);have g0:=Ws.here e0;have g1:=Ws.here e1;have g2:=Ws.here d0;have g3:=Ws.here d1;have hlt':=hlt;go_upto_region 4 with fail
   clear e0 e1 d0 d1 c0 c1;refine aE wr.heap.size (by kernel_rfl) (by kernel_rfl) ?_;repeat(go_big_quiet_step (fail))
   refine J2 _ _ _ a l (at0 ps k) (bY ps k) rfl rfl rfl rfl ?_;refine wpQuiet_nil ?_;rintro _ ⟨u,rfl⟩;have hu:=hB.trans (u.property.mono hz);generalize u.val=wu at hu⊢;clear u g0 g1 g2 g3
   cases he:lC ps a l k;all_goals have he':=he
   all_goals unfold lC at he'
   all_goals rw[he']
   ·go_wp2;go_roundw
    case rel=>exact⟨k+1,hlt',by go_num,hu,fun j hj=>by
     by_cases hj2:j<k
     ·exact hno j hj2
     ·obtain rfl:j=k:=by omega
      exact he⟩
    case measure=>simp[intOf];omega
   ·go_wp2;go_ret;exact⟨⟨_,rfl, .inl ⟨k,hlt',he,hno,rfl⟩⟩,(bl1 w _).trans (hu.mono (by omega))⟩
  ·go_wp2;go_ret;exact⟨⟨_,rfl, .inr ⟨fun j hj=>hno j (by omega),rfl⟩⟩,(bl1 w _).trans (hB.mono (by omega))⟩
theorem yZ{b:Int}:anyAt n (lC ls a b)=true↔∃i,i<n/\at0 ls i=a/\bY ls i=b:=by
 constructor
 ·intro h;obtain⟨i,hi,hf⟩:=nT h;unfold lC at hf;simp only[zH,decide_eq_true_eq]at hf;exact⟨i,hi,hf.1.symm,hf.2.symm⟩
 ·rintro⟨i,hi,h1,h2⟩;exact aW hi (by unfold lC;simp[h1,h2])
theorem zL(a l:Int)(x:Option Addr)(n c:Nat)(ps:List (Int×Int))(w:World)(hp:PS w x n ps)(hn:n<=64):
  Calls Tryz.prog 203 #[.slice x n c, .agg #[.int .i64 a, .int .i64 l]] w fun e w'=>e= .returned (.bool (anyAt n (lC ps a l)))/\Below w.heap.size w w':=by
 have H:=G3 a l x n c ps (w.alloc (.cells #[.int .i64 a, .int .i64 l] 77)) (hp.later (bl1 w _)) hn;have H':Hid (Calls Tryz.prog 206 #[.slice x n c, .agg #[.int .i64 a, .int .i64 l]] (w.alloc (.cells #[.int .i64 a, .int .i64 l] 77)) fun e w'=>(∃r:Int,e= .returned (.int .i64 r)/\decide (r≥0)=anyAt n (lC ps a l))/\Below (w.alloc (.cells #[.int .i64 a, .int .i64 l] 77)).heap.size (w.alloc (.cells #[.int .i64 a, .int .i64 l] 77)) w'):=(H.mono fun e w' h=>by
  obtain⟨⟨r,rfl,hr⟩,hb⟩:=h;refine⟨⟨r,rfl,?_⟩,hb⟩;rcases hr with ⟨i,hi,hfi,_,rfl⟩|⟨hno,rfl⟩
  ·rw[aW hi hfi];simp
  ·rw[dD hno];rfl)
 clear H;go_enter Tryz.func203,Tryz.ntmps203;go_wp2_with fail;refine H'.out.mono ?_;rintro e w1 ⟨⟨r,rfl,hr⟩,hb1⟩;go_wp2;go_ret;exact⟨rfl,(bl1 w _).trans (hb1.mono (by simp))⟩
def PV(ln:Nat)(ls:List (Int×Int))(a b:Int):Bool:=anyAt ln (lC ls (min a b) (max a b))
def YB(ln:Nat)(ls:List (Int×Int))(id:Int)(v:Vn):Bool:=(v.id==id)||PV ln ls v.id id
theorem oS(h:bQ n vs ln ls=0):n<=6/\ln<=12/\dV n vs=true/\cN n vs ln ls=true/\tS ls n vs=true:=by
 unfold bQ at h;split at h
 ·omega
 ·rename_i hm;simp only[Bool.or_eq_true,decide_eq_true_eq]at hm;split at h
  ·rename_i hw;simp only[zH]at hw;exact⟨by omega,by omega,hw.1.1,hw.1.2,hw.2⟩
  ·omega
theorem ED(ms:List (Int×Int)):∀(hd:Int->Int) (x y:Int),hd x=hd y->(ms.foldl (fun hd l x=>if hd x=hd l.1 then hd l.2 else hd x) hd) x=(ms.foldl (fun hd l x=>if hd x=hd l.1 then hd l.2 else hd x) hd) y:=by
 induction ms with
 |nil=>intro hd x y h;exact h
 |cons m ms ih=>
  intro hd x y h
  rw[List.foldl_cons]
  refine ih _ x y ?_
  simp only[h]
theorem N7{b:Int}(h:(a,b)∈ls):bH ls a=bH ls b:=by
 obtain⟨p,q,rfl⟩:=List.append_of_mem h;unfold bH;rw[List.foldl_append,List.foldl_cons];refine ED q _ a b ?_;simp only[if_true];split<;>rfl
theorem aCr{b:Int}(hl:ls.length=ln)(h:PV ln ls a b=true):bH ls a=bH ls b:=by
 obtain⟨i,hi,h0,h1⟩:=yZ.1 h;have hm:(min a b,max a b)∈ls:=by
  rw[<-h0,<-h1,yL (by omega)];exact List.getElem_mem _
 have:=N7 hm;by_cases e:a<=b
 ·rw[show min a b=a by omega,show max a b=b by omega]at this;exact this
 ·rw[show min a b=b by omega,show max a b=a by omega]at this;exact this.symm
theorem G4(h:dV n vs=true):∀i,i<n->bN (vnAt vs i).id (vnAt vs i).rn (vnAt vs i).rs (vnAt vs i).sn (vnAt vs i).ss=0:=fun i hi=>by
 unfold dV at h;rw[zH]at h;have hb:gS (vnAt vs i)=false:=by
  cases e:gS (vnAt vs i)
  ·rfl
  ·rw[aW (f:=fun i=>gS (vnAt vs i)) hi e]at h;exact absurd h.2 (by simp)
 unfold gS at hb;simpa using hb
theorem YC(h:tS ls n vs=true){i j:Nat}(hi:i<n)(hj:j<i):yM (bH ls) vs i j=false:=by
 unfold tS at h;rw[List.all_eq_true]at h;have h1:=h i (by simpa using hi);unfold JS at h1;rw[List.all_eq_true]at h1;have h2:=h1 j (by simpa using hj);simpa using h2
structure aCs(n:Nat)(vs:List Vn)(ln:Nat)(ls:List (Int×Int)):Prop where
 vl:vs.length=n
 ll:ls.length=ln
 rl:∀i,i<n->(vnAt vs i).rs.length=(vnAt vs i).rn
 chk:bQ n vs ln ls=0
theorem aCs.near_hd(h:aCs n vs ln ls){id:Int}{v:Vn}(hv:YB ln ls id v=true):bH ls v.id=bH ls id:=by
 unfold YB at hv;simp only[Bool.or_eq_true,beq_iff_eq]at hv;rcases hv with hv|hv
 ·rw[hv]
 ·exact aCr h.ll hv
theorem sI(h:cX vs=true):∀(i j:Nat),i<j->j<vs.length->(vnAt vs i).id<(vnAt vs j).id
 |i,0,hij,_=>by omega
 |i,j+1,hij,hj=>by
  have h1:fK vs (j+1)=true:=by
   unfold cX at h;rw[List.all_eq_true]at h;exact h (j+1) (by simpa using hj)
  unfold fK at h1;simp only[Nat.add_sub_cancel,Bool.or_eq_true,decide_eq_true_eq,beq_iff_eq]at h1;have h2:(vnAt vs j).id<(vnAt vs (j+1)).id:=by
   rcases h1 with h1|h1
   ·omega
   ·exact h1
  by_cases e:i<j
  ·have:=sI h i j e (by omega);omega
  ·obtain rfl:i=j:=by omega
   exact h2
theorem lD(hl:vs.length=n)(h:cX vs=true){i:Nat}(hi:i<n):aM n vs (vnAt vs i).id=i:=
 mD hi (by simp) (fun j hj=>by
  have:=sI h j i hj (by omega);simp;omega)
end Go.Proofs.YtkgeoeglidnnnaaGreatDoor
