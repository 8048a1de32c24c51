/- A part of the proof. -/
import Derived.Test.YtjphnaccgfjnjaaGreatDoorMK04
set_option maxRecDepth 100000
set_option maxHeartbeats 20000000
namespace Go.Proofs.YtjphnaccgfjnjaaGreatDoor
variable {E E' t mn mx us co l a T up z : Int} {w w' W W' W1 : World} {ps qs rs : List Po} {n base k g cap i m b o c : Nat} {p q e : Po} {v u : Value} {f : Nat → Bool} {es cs ls : List Le} {x : Option Addr} {P : Program} {ops : Array Oper} {C : World → Prop} {Q : Exit → Act → World → Prop} {oi : Oper}
open Go.RowKit Go.Shelf
def fP(E:Int)(R:Int->List Po->Prop)(w:World)(r:Ending)(w':World):Prop:=
 ∃v rs t',r= .returned (.tuple #[.agg #[.int .i64 t',v], .int .i64 E])/\Below w.heap.size w w'/\dJ w' w.heap.size v rs rs.length/\(E≠0->t'=0/\rs=[]/\v= .slice none 0 0)/\(E=0->R t' rs)
theorem fP.err{R:Int->List Po->Prop}(hE:E'=E/\E≠0)(hb:Below w.heap.size w w'):
  fP E' R w (.returned (.tuple #[.agg #[.int .i64 0, .slice none 0 0], .int .i64 E])) w':=
 ⟨_,[],0,by rw[hE.1],hb,dJ.nil _ _,fun _=>⟨rfl,rfl,rfl⟩,fun h=>absurd (hE.1.symm.trans h) hE.2⟩
theorem gN(h:aS t ps=0):ps.length<=8/\(0<=t/\t<=1073741824)/\lQ ps.length ps=true/\gF ps=true/\∀i,i<ps.length->kT t ps ps.length (poAt ps i)=true:=by
 refine⟨sP h,?_⟩;unfold aS at h;rw[if_neg (by have:=sP h;omega)]at h;split at h
 ·rename_i h2;simp only[zH]at h2;obtain⟨h3,h4,h5,h6⟩:=h2;refine⟨by unfold dE at h3;simpa using h3,h4,h5,fun i hi=>?_⟩;unfold oA at h6;rw[List.all_eq_true]at h6;exact h6 i (by simpa using hi)
 ·cases h
theorem eH(h:kT t ps n p=true):kM p.a p.l p.n (lp p.ls)=0/\dC p.mn p.mx p.us p.co p.l=true/\lL ps n p=true/\BW t ps p=true:=by
 unfold kT at h;simp only[zH]at h;obtain⟨h1,h2,h3,h4⟩:=h;exact⟨by simpa using h1,h2,h3,h4⟩
theorem EO(h:dC mn mx us co l=true):l<=mn/\mn<=us/\us<=mx/\mx<=16/\0<=co/\co<=1024:=by
 unfold dC dE at h;simp only[zH,decide_eq_true_eq]at h;omega
theorem iC(h:aS t ps=0)(i:Nat)(hi:i<ps.length):(poAt ps i).n<=32/\0<=(poAt ps i).co/\(poAt ps i).co<=1024:=by
 obtain⟨-, -, -, -,hp⟩:=gN h;obtain⟨h1,h2, -, -⟩:=eH (hp i hi);exact⟨(gV h1).1,(EO h2).2.2.2.2⟩
def yZ(ls:List Le)(a l:Int)(i:Nat):Bool:=((aN ls i).kd==1)&&(decide ((aN ls i).a=a)&&decide ((aN ls i).l=l))
theorem NI(a l:Int)(p:Le)(b:Nat)(w:World)(h0:w.cell? ⟨b,0,none⟩=some (.int .i64 a))(h1:w.cell? ⟨b,1,none⟩=some (.int .i64 l)):
  Calls Tryz.prog 156 #[.agg #[.int .i64 p.a, .int .i64 p.l, .int .i64 p.kd, .int .i64 p.ow, .int .i64 p.un], .pointer (some ⟨b,0,none⟩)] w fun e w'=>e= .returned (.bool ((p.kd==1)&&(decide (p.a=a)&&decide (p.l=l))))/\Below w.heap.size w w':=by
 have k0:∀q,(w.alloc q).cell? ⟨b,0,none⟩=some (.int .i64 a):=fun q=>cell_later (bl1 w q) h0;have k1:∀q,(w.alloc q).cell? ⟨b,1,none⟩=some (.int .i64 l):=fun q=>aF (bl1 w q) h1
 cases hk:(p.kd==1)
 ·go_enter Tryz.func156,Tryz.ntmps156;go_wp2;go_ret;exact⟨rfl,bl1 w _⟩
 ·go_enter Tryz.func156,Tryz.ntmps156;go_wp2;all_goals go_ret
  all_goals first|exact⟨rfl,bl1 w _⟩|exact⟨by simp_all,bl1 w _⟩
theorem JN(args:Array Value)(W:World):(callFunc 156 args).run Tryz.prog W= .ok (.enter 156 args) W:=by simp[go_sem]
theorem VJ(a l:Int)(b n:Nat)(ls:List Le)(w:World)(h0:w.cell? ⟨b,0,none⟩=some (.int .i64 a))(h1:w.cell? ⟨b,1,none⟩=some (.int .i64 l)):
  uI 156 #[.pointer (some ⟨b,0,none⟩)] n ls (yZ ls a l) w:=fun i _ W hW=>NI a l (aN ls i) b W (cell_later hW h0) (aF hW h1)
theorem oD(g:Nat)(cap:Array Value)(x:Option Addr)(n c:Nat)(ps:List Le)(f:Nat->Bool)(w:World)(hp:LS w x n ps)(hn:n<=1048576)(hF:uI g cap n ps f w)
 (hg:∀args W,(callFunc g args).run Tryz.prog W= .ok (.enter g args) W):
  Calls Tryz.prog 151 #[.slice x n c, .func (.func g) #[] cap] w fun e w'=>e= .returned (.int .i64 (bP n f))/\Below w.heap.size w w':=by
 refine(iJ g cap x n c ps f w hp hn hF hg).mono ?_;rintro e w' ⟨⟨r,rfl,hr⟩,hb⟩;rcases hr with ⟨i,hi,h1,h2,rfl⟩|⟨h1,rfl⟩
 ·exact⟨by rw[kS hi h1 h2],hb⟩
 ·exact⟨by rw[rB h1],hb⟩
structure XF(w W:World)(t a l:Int)(v:Value):Prop where
 hb:W.heap[w.heap.size]?=some (eZ t v)
 hp:W.heap[w.heap.size+1]?=some (.cells #[.int .i64 a, .int .i64 l] 26)
 hs:W.heap[w.heap.size+2]?=some (eZ 0 (.slice none 0 0))
 below:Below w.heap.size w W
theorem XF.later(h:XF w W t a l v)(hb:Below W.heap.size W W'):XF w W' t a l v:=
 ⟨aA hb h.hb,aA hb h.hp,aA hb h.hs,h.below.trans (hb.mono h.below.size)⟩
theorem XF.kept(h:XF w W t a l v)(hk:dT base W W')(hb:w.heap.size<=base):XF w W' t a l v:=
 ⟨hk.box _ _ _ h.hb (by decide) (by decide),hk.box _ _ _ h.hp (by decide) (by decide),hk.box _ _ _ h.hs (by decide) (by decide),h.below.trans (hk.below.mono hb)⟩
def iQ(t:Int)(ps:List Po)(id a l:Int):Int:=
 if aS t ps≠0 then aS t ps else if aO ps id<0 then 5 else if bP (poAt ps (aO ps id).toNat).n (yZ (poAt ps (aO ps id).toNat).ls a l)<0 then 5 else 0
def rD(ps:List Po)(i j:Nat)(t:Int)(rs:List Po):Prop:=∃qs x' c',cB ps qs/\rs=qs.set i (aW (poAt qs i) x' (cI (poAt ps i) j t).length c' (cI (poAt ps i) j t))
def oE(t:Int)(ps:List Po)(id a l:Int)(t':Int)(rs:List Po):Prop:=
 t'=t/\rD ps (aO ps id).toNat (bP (poAt ps (aO ps id).toNat).n (yZ (poAt ps (aO ps id).toNat).ls a l)).toNat t rs
def Q5(t:Int)(ps:List Po)(id a l:Int)(w:World):Ending->World->Prop:=fP (iQ t ps id a l) (oE t ps id a l) w
theorem zL(h:nA p q)(j:Nat)(t:Int):cI q j t=cI p j t:=by
 obtain⟨-, -, -, -, -, -, -,h1, -,h2⟩:=h;unfold cI;rw[h1,h2]
theorem lC(h:¬bP n f<0):∃i:Nat,i<n/\bP n f=i/\f i=true:=by
 rcases firstAt_any (n:=n) (f:=f)with ⟨-,i,h1,h2, -,h3⟩|⟨-, -,h3⟩
 ·exact⟨i,h1,h3,h2⟩
 ·rw[h3]at h;exact absurd (by decide) h
theorem GX(t:Int)(x:Option Addr)(n c:Nat)(ps:List Po)(id a l:Int)(w:World)(hk:Bk w x n c ps):
  Calls Tryz.prog 98 #[.agg #[.int .i64 t, .slice x n c], .int .i64 id, .agg #[.int .i64 a, .int .i64 l]] w (Q5 t ps id a l w):=by
 have hpl:Hid (ps.length=n):=hk.ps.len;go_enter Tryz.func98,Tryz.ntmps98;go_upto_region 1 with fail
 obtain⟨w0,hw0⟩:∃w0,w0=((w.alloc (eZ t (.slice x n c))).alloc (.cells #[.int .i64 a, .int .i64 l] 26)).alloc (eZ 0 (.slice none 0 0)):=⟨_,rfl⟩;rw[<-hw0];have hT0:XF w w0 t a l (.slice x n c):=by
  rw[hw0];exact⟨aG _ (aG _ (aB _ rfl)),aG _ (aB _ (by simp)),aB _ (by simp),(bO w _ _).alloc (by simp;omega) _⟩
 clear hw0;obtain⟨b0,b1⟩:=aR hT0.hb rfl rfl;obtain⟨a0,a1⟩:=aR hT0.hp rfl rfl;obtain⟨s0,s1⟩:=aR hT0.hs rfl rfl;obtain⟨zs0,zs1⟩:=bW hT0.hs;have hck:=fA t x n c ps w0 (hk.later hT0.below);by_cases hc0:aS t ps=0
 ·rw[hc0]at hck;go_wp2_with fail;refine hck.mono ?_;rintro e w1 ⟨rfl,hb1⟩;have hT1:=hT0.later hb1;obtain⟨hn8,⟨ht0,ht1⟩, -⟩:=gN hc0;rw[hpl.out]at hn8;clear b0 b1 a0 a1 s0 s1 zs0 zs1 hb1 hck;obtain⟨b0,b1⟩:=aR hT1.hb rfl rfl;obtain⟨a0,a1⟩:=aR hT1.hp rfl rfl;obtain⟨s0,s1⟩:=aR hT1.hs rfl rfl;obtain⟨zs0,zs1⟩:=bW hT1.hs;have hpc:=pplace_any t id x n c ps w1 (hk.later hT1.below).ps (by omega);have hE1:Hid (iQ t ps id a l=if aO ps id<0 then 5 else if bP (poAt ps (aO ps id).toNat).n (yZ (poAt ps (aO ps id).toNat).ls a l)<0 then 5 else 0):=if_neg (c:=aS t ps≠0) (by simp[hc0]);by_cases hat:aO ps id<0
  ·have hne:iQ t ps id a l=5/\(5:Int)≠0:=⟨hE1.out.trans (if_pos hat),by decide⟩;go_wp2_with fail;refine hpc.mono ?_;rintro e w2 ⟨rfl,hb2⟩;have hT2:=hT1.later hb2;clear b0 b1 a0 a1 s0 s1 zs0 zs1 hb2 hE1;obtain⟨b0,b1⟩:=aR hT2.hb rfl rfl;obtain⟨a0,a1⟩:=aR hT2.hp rfl rfl;obtain⟨s0,s1⟩:=aR hT2.hs rfl rfl;obtain⟨zs0,zs1⟩:=bW hT2.hs;go_wp2;refine bodyPost_ret (v:= .tuple #[.agg #[.int .i64 0, .slice none 0 0], .int .i64 5]) (by simp[results,Tryz.results98,go_sem,s0,s1]) rfl ?_;exact fP.err hne ((hT2.below.setCell (p:=⟨w.heap.size+2,0,none⟩) (zA) _).setCell (p:=⟨w.heap.size+2,1,none⟩) (zA) _)
  ·obtain⟨i,hi,hati, -⟩:=aX hat;have hcp:=iC hc0 i hi;rw[hpl.out]at hi;have hto:(aO ps id).toNat=i:=by rw[hati];rfl
   have hR:Hid (∀j t' rs,bP (poAt ps i).n (yZ (poAt ps i).ls a l)=((j:Nat):Int)->t'=t->rD ps i j t rs->oE t ps id a l t' rs):=fun j t' rs h1 h2 h3=>⟨h2,by rw[hto,h1];exact h3⟩;have hE2:Hid (iQ t ps id a l=if bP (poAt ps i).n (yZ (poAt ps i).ls a l)<0 then 5 else 0):=by
    have h:=hE1.out;rw[if_neg hat,hto]at h;exact h
   rw[hati]at hpc;clear hat hati hto hE1;go_wp2_with fail;refine hpc.mono ?_;rintro e w2 ⟨rfl,hb2⟩;have hT2:=hT1.later hb2;have hi0:(0:Int)<=i:=by omega
   clear b0 b1 a0 a1 s0 s1 zs0 zs1 hb2 hpc;obtain⟨b0,b1⟩:=aR hT2.hb rfl rfl;obtain⟨a0,a1⟩:=aR hT2.hp rfl rfl;obtain⟨s0,s1⟩:=aR hT2.hs rfl rfl;obtain⟨zs0,zs1⟩:=bW hT2.hs;have hk2:=hk.later hT2.below;obtain⟨b,o,rfl,c0,c1,c2,c3,c4,c5,c6,c7,c8⟩:=hk2.ps.cells i hi;obtain⟨hlc,hlm,hLS⟩:=hk2.ps.leases i hi;have hin:(i:Int)<n:=by omega
   have hix:=oD 156 #[.pointer (some ⟨w.heap.size+1,0,none⟩)] (poAt ps i).x (poAt ps i).n (poAt ps i).c (poAt ps i).ls (yZ (poAt ps i).ls a l) w2 hLS hlm (VJ a l (w.heap.size+1) _ _ w2 a0 a1) JN;by_cases hfi:bP (poAt ps i).n (yZ (poAt ps i).ls a l)<0
   ·have hne:iQ t ps id a l=5/\(5:Int)≠0:=⟨hE2.out.trans (if_pos hfi),by decide⟩;clear hR hE2;go_wp2_with fail;refine hix.mono ?_;rintro e w3 ⟨rfl,hb3⟩;have hT3:=hT2.later hb3;clear b0 b1 a0 a1 s0 s1 zs0 zs1 hb3 c0 c1 c2 c3 c4 c5 c6 c7 c8;obtain⟨b0,b1⟩:=aR hT3.hb rfl rfl;obtain⟨a0,a1⟩:=aR hT3.hp rfl rfl;obtain⟨s0,s1⟩:=aR hT3.hs rfl rfl;obtain⟨zs0,zs1⟩:=bW hT3.hs;go_wp2;refine bodyPost_ret (v:= .tuple #[.agg #[.int .i64 0, .slice none 0 0], .int .i64 5]) (by simp[results,Tryz.results98,go_sem,s0,s1]) rfl ?_;exact fP.err hne ((hT3.below.setCell (p:=⟨w.heap.size+2,0,none⟩) (zA) _).setCell (p:=⟨w.heap.size+2,1,none⟩) (zA) _)
   ·have hE0:Hid (iQ t ps id a l=0):=hE2.out.trans (if_neg hfi);obtain⟨j,hj,hfj, -⟩:=lC hfi;rw[hfj]at hix;have hR2:Hid (∀t' rs,t'=t->rD ps i j t rs->oE t ps id a l t' rs):=fun t' rs=>hR.out j t' rs hfj;clear hfi hfj hE2 hR;go_wp2_with fail;refine hix.mono ?_;rintro e w3 ⟨rfl,hb3⟩;have hT3:=hT2.later hb3;have hj0:(0:Int)<=j:=by omega
    clear b0 b1 a0 a1 s0 s1 zs0 zs1 hb3 c0 c1 c2 c3 c4 c5 c6 c7 c8 hix;obtain⟨b0,b1⟩:=aR hT3.hb rfl rfl;obtain⟨a0,a1⟩:=aR hT3.hp rfl rfl;obtain⟨s0,s1⟩:=aR hT3.hs rfl rfl;obtain⟨zs0,zs1⟩:=bW hT3.hs;go_wp2_with fail;refine(dZ t (some ⟨b,o,none⟩) n c ps w3 (hk.later hT3.below) (by omega)).mono ?_;rintro e w5 ⟨v5,qs,rfl,hs,hOB,hb5⟩;have hql:i<qs.length:=by rw[<-hs.1,hpl.out];exact hi
    rcases hOB.row.2 with ⟨-,h0⟩|⟨g,cap,cur,rfl,hg1,hg2, -⟩
    ·omega
    clear b0 b1 a0 a1 s0 s1 zs0 zs1;go_upto_region 11 with fail
    obtain⟨w6,hw6⟩:∃w6,w6=w5.alloc (eZ t (.slice (some ⟨g,0,none⟩) qs.length cap)):=⟨_,rfl⟩;rw[<-hw6];have hT6:XF w w6 t a l (.slice (some ⟨b,o,none⟩) n c):=by rw[hw6];exact(hT3.later hb5).later (bl1 _ _)
    have hn6:w6.heap[w5.heap.size]?=some (eZ t (.slice (some ⟨g,0,none⟩) qs.length cap)):=by rw[hw6];exact aB _ rfl
    have hOB6:dJ w6.drew w3.heap.size (.slice (some ⟨g,0,none⟩) qs.length cap) qs qs.length:=by
     rw[hw6];exact hOB.later (bl1 _ _).drew
    have hs6:w3.heap.size<=w6.drew.heap.size:=by rw[hw6];have:=hb5.size;simp;omega
    clear hw6 hOB hb5 hg2;have hsp:=hs.2 i (by rw[hpl.out];exact hi);have hsp2:=hsp;obtain⟨-, -, -, -, -, -, -,hqc,hqn, -⟩:=hsp2;have hql2:(i:Int)<qs.length:=by omega
    obtain⟨m0,m1⟩:=aR hn6 rfl rfl;have hcool:=GW w3.heap.size g qs.length cap qs i j t w6.drew hOB6 hql (by rw[<-hqn];exact hj) (by rw[<-hqn];exact hcp.1) hs6 ht0 ht1 (by rw[<-hqc];exact hcp.2.1) (by rw[<-hqc];exact hcp.2.2);go_region_with (go_at_call 91;refine hcool.mono ?_;rintro e w7 ⟨rfl,x',c',hOB7,hK7⟩);all_goals have hK:dT w3.heap.size w6 w7:=⟨hK7.os,hK7.tape,hK7.output,hK7.size,hK7.low,hK7.box⟩
    all_goals have hT7:=hT6.kept hK hT3.below.size
    all_goals have hn7:=hK.box _ _ _ hn6 (by decide) (by decide)
    all_goals clear m0 m1 hcool
    all_goals obtain⟨m0,m1⟩:=aR hn7 rfl rfl
    all_goals obtain⟨s0,s1⟩:=aR hT7.hs rfl rfl
    all_goals obtain⟨zs0,zs1⟩:=bW hT7.hs
    all_goals have hsz:w.heap.size+2<w3.heap.size:=(zG hT3.hs)
    all_goals go_wp2
    all_goals refine bodyPost_ret (v:= .tuple #[.agg #[.int .i64 t, .slice (some ⟨g,0,none⟩) qs.length cap], .int .i64 0]) (by simp[results,Tryz.results98,go_sem,s0,s1]) rfl ?_
    all_goals have hfin:=(hT7.below.setCell (p:=⟨w.heap.size+2,0,none⟩) (zA) (.int .i64 t)).setCell (p:=⟨w.heap.size+2,1,none⟩) (zA) (.slice (some ⟨g,0,none⟩) qs.length cap)
    all_goals have hob:=((hOB7.put (o:=0) (u:= .int .i64 t) hsz).put (o:=1) (u:= .slice (some ⟨g,0,none⟩) qs.length cap) hsz).low hT3.below.size
    all_goals exact⟨_,_,t,by rw[hE0.out],hfin,hob,fun h=>absurd hE0.out h,fun _=>hR2.out t _ rfl ⟨qs,x',c',hs,by rw[zL hsp]⟩⟩
 ·have hne:iQ t ps id a l=aS t ps/\aS t ps≠0:=⟨if_pos hc0,hc0⟩;go_wp2_with fail;refine hck.mono ?_;rintro e w1 ⟨rfl,hb1⟩;have hT1:=hT0.later hb1;clear b0 b1 a0 a1 s0 s1 zs0 zs1 hck hb1;obtain⟨b0,b1⟩:=aR hT1.hb rfl rfl;obtain⟨a0,a1⟩:=aR hT1.hp rfl rfl;obtain⟨s0,s1⟩:=aR hT1.hs rfl rfl;obtain⟨zs0,zs1⟩:=bW hT1.hs;go_wp2;refine bodyPost_ret (v:= .tuple #[.agg #[.int .i64 0, .slice none 0 0], .int .i64 (aS t ps)]) (by simp[results,Tryz.results98,go_sem,s0,s1]) rfl ?_;exact fP.err hne ((hT1.below.setCell (p:=⟨w.heap.size+2,0,none⟩) (zA) _).setCell (p:=⟨w.heap.size+2,1,none⟩) (zA) _)
def zN(gf:Nat)(cp:Array Value)(es:List Le)(d:Le->Bool)(base:Nat)(w:World):Prop:=
 ∀i,i<es.length->∀W,dT base w W->Calls Tryz.prog gf (#[.agg #[.int .i64 (aN es i).a, .int .i64 (aN es i).l, .int .i64 (aN es i).kd, .int .i64 (aN es i).ow, .int .i64 (aN es i).un]]++cp) W fun e W'=>e= .returned (.bool (d (aN es i)))/\Below W.heap.size W W'
theorem pR(hk:k<es.length):es.take (k+1)=es.take k++[aN es k]:=by
 rw[List.take_add_one,aN,zF,List.getElem?_eq_getElem hk];rfl
theorem sS{d:Le->Bool}(hk:k<=es.length)(h:∀j,j<k->d (aN es j)=false):(es.take k).filter (fun e=>!d e)=es.take k:=by
 rw[List.filter_eq_self];intro e he;obtain⟨j,hj,rfl⟩:=List.mem_iff_getElem.1 he;have hj2:j<k:=by rw[List.length_take]at hj;omega
 have h2:=h j hj2;rw[aN,zF,List.getElem?_eq_getElem (by omega),Option.getD_some]at h2;rw[List.getElem_take,h2];rfl
theorem Q6{a:Nat}{e:Le}(ha:a<cs.length):(cs.set a e).take (a+1)=cs.take a++[e]:=by
 rw[pR (by rw[List.length_set];exact ha),yX ha,if_pos rfl,List.take_set_of_le (zE)]
structure Q7(w wr:World)(base g2 n c:Nat)(es:List Le)(d:Le->Bool)(a k:Nat):Prop where
 ak:a<k
 kn:k<=n
 row:∃cs,cD wr base (.slice (some ⟨g2,0,none⟩) n c) cs/\cs.length=n/\cs.take a=(es.take k).filter (fun e=>!d e)/\∀q,k<=q->q<n->aN cs q=aN es q
 kept:w.grownBy wr (some g2)
theorem xF(gf:Nat)(cp:Array Value)(base:Nat)(x:Option Addr)(n c:Nat)(es:List Le)(d:Le->Bool)(w:World)(hO:cD w base (.slice x n c) es)(hn:n<=64)(hbs:base<=w.heap.size)(hF:zN gf cp es d base w)
 (hgf:∀args W,(callFunc gf args).run Tryz.prog W= .ok (.enter gf args) W):
  Calls Tryz.prog 94 #[.slice x n c, .func (.func gf) #[] cp] w fun e w'=>e= .returned (.slice x (es.filter (fun e=>!d e)).length c)/\cD w' base (.slice x (es.filter (fun e=>!d e)).length c) (es.filter (fun e=>!d e))/\((x=none/\Below w.heap.size w w')\/∃g2,x=some ⟨g2,0,none⟩/\w.grownBy w' (some g2)):=by
 have HF:Hid (zN gf cp es d base w):=hF;clear hF;obtain⟨hLS,hll,hnc,hc63⟩:=hO.ls;have hll':Hid (es.length=n):=hll;have hix:=oD gf cp x n c es (fun i=>d (aN es i)) w hLS (by omega) (fun i hi W hW=>HF.out i (by omega) W (dT.of_below hW hbs)) hgf;by_cases hfi:bP n (fun i=>d (aN es i))<0
 ·have hno:∀j,j<n->d (aN es j)=false:=by
   rcases firstAt_any (n:=n) (f:=fun i=>d (aN es i))with ⟨-,i, -, -, -,h3⟩|⟨-,h2,h3⟩
   ·omega
   ·exact h2
  have hm1:bP n (fun i=>d (aN es i))= -1:=by
   rcases firstAt_any (n:=n) (f:=fun i=>d (aN es i))with ⟨-,i, -, -, -,h3⟩|⟨-,h2,h3⟩
   ·omega
   ·exact h3
  have hfe:Hid (es.filter (fun e=>!d e)=es):=by
   have:=sS (es:=es) (d:=d) (k:=n) (by omega) hno;rw[List.take_of_length_le (by omega)]at this;exact this
  rw[hm1]at hix;clear hno hm1 hfi hll;go_enter Tryz.func94,Tryz.ntmps94;go_wp2_with fail;refine hix.mono ?_;rintro e w1 ⟨rfl,hb1⟩;have hO1:=hO.later hb1;go_wp2;go_ret;rw[hfe.out,hll'.out];refine⟨rfl,hO1,?_⟩;rcases hO.2 with ⟨hv, -⟩|⟨g2,cap2,cur2,hv, -⟩
  ·simp only[Value.slice.injEq]at hv;exact .inl ⟨hv.1,hb1⟩
  ·simp only[Value.slice.injEq]at hv;exact .inr ⟨g2,hv.1,hb1.os,hb1.tape,hb1.output,hb1.size,fun k hk _=>hb1.block k hk⟩
 ·obtain⟨i,hi,hfe,hdi⟩:=lC hfi;have hno:∀j,j<i->d (aN es j)=false:=by
   rcases firstAt_any (n:=n) (f:=fun i=>d (aN es i))with ⟨-,i2, -, -,h2,h3⟩|⟨-, -,h3⟩
   ·have:i2=i:=by omega
    subst this;exact h2
   ·omega
  obtain⟨g2,rfl⟩:∃g2,x=some ⟨g2,0,none⟩:=by
   rcases hO.2 with ⟨hv, -⟩|⟨g2,cap2,cur2,hv, -⟩
   ·simp only[Value.slice.injEq]at hv;omega
   ·simp only[Value.slice.injEq]at hv;exact⟨_,hv.1⟩
  obtain⟨hb2,cur2,hg2⟩:=hO.block;have hst:Hid (∀w1,Below w.heap.size w w1->Q7 w w1 base g2 n c es d i (i+1)):=fun w1 hb1=>⟨by omega,by omega,⟨es,hO.later hb1,hll'.out,by rw[pR (by omega),List.filter_append,sS (by omega) hno];simp[hdi],fun _ _ _=>rfl⟩,hb1.os,hb1.tape,hb1.output,hb1.size,fun k hk _=>hb1.block k hk⟩;rw[hfe]at hix;have hi0:(0:Int)<=i:=by omega
  have hi64:(i:Int)<64:=by omega
  have him:¬(i:Int)= -1:=by omega
  have hiz:i<n:=hi;clear hno hfi hfe hdi hLS hll hi hO;go_enter Tryz.func94,Tryz.ntmps94;go_wp2_with fail;refine hix.mono ?_;rintro e w1 ⟨rfl,hb1⟩;have hI1:=hst.out w1 hb1;clear hix hst hb1;go_wp2;go_loopw [5,6] (fun p q wr=>∃a k:Nat,p= .int .i64 a/\q= .int .i64 k/\Q7 w wr base g2 n c es d a k) (fun _ q _=>n- (intOf q).toNat)
  case atStart=>exact⟨i,i+1,rfl,by go_num,hI1⟩
  case round=>
   obtain⟨a,k,rfl,rfl,hI⟩:=hrel
   obtain⟨hak,hkn,⟨cs,hOc,hcl,hct,hcr⟩,hgr⟩:=hI
   have hct':Hid (cs.take a=(es.take k).filter (fun e=>!d e)):=hct
   have hcr':Hid (∀q,k<=q->q<n->aN cs q=aN es q):=hcr
   clear hct hcr
   by_cases hlt:k<n
   ·obtain⟨b3,o3,hx3,c0,c1,c2,c3,c4⟩:=hOc.ls.1.cells k hlt;simp only[Option.some.injEq,Addr.mk.injEq]at hx3;obtain⟨rfl,rfl, -⟩:=hx3;rw[hcr'.out k (zE) hlt]at c0 c1 c2 c3 c4;simp only[Nat.zero_add]at c0 c1 c2 c3 c4;go_upto_region 8 with fail
    obtain⟨w2,hw2⟩:∃w2,w2=wr.alloc (.cells #[.int .i64 (aN es k).a, .int .i64 (aN es k).l, .int .i64 (aN es k).kd, .int .i64 (aN es k).ow, .int .i64 (aN es k).un] 87):=⟨_,rfl⟩;rw[<-hw2];have hB2:Below wr.heap.size wr w2:=by rw[hw2];exact bl1 _ _
    have hv2:w2.heap[wr.heap.size]?=some (.cells #[.int .i64 (aN es k).a, .int .i64 (aN es k).l, .int .i64 (aN es k).kd, .int .i64 (aN es k).ow, .int .i64 (aN es k).un] 87):=by rw[hw2];exact aB _ rfl
    clear hw2 c0 c1 c2 c3 c4;obtain⟨v0,v1,v2,v3,v4⟩:=bx5 hv2 rfl rfl rfl rfl rfl;have hK2:dT base w w2:=(dT.of_grown hgr hb2 hbs hg2 (.inr rfl)).trans (dT.of_below hB2 (Nat.le_trans hbs hgr.size));have hcall:=HF.out k (by rw[hll'.out];exact hlt) w2 hK2;go_wp2_with fail;refine hcall.mono ?_;rintro e w3 ⟨rfl,hb3⟩;have hB3:Below wr.heap.size wr w3:=hB2.trans (hb3.mono hB2.size);have hv3:=aA hb3 hv2;clear v0 v1 v2 v3 v4 hcall hb3 hB2 hv2 hK2;have hO3:=hOc.later hB3;have hg3:w.grownBy w3 (some g2):=eK hgr ⟨hB3.os,hB3.tape,hB3.output,hB3.size,fun k hk _=>hB3.block k hk⟩
    cases hd:d (aN es k)
    ·obtain⟨v0,v1,v2,v3,v4⟩:=bx5 hv3 rfl rfl rfl rfl rfl;obtain⟨-,cur3,hg23⟩:=hO3.block;have z0:=(aC hg23).2;obtain⟨b4,o4,hx4,y0,y1,y2,y3,y4⟩:=hO3.ls.1.cells a (by omega);simp only[Option.some.injEq,Addr.mk.injEq]at hx4;obtain⟨rfl,rfl, -⟩:=hx4;simp only[Nat.zero_add]at y0 y1 y2 y3 y4;have han:(a:Int)<n:=by omega
     have ha0:(0:Int)<=a:=by omega
     have hS:=hO3.set a (aN es k) (by rw[hcl];omega);have hgS:w.grownBy _ (some g2):=eK hg3 (yY w3 g2 (a*5) (a*5+1) (a*5+2) (a*5+3) (a*5+4) (.int .i64 (aN es k).a) (.int .i64 (aN es k).l) (.int .i64 (aN es k).kd) (.int .i64 (aN es k).ow) (.int .i64 (aN es k).un));go_wp2;go_roundw
     case rel=>
      refine⟨_,_,_,_,_,_,_,_,_,_,_,_,_,_,_,_,_,_,_,_,_,_,_,?_,rfl⟩
      refine⟨a+1,k+1,by go_num,by go_num,by omega,by omega,⟨_,hS,by rw[List.length_set];exact hcl,?_,fun q hq hqn=>?_⟩,hgS⟩
      ·rw[Q6 (by rw[hcl];omega),pR (by rw[hll'.out];exact hlt),List.filter_append,hct'.out];simp[hd]
      ·rw[yX (by rw[hcl];omega),if_neg (by omega)];exact hcr'.out q (by omega) hqn
     case measure=>simp[intOf];omega
    ·go_wp2;go_roundw
     case rel=>
      refine⟨_,_,_,_,_,_,_,_,_,_,_,_,_,_,_,_,_,_,_,_,_,_,_,?_,rfl⟩
      refine⟨a,k+1,rfl,by go_num,by omega,by omega,⟨cs,hO3,hcl,?_,fun q hq hqn=>hcr'.out q (by omega) hqn⟩,hg3⟩
      rw[pR (by rw[hll'.out];exact hlt),List.filter_append,hct'.out]
      simp[hd]
     case measure=>simp[intOf];omega
   ·have hkn2:k=n:=by omega
    have hfl:Hid (cs.take a=es.filter (fun e=>!d e)):=by
     have h1:=hct'.out;rw[hkn2,List.take_of_length_le (l:=es) (by rw[hll'.out];exact zE)]at h1;exact h1
    have hla:(es.filter (fun e=>!d e)).length=a:=by rw[<-hfl.out,List.length_take,hcl];omega
    have hOa:=hOc.take a (by rw[hcl];omega);have hlt2:(cs.take a).length=a:=by rw[List.length_take,hcl];omega
    obtain⟨wb,h4,h5,h6⟩:=JL hOa (n- a) (c- a) (by omega) (by rw[hlt2];omega) 0;rw[hlt2]at h4;rw[hfl.out]at h5;clear hfl;have hcl2:∀ty,(Builtin.clear_ #[83] ty #[.slice (some ⟨g2,a*5,none⟩) (n- a) (c- a)]).run Tryz.prog wr= .ok (.tuple #[]) wb:=fun ty=>h4;have e1:a<=n:=by omega
    have e2:a<=c:=by omega
    have e3:¬c=a:=by omega
    have e4:(a:Int)<=n:=by omega
    have e5:(a:Int)<=c:=by omega
    have e6:(0:Int)<=a:=by omega
    have hne:¬(k:Int)<n:=by omega
    clear h4 hlt2 hOa hct' hcr' hkn2 hlt;go_wp2;go_ret;exact⟨rfl,h5,eK hgr h6⟩
def oF(T:Int)(e:Le):Bool:=(e.kd==3)&&decide (e.un<=T)
theorem NJ(T:Int)(p:Le)(b:Nat)(w:World)(h0:w.cell? ⟨b,0,none⟩=some (.int .i64 T)):
  Calls Tryz.prog 95 #[.agg #[.int .i64 p.a, .int .i64 p.l, .int .i64 p.kd, .int .i64 p.ow, .int .i64 p.un], .pointer (some ⟨b,0,none⟩)] w fun e w'=>e= .returned (.bool (oF T p))/\Below w.heap.size w w':=by
 have k0:∀q,(w.alloc q).cell? ⟨b,0,none⟩=some (.int .i64 T):=fun q=>cell_later (bl1 w q) h0;unfold oF
 cases hk:(p.kd==3)
 ·go_enter Tryz.func95,Tryz.ntmps95;go_wp2;go_ret;exact⟨rfl,bl1 w _⟩
 ·go_enter Tryz.func95,Tryz.ntmps95;go_wp2;all_goals go_ret
  all_goals first|exact⟨rfl,bl1 w _⟩|exact⟨by simp_all,bl1 w _⟩
theorem JO(args:Array Value)(W:World):(callFunc 95 args).run Tryz.prog W= .ok (.enter 95 args) W:=by simp[go_sem]
theorem VK(T:Int)(v:Value)(b base:Nat)(es:List Le)(w:World)(h0:w.heap[b]?=some (eZ T v)):
  zN 95 #[.pointer (some ⟨b,0,none⟩)] es (oF T) base w:=fun i _ W hW=>NJ T (aN es i) b W ((aC (hW.box _ _ _ h0 (by decide) (by decide))).1 0)
theorem dJ.sifted{c':Nat}(h:dJ W base (.slice (some ⟨g,0,none⟩) n cap) qs qs.length)(hi:i<qs.length)(hbs:base<=W.heap.size)(ho:cD W1 base (.slice (poAt qs i).x m c') ls)
 (hx:((poAt qs i).x=none/\Below W.heap.size W W1)\/∃g2,(poAt qs i).x=some ⟨g2,0,none⟩/\W.grownBy W1 (some g2)):
  dT base W W1/\dD W1 base (.slice (some ⟨g,0,none⟩) n cap) qs/\dJ (W1.setCell ⟨g,i*9+8,none⟩ (.slice (poAt qs i).x m c')) base (.slice (some ⟨g,0,none⟩) n cap) (qs.set i (aW (poAt qs i) (poAt qs i).x m c' ls)) (qs.set i (aW (poAt qs i) (poAt qs i).x m c' ls)).length:=by
 rcases hx with ⟨hx,hb⟩|⟨g2,hx,hg⟩
 ·rw[hx]at ho⊢;have ho2:cD W1 W.heap.size (.slice none m c') ls:=by
   refine⟨ho.1,?_⟩;rcases ho.2 with h1|⟨g2,cap2,cur2,hv, -⟩
   ·exact .inl h1
   ·simp at hv
  exact⟨dT.of_below hb hbs,h.row.later hb,h.swap hi hb ho2 hbs⟩
 ·rw[hx]at ho⊢;have hOi:=h.own i hi;rw[hx]at hOi;obtain⟨hb2,cur2,hg2⟩:=hOi.block;exact⟨dT.of_grown hg hb2 hbs hg2 (.inr rfl),(h.turned hi hx hg ho).1,h.turn hi hx hg ho⟩
theorem dD.cell8(h:dD w base (.slice (some ⟨g,0,none⟩) n cap) ps)(i:Nat)(hi:i<ps.length):w.cell? ⟨g,i*9+8,none⟩=some (.slice (poAt ps i).x (poAt ps i).n (poAt ps i).c)/\w.frozen? ⟨g,i*9+8,none⟩=false:=by
 obtain⟨xw,cw,he4, -, -, -,hm4⟩:=h.mem;obtain⟨b4,o4,he5, -, -, -, -, -, -, -, -,k8⟩:=hm4 i hi;simp only[Value.slice.injEq]at he4;rw[<-he4.1]at he5;simp only[Option.some.injEq,Addr.mk.injEq]at he5;obtain⟨rfl,rfl, -⟩:=he5;simp only[Nat.zero_add]at k8;obtain⟨-,cur,hg⟩:=h.block;exact⟨k8,(aC hg).2 _⟩
structure TC(w W:World)(t:Int)(v:Value):Prop where
 hb:W.heap[w.heap.size]?=some (eZ t v)
 hs:W.heap[w.heap.size+1]?=some (eZ 0 (.slice none 0 0))
 below:Below w.heap.size w W
theorem TC.later(h:TC w W t v)(hb:Below W.heap.size W W'):TC w W' t v:=
 ⟨aA hb h.hb,aA hb h.hs,h.below.trans (hb.mono h.below.size)⟩
theorem TC.kept(h:TC w W t v)(hk:dT base W W')(hb:w.heap.size<=base):TC w W' t v:=
 ⟨hk.box _ _ _ h.hb (by decide) (by decide),hk.box _ _ _ h.hs (by decide) (by decide),h.below.trans (hk.below.mono hb)⟩
theorem TC.put(h:TC w W t v)(hb:w.heap.size+1<b):TC w (W.setCell ⟨b,o,none⟩ u) t v:=
 ⟨(heap_setCell_other W ⟨b,o,none⟩ _ u (by show w.heap.size≠b;omega)).trans h.hb,(heap_setCell_other W ⟨b,o,none⟩ _ u (by show w.heap.size+1≠b;omega)).trans h.hs,h.below.setCell (p:=⟨b,o,none⟩) (by show w.heap.size<=b;omega) u⟩
def qJ(t:Int)(ps:List Po)(m:Int):Int:=if aS t ps≠0 then aS t ps else if m<1\/1073741824- t<m then 3 else 0
def jT(T:Int)(ls:List Le):List Le:=ls.filter (fun e=>!oF T e)
def lD(T:Int)(qs:List Po)(k:Nat)(rs:List Po):Prop:=
 rs.length=qs.length/\∀j,j<qs.length->(j<k->∃x c,poAt rs j=aW (poAt qs j) x (jT T (poAt qs j).ls).length c (jT T (poAt qs j).ls))/\(k<=j->poAt rs j=poAt qs j)
def CR(t:Int)(ps:List Po)(m:Int)(t':Int)(rs:List Po):Prop:=t'=t+m/\∃qs,cB ps qs/\lD (t+m) qs qs.length rs
def Q8(t:Int)(ps:List Po)(m:Int)(w:World):Ending->World->Prop:=fP (qJ t ps m) (CR t ps m) w
theorem lD.step(h:lD T qs k rs)(hk:k<rs.length):lD T qs (k+1) (rs.set k (aW (poAt rs k) x (jT T (poAt rs k).ls).length c (jT T (poAt rs k).ls))):=by
 refine⟨by rw[List.length_set];exact h.1,fun j hj=>?_⟩;have hkq:k<qs.length:=by rw[<-h.1];exact hk
 obtain⟨h1,h2⟩:=h.2 j hj;rw[dF hk];refine⟨fun hjk=>?_,fun hjk=>?_⟩
 ·by_cases e:k=j
  ·rw[if_pos e,e,h2 (by omega)];exact⟨_,_,rfl⟩
  ·rw[if_neg e];exact h1 (by omega)
 ·rw[if_neg (by omega)];exact h2 (by omega)
structure EP(w wr:World)(t T:Int)(v:Value)(base nb:Nat)(xq:Option Addr)(capq:Nat)(qs:List Po)(k:Nat):Prop where
 kn:k<=qs.length
 tc:TC w wr t v
 nx:wr.heap[nb]?=some (eZ T (.slice xq qs.length capq))
 size:base<=wr.heap.size
 rs:∃rs,dJ wr base (.slice xq qs.length capq) rs rs.length/\lD T qs k rs
theorem Q9(t:Int)(x:Option Addr)(n c:Nat)(ps:List Po)(m:Int)(w:World)(hk:Bk w x n c ps):
  Calls Tryz.prog 49 #[.agg #[.int .i64 t, .slice x n c], .int .i64 m] w (Q8 t ps m w):=by
 have hpl:Hid (ps.length=n):=hk.ps.len;go_enter Tryz.func49,Tryz.ntmps49;go_upto_region 1 with fail
 obtain⟨w0,hw0⟩:∃w0,w0=(w.alloc (eZ t (.slice x n c))).alloc (eZ 0 (.slice none 0 0)):=⟨_,rfl⟩;rw[<-hw0];have hT0:TC w w0 t (.slice x n c):=by
  rw[hw0];exact⟨aG _ (aB _ rfl),aB _ (by simp),bO w _ _⟩
 clear hw0;obtain⟨b0,b1⟩:=aR hT0.hb rfl rfl;obtain⟨s0,s1⟩:=aR hT0.hs rfl rfl;obtain⟨zs0,zs1⟩:=bW hT0.hs;have hck:=fA t x n c ps w0 (hk.later hT0.below);by_cases hc0:aS t ps=0
 ·rw[hc0]at hck;obtain⟨hn8,⟨ht0,ht1⟩, -⟩:=gN hc0;rw[hpl.out]at hn8;have hE1:Hid (qJ t ps m=if m<1\/1073741824- t<m then 3 else 0):=if_neg (c:=aS t ps≠0) (by simp[hc0]);by_cases hr1:m<1
  ·have hne:Hid (qJ t ps m=3/\(3:Int)≠0):=⟨hE1.out.trans (if_pos (.inl hr1)),by decide⟩;go_wp2_with fail;refine hck.mono ?_;rintro e w1 ⟨rfl,hb1⟩;have hT1:=hT0.later hb1;clear b0 b1 s0 s1 zs0 zs1 hb1 hck hE1;obtain⟨b0,b1⟩:=aR hT1.hb rfl rfl;obtain⟨s0,s1⟩:=aR hT1.hs rfl rfl;obtain⟨zs0,zs1⟩:=bW hT1.hs;go_wp2;refine bodyPost_ret (v:= .tuple #[.agg #[.int .i64 0, .slice none 0 0], .int .i64 3]) (by simp[results,Tryz.results49,go_sem,s0,s1]) rfl ?_;exact fP.err hne.out ((hT1.below.setCell (p:=⟨w.heap.size+1,0,none⟩) (zA) _).setCell (p:=⟨w.heap.size+1,1,none⟩) (zA) _)
  by_cases hr2:1073741824- t<m
  ·have hne:Hid (qJ t ps m=3/\(3:Int)≠0):=⟨hE1.out.trans (if_pos (.inr hr2)),by decide⟩;go_wp2_with fail;refine hck.mono ?_;rintro e w1 ⟨rfl,hb1⟩;have hT1:=hT0.later hb1;clear b0 b1 s0 s1 zs0 zs1 hb1 hck hE1;obtain⟨b0,b1⟩:=aR hT1.hb rfl rfl;obtain⟨s0,s1⟩:=aR hT1.hs rfl rfl;obtain⟨zs0,zs1⟩:=bW hT1.hs;go_wp2;refine bodyPost_ret (v:= .tuple #[.agg #[.int .i64 0, .slice none 0 0], .int .i64 3]) (by simp[results,Tryz.results49,go_sem,s0,s1]) rfl ?_;exact fP.err hne.out ((hT1.below.setCell (p:=⟨w.heap.size+1,0,none⟩) (zA) _).setCell (p:=⟨w.heap.size+1,1,none⟩) (zA) _)
  have hE0:Hid (qJ t ps m=0):=hE1.out.trans (if_neg (by omega));have hm0:1<=m:=by omega
  have hm1:¬1073741824- t<m:=hr2;have hm2:t+m<=1073741824:=by omega
  have hm3:0<=t+m:=by omega
  go_wp2_with fail;refine hck.mono ?_;rintro e w1 ⟨rfl,hb1⟩;have hT1:=hT0.later hb1;clear b0 b1 s0 s1 zs0 zs1 hb1 hck hE1;obtain⟨b0,b1⟩:=aR hT1.hb rfl rfl;obtain⟨s0,s1⟩:=aR hT1.hs rfl rfl;obtain⟨zs0,zs1⟩:=bW hT1.hs;go_wp2_with fail;refine(dZ t x n c ps w1 (hk.later hT1.below) (by omega)).mono ?_;rintro e w5 ⟨v5,qs,rfl,hs,hOB,hb5⟩;have hql:Hid (qs.length=n):=hs.1.symm.trans hpl.out;obtain⟨xq,capq,rfl,hq1,hq2, -, -⟩:=hOB.row.mem;clear b0 b1 s0 s1 zs0 zs1;go_upto_region 7 with fail
  obtain⟨w6,hw6⟩:∃w6,w6=w5.alloc (eZ t (.slice xq qs.length capq)):=⟨_,rfl⟩;rw[<-hw6];have hT6:TC w w6 t (.slice x n c):=by rw[hw6];exact(hT1.later hb5).later (bl1 _ _)
  have hn6:w6.heap[w5.heap.size]?=some (eZ t (.slice xq qs.length capq)):=by rw[hw6];exact aB _ rfl
  have hOB6:dJ w6 w1.heap.size (.slice xq qs.length capq) qs qs.length:=by
   rw[hw6];exact hOB.later (bl1 _ _)
  have hs6:w1.heap.size<=w6.heap.size:=by rw[hw6];have:=hb5.size;simp;omega
  have hsz1:w.heap.size+1<w1.heap.size:=(zG hT1.hs);have hnb:w.heap.size+1<w5.heap.size:=by have:=hb5.size;omega
  clear hw6 hOB hb5;have m0:=aP hn6 0 rfl;have zm0:=(aC hn6).2 0;go_upto_region 8 with fail
  obtain⟨w7,hw7⟩:∃w7,w7=w6.setCell ⟨w5.heap.size,0,none⟩ (.int .i64 (t+m)):=⟨_,rfl⟩;rw[<-hw7];have hI0:EP w w7 t (t+m) (.slice x n c) w1.heap.size w5.heap.size xq capq qs 0:=by
   rw[hw7];refine⟨by omega,hT6.put hnb,?_,by simpa using hs6,qs,hOB6.putBox hn6 (by decide) (by decide),rfl,fun j hj=>⟨fun h=>by omega,fun _=>rfl⟩⟩;have:=heap_setCell_same w6 w5.heap.size 0 _ _ (.int .i64 (t+m)) hn6;simpa[eZ]using this
  clear hw7 m0 zm0 hT6 hn6 hOB6 hs6;have m1:=aP hI0.nx 1 rfl;have hq8:qs.length<=8:=by rw[hql.out];exact hn8
  go_wp2;go_loopw [36] (fun i wr=>∃k:Nat,i= .int .i64 k/\EP w wr t (t+m) (.slice x n c) w1.heap.size w5.heap.size xq capq qs k) (fun i _=>qs.length- (intOf i).toNat)
  case atStart=>exact⟨0,rfl,hI0⟩
  case round=>
   obtain⟨k,rfl,hI⟩:=hrel
   clear m1 hI0
   have hkn:=hI.kn
   have hT7:=hI.tc
   have hs7:=hI.size
   obtain⟨rs,hOBr,hpt⟩:=hI.rs
   obtain⟨m0,m1⟩:=aR hI.nx rfl rfl
   by_cases hlt:k<qs.length
   ·have hkr:k<rs.length:=by rw[hpt.1];exact hlt
    obtain⟨g,rfl⟩:∃g,xq=some ⟨g,0,none⟩:=by
     rcases hOBr.row.2 with ⟨hv,h0⟩|⟨g,cap,cur,hv, -⟩
     ·simp only[Value.slice.injEq]at hv;omega
     ·simp only[Value.slice.injEq]at hv;exact⟨g,hv.1⟩
    have hrq:=(hpt.2 k hlt).2 (zE);have hcp:=iC hc0 k (by rw[hs.1];exact hlt);have hsp:=hs.2 k (by rw[hs.1];exact hlt);have hrn:(poAt rs k).n<=64:=by rw[hrq,<-hsp.2.2.2.2.2.2.2.2.1];omega
    have hdf:=xF 95 #[.pointer (some ⟨w5.heap.size,0,none⟩)] w1.heap.size (poAt rs k).x (poAt rs k).n (poAt rs k).c (poAt rs k).ls (oF (t+m)) wr (hOBr.own k hkr) hrn hs7 (VK (t+m) _ w5.heap.size _ _ wr hI.nx) JO;obtain⟨c8, -⟩:=hOBr.row.cell8 k hkr;have hkn2:(k:Int)<qs.length:=by omega
    have hk0:(0:Int)<=k:=by omega
    have hk8:(k:Int)<8:=by omega
    have hnx:=hI.nx;have hHs:Hid (lD (t+m) qs k rs):=hpt;clear hrq hsp hcp hI hpt;go_wp2_with fail;refine hdf.mono ?_;rintro e w8 ⟨rfl,hO8,hx8⟩;have hstep:lD (t+m) qs (k+1) _:=lD.step (x:=(poAt rs k).x) (c:=(poAt rs k).c) hHs.out hkr;have hsift:dT w1.heap.size wr w8/\dD w8 w1.heap.size (.slice (some ⟨g,0,none⟩) qs.length capq) rs/\dJ (w8.setCell ⟨g,k*9+8,none⟩ (.slice (poAt rs k).x (jT (t+m) (poAt rs k).ls).length (poAt rs k).c)) w1.heap.size (.slice (some ⟨g,0,none⟩) qs.length capq) (rs.set k (aW (poAt rs k) (poAt rs k).x (jT (t+m) (poAt rs k).ls).length (poAt rs k).c (jT (t+m) (poAt rs k).ls))) (rs.set k (aW (poAt rs k) (poAt rs k).x (jT (t+m) (poAt rs k).ls).length (poAt rs k).c (jT (t+m) (poAt rs k).ls))).length:=hOBr.sifted hkr hs7 hO8 hx8;obtain⟨hK8,hr8,hOB8⟩:=hsift;obtain⟨d8,f8⟩:=hr8.cell8 k hkr;obtain⟨hbg,cur8,hg8⟩:=hr8.block;have hK9:dT w1.heap.size wr (w8.setCell ⟨g,k*9+8,none⟩ (.slice (poAt rs k).x (jT (t+m) (poAt rs k).ls).length (poAt rs k).c)):=hK8.trans (dT.of_grown (aI _ _ _ _) hbg (Nat.le_trans hs7 hK8.size) hg8 (.inl rfl));have hI9:EP w (w8.setCell ⟨g,k*9+8,none⟩ (.slice (poAt rs k).x (jT (t+m) (poAt rs k).ls).length (poAt rs k).c)) t (t+m) (.slice x n c) w1.heap.size w5.heap.size (some ⟨g,0,none⟩) capq qs (k+1):=
     ⟨hlt,hT7.kept hK9 hT1.below.size,hK9.box _ _ _ hnx (by decide) (by decide),Nat.le_trans hs7 hK9.size,_,hOB8,hstep⟩
    clear c8 m0 m1 hdf hO8 hx8 hOB8 hstep hK8 hr8;go_wp2;go_roundw
    case rel=>exact⟨k+1,by go_num,hI9⟩
    case measure=>simp[intOf];omega
   ·have hne:¬(k:Int)<qs.length:=by omega
    have hkq:Hid (k=qs.length):=by unfold Hid;omega
    obtain⟨s0,s1⟩:=aR hT7.hs rfl rfl;obtain⟨zs0,zs1⟩:=bW hT7.hs;have hp2:Hid (lD (t+m) qs qs.length rs):=by
     have:=hpt;rw[hkq.out]at this;exact this
    clear hpt hI;go_wp2;refine bodyPost_ret (v:= .tuple #[.agg #[.int .i64 (t+m), .slice xq qs.length capq], .int .i64 0]) (by simp[results,Tryz.results49,go_sem,s0,s1]) rfl ?_;have hfin:=(hT7.below.setCell (p:=⟨w.heap.size+1,0,none⟩) (zA) (.int .i64 (t+m))).setCell (p:=⟨w.heap.size+1,1,none⟩) (zA) (.slice xq qs.length capq);have hob:=((hOBr.put (o:=0) (u:= .int .i64 (t+m)) hsz1).put (o:=1) (u:= .slice xq qs.length capq) hsz1).low hT1.below.size;exact⟨_,_,t+m,by rw[hE0.out],hfin,hob,fun h=>absurd hE0.out h,fun _=>⟨rfl,qs,hs,hp2.out⟩⟩
 ·have hne:Hid (qJ t ps m=aS t ps/\aS t ps≠0):=⟨if_pos hc0,hc0⟩;go_wp2_with fail;refine hck.mono ?_;rintro e w1 ⟨rfl,hb1⟩;have hT1:=hT0.later hb1;clear b0 b1 s0 s1 zs0 zs1 hck hb1;obtain⟨b0,b1⟩:=aR hT1.hb rfl rfl;obtain⟨s0,s1⟩:=aR hT1.hs rfl rfl;obtain⟨zs0,zs1⟩:=bW hT1.hs;go_wp2;refine bodyPost_ret (v:= .tuple #[.agg #[.int .i64 0, .slice none 0 0], .int .i64 (aS t ps)]) (by simp[results,Tryz.results49,go_sem,s0,s1]) rfl ?_;exact fP.err hne.out ((hT1.below.setCell (p:=⟨w.heap.size+1,0,none⟩) (zA) _).setCell (p:=⟨w.heap.size+1,1,none⟩) (zA) _)
open Go.RowKit
def GY(P:Program)(md:Region.Mode)(ops:Array Oper)(C:World->Prop)(n:Nat)(L:Array Bool->Act->Prop):Nat->Array Bool->Act->Prop
 |0,listed,a=>L listed a
 |f+1,listed,a=>Region.ready md ops listed≠[]/\∀i∈Region.ready md ops listed,i<n/\qOp P ops C i (GY P md ops C n L f (listed.setIfInBounds i true)) a
theorem GZ{md:Region.Mode}{L:Array Bool->Act->Prop}(hL:∀listed a w,C w->L listed a->wpAny P md ops Q g listed a w)(f:Nat):
  ∀(listed:Array Bool) (a:Act) (w:World),C w->GY P md ops C n L f listed a->wpAny P md ops Q (f+g) listed a w:=by
 induction f with
 |zero=>intro listed a w hw h;rw[Nat.zero_add];exact hL _ _ _ hw h
 |succ f ih=>
  intro listed a w hw h
  rw[Nat.succ_add]
  refine⟨fun h0=>absurd h0 h.1,fun i hi=>?_⟩
  exact wpOp_of_qOp hw (fun a' w' hw' h'=>ih _ a' w' hw' h') (h.2 i hi).2
theorem G0{md:Region.Mode}{L:Array Bool->Act->Prop}(hi:ops[i]?=some oi)(hsel:∀(j:Nat) (o:Oper) cs b,ops[j]?=some o->o.op≠ .select cs b)
 (hs:Region.sinkB md ops n=true)(hc:Region.chainB md ops n=true)(hn:n<ops.size)(hin:i<n)(hL:∀listed a,L listed a->∀j∈Region.ready md ops listed,n<=j)(f:Nat):
  ∀(listed:Array Bool) (a:Act),HeadInv md ops n listed->(∀j oj,ops[j]?=some oj->j≠i->listed.getD j true=false->(∀e∈oj.after,Region.binds md e=true->e.on≠i)->oi.apart ops oj=true)->
   i∈Region.ready md ops listed->YieldsIn P ops C oi v a->GY P md ops C n L f (listed.setIfInBounds i true) (a.put oi.dst v)->GY P md ops C n L (f+1) listed a:=by
 induction f with
 |zero=>
  intro listed a inv hfree hr hy H
  refine⟨List.ne_nil_of_mem hr,fun j hj=>?_⟩
  have hjn:j<n:=Nat.lt_of_not_le fun h=>tail_waits hs hc hn inv _ i rfl hin (mem_ready.1 hr).1 j h hj
  refine⟨hjn,?_⟩
  by_cases e:j=i
  ·subst e;exact hy.qOp hi H
  ·exact absurd (hL _ _ H j (ready_mono hj e)) (by omega)
 |succ f ih=>
  intro listed a inv hfree hr hy H
  refine⟨List.ne_nil_of_mem hr,fun j hj=>?_⟩
  have hjn:j<n:=Nat.lt_of_not_le fun h=>tail_waits hs hc hn inv _ i rfl hin (mem_ready.1 hr).1 j h hj
  refine⟨hjn,?_⟩
  by_cases e:j=i
  ·subst e;exact hy.qOp hi H
  obtain⟨hun,oj,hoj,hall⟩:=mem_ready.1 hj
  have hno:∀x∈oj.after,Region.binds md x=true->x.on≠i:=fun x hx hb he=>by
   have h1:=hall x hx hb;rw[he,getD_both (mem_ready.1 hr).1]at h1
   cases h1
  have h2:=qOp_put hoj (hfree j oj hoj e hun hno) (fun cs b=>hsel i oi cs b hi) (fun cs b=>hsel j oj cs b hoj) hy (H.2 j (ready_mono hj e)).2
  refine qOp_mono (fun a' h3=>ih _ a' (inv.set hj hjn) (fun k ok hk hki hku=>?_) (ready_mono hr (Ne.symm e)) h3.1 ?_) h2
  ·refine hfree k ok hk hki ?_;by_cases hjk:j=k
   ·subst hjk;exact hun
   ·rw[getD_set_ne true hjk]at hku;exact hku
  ·rw[Array.setIfInBounds_comm _ _ e];exact h3.2
theorem NK{md:Region.Mode}{K:Act->Prop}(hsel:Region.noSelect ops=true)(hs:Region.sinkB md ops n=true)(hc:Region.chainB md ops n=true)(hn:n<ops.size)(l:List Oper):
  ∀(k:Nat) (listed:Array Bool) (a:Act),(∀j,j<l.length->l[j]?=ops[k+j]?)->k+l.length=n->HeadInv md ops n listed->Region.lexHead md ops g l.length k listed=true->wpQuiet P ops C K l a->
   GY P md ops C n (fun listed' a'=>Region.seqB md ops g n listed'=true/\K a') l.length listed a:=by
 induction l with
 |nil=>
  intro k listed a _ hk _ hB h
  obtain rfl:k=n:=by simpa using hk
  exact⟨by simpa[Region.lexHead]using hB,h⟩
 |cons o l ih=>
  intro k listed a hl hk inv hB h
  have h0:ops[k]?=some o:=by simpa using(hl 0 (by simp)).symm
  simp only[List.length_cons,Region.lexHead,zH]at hB
  have hkn:k<n:=by simp only[List.length_cons]at hk;omega
  have hr:k∈Region.ready md ops listed:=by simpa using hB.1.1
  have hq:qOp P ops C k (wpQuiet P ops C K l) a:=by unfold qOp;simp only[h0];exact h
  obtain⟨v,hy,hK⟩:=yieldsIn_of_qOp h0 hq
  refine G0 h0 (Region.noSelect_spec hsel) hs hc hn hkn (fun _ _ hL=>seqB_ready hL.1) l.length listed a inv (Region.free_spec h0 hB.1.2) hr hy ?_
  exact ih (k+1) _ _ (fun j hj=>by have:=hl (j+1) (by simp;omega);simpa[Nat.add_assoc,Nat.add_comm 1 j]using this) (by simp only[List.length_cons]at hk;omega) (inv.set hr hkn) hB.2 hK
theorem jU{id:Nat}{a:Act}{l:List Oper}(m n:Nat)(hm:P.follows .mixedOrders=true)(hB:Region.lexTailB .any l.toArray n=true)
 (h:wpQuiet P l.toArray (fun w'=>∃u:Ws m w,w'=u.val) (fun a'=>∀u:Ws m w,wpList P l.toArray Q (l.drop n) a' u.val) (l.take n) a):(Code.region id l.toArray true).wp P Q a w:=by
 simp only[Region.lexTailB,zH,decide_eq_true_eq]at hB;obtain⟨⟨⟨⟨hsel,hn⟩,hs⟩,hc⟩,hlex⟩:=hB;have htl:(l.take n).length=n:=by simp at hn⊢;omega
 have hdl:(l.drop n).length=l.toArray.size- n:=by simp
 have inv0:HeadInv .any l.toArray n (Array.replicate l.toArray.size false):=
  ⟨by simp,fun j oj _ hl=>(by rw[getD_replicate_false]at hl;cases hl),fun t _ ht=>getD_in (by simpa using ht) (getD_replicate_false _ _)⟩
 have H:=NK (md:= .any) (g:=l.toArray.size- n) hsel hs hc hn (l.take n) 0 _ a (fun j hj=>by rw[htl]at hj;simp[hj]) (by simpa using htl) inv0 (by rw[htl];exact hlex) h;refine wp_region_any hm ?_;have h2:=GZ (Q:=Q) (g:=l.toArray.size- n) (C:=fun w'=>∃u:Ws m w,w'=u.val) (fun listed a' w' hw' hL=>by
  obtain⟨u,rfl⟩:=hw';have h3:=wpAny_of_seq (md:= .any) (Q':=Q) (l.drop n) n listed a' u.val (fun j=>by simp[List.getElem?_drop]) (by rw[hdl];exact hL.1) (hL.2 u);rwa[hdl]at h3) _ _ _ _ ⟨⟨_,(Below.refl m w).drew⟩,rfl⟩ H
 rw[htl,show n+(l.toArray.size- n)=l.toArray.size by omega]at h2;exact h2
theorem oG(hi:i<qs.length)(j:Nat):poAt (qs.take i++qs.drop (i+1)) j=if j<i then poAt qs j else poAt qs (j+1):=by
 unfold poAt;rw[zF,zF,zF];have hl:(qs.take i).length=i:=by rw[List.length_take];omega
 by_cases h1:j<i
 ·rw[if_pos h1,List.getElem?_append_left (by omega),List.getElem?_take_of_lt h1]
 ·rw[if_neg h1,List.getElem?_append_right (by omega),hl,List.getElem?_drop,show i+1+(j- i)=j+1 by omega]
theorem dJ.del(h:dJ W base (.slice (some ⟨g,0,none⟩) n cap) qs qs.length)(hi:i<qs.length)(hg:W.grownBy W' (some g))(hr:dD W' base (.slice (some ⟨g,0,none⟩) m cap) (qs.take i++qs.drop (i+1))):
  dJ W' base (.slice (some ⟨g,0,none⟩) m cap) (qs.take i++qs.drop (i+1)) (qs.take i++qs.drop (i+1)).length:=by
 have hl:(qs.take i++qs.drop (i+1)).length+1=qs.length:=by simp;omega
 obtain⟨-,cur,hgc⟩:=h.row.block;have hk:∀j,j<qs.length->cD W' base (.slice (poAt qs j).x (poAt qs j).n (poAt qs j).c) (poAt qs j).ls:=fun j hj=>(h.own j hj).kept hg (fun k hk e=>by subst e;exact(h.own j hj).ne hgc (by decide) hk);refine⟨hr,fun j hj=>?_,fun j hj hj2=>by omega,fun j k hj hk hjk b hbj hbk=>?_⟩
 ·rw[oG hi];by_cases c1:j<i
  ·rw[if_pos c1];exact hk j (by omega)
  ·rw[if_neg c1];exact hk (j+1) (by omega)
 ·rw[oG hi]at hbj hbk;by_cases c1:j<i
  ·rw[if_pos c1]at hbj;by_cases d1:k<i
   ·rw[if_pos d1]at hbk;exact h.apart j k (by omega) (by omega) hjk b hbj hbk
   ·rw[if_neg d1]at hbk;exact h.apart j (k+1) (by omega) (by omega) (by omega) b hbj hbk
  ·rw[if_neg c1]at hbj;by_cases d1:k<i
   ·rw[if_pos d1]at hbk;exact h.apart (j+1) k (by omega) (by omega) (by omega) b hbj hbk
   ·rw[if_neg d1]at hbk;exact h.apart (j+1) (k+1) (by omega) (by omega) (by omega) b hbj hbk
theorem rE{id:Int}(h:aO ps id=i):i<ps.length/\(poAt ps i).id=id/\∀j,j<i->(poAt ps j).id≠id:=by
 unfold aO at h
 cases hf:ps.findIdx? (fun p=>p.id==id)with
 |none=>rw[hf]at h;simp only at h;omega
 |some k=>
  rw[hf]at h
  simp only at h
  obtain rfl:k=i:=by omega
  rw[List.findIdx?_eq_some_iff_getElem]at hf
  obtain⟨hi,h1,h2⟩:=hf
  refine⟨hi,by rw[bC hi];simpa using h1,fun j hj=>?_⟩
  have:=h2 j hj
  rw[bC (by omega)]
  simpa using this
theorem jF{id:Int}(h:aO ps id<0):∀j,j<ps.length->(poAt ps j).id≠id:=by
 intro j hj e;unfold aO at h
 cases hf:ps.findIdx? (fun p=>p.id==id)with
 |none=>
  rw[List.findIdx?_eq_none_iff]at hf
  have:=hf _ (List.getElem_mem hj)
  rw[bC hj]at e
  simp[e]at this
 |some k=>rw[hf]at h;simp only at h;omega
theorem uP(h:cB ps qs)(id:Int):aO qs id=aO ps id:=by
 by_cases h1:aO ps id<0
 ·have h2:=jF h1;rw[sC (ps:=ps) h2,sC];intro j hj;rw[<-h.1]at hj;rw[<-(h.2 j hj).1];exact h2 j hj
 ·obtain⟨i,hi,hat, -⟩:=aX h1;obtain⟨-,h3,h4⟩:=rE hat;rw[hat];refine nS (by rw[<-h.1];exact hi) (by rw[<-(h.2 i hi).1];exact h3) (fun j hj=>?_);rw[<-(h.2 j (by omega)).1];exact h4 j hj
theorem YI(h:lQ ps.length ps=true)(i:Nat)(hi:i<ps.length):1<=(poAt ps i).id/\(poAt ps i).id<=65536:=by
 unfold lQ at h;simp only[zH,Bool.not_eq_true']at h;have h2:=h.2;by_cases hw:dE (poAt ps i).id 1 65536=true
 ·unfold dE at hw;simpa using hw
 ·have:=bR (n:=ps.length) (f:=fun i=>!dE (poAt ps i).id 1 65536) hi (by simpa using hw);rw[this]at h2
  cases h2
theorem YJ(h:aS t ps=0)(hi:i<ps.length)(hk:aO ps (poAt ps i).up=k):∃j:Nat,j<(poAt ps k).n/\bP (poAt ps k).n (gL (poAt ps k).ls (poAt ps i).id)=j:=by
 obtain⟨-, -,hids, -,hp⟩:=gN h;obtain⟨-, -,hup, -⟩:=eH (hp i hi);obtain⟨hkl,hkid, -⟩:=rE hk;have hu:(poAt ps i).up≠0:=by have:=YI hids k hkl;omega
 obtain⟨f,hf⟩:∃f,ps.length=f+1:=⟨ps.length- 1,by omega⟩;rw[hf]at hup;unfold lL at hup;rw[if_neg hu,hk,if_neg (by omega)]at hup;simp only[Int.toNat_natCast]at hup;split at hup
 ·rename_i ha;obtain⟨j,hj,h1,h2⟩:=yP ha;exact⟨j,hj,kS hj h1 h2⟩
 ·cases hup
theorem dD.cells9(h:dD w base (.slice (some ⟨g,0,none⟩) n cap) ps)(i:Nat)(hi:i<ps.length):w.cell? ⟨g,i*9,none⟩=some (.int .i64 (poAt ps i).id)/\w.cell? ⟨g,i*9+1,none⟩=some (.int .i64 (poAt ps i).up)/\w.cell? ⟨g,i*9+2,none⟩=some (.int .i64 (poAt ps i).a)/\w.cell? ⟨g,i*9+3,none⟩=some (.int .i64 (poAt ps i).l)/\w.cell? ⟨g,i*9+4,none⟩=some (.int .i64 (poAt ps i).mn)/\w.cell? ⟨g,i*9+5,none⟩=some (.int .i64 (poAt ps i).mx)/\w.cell? ⟨g,i*9+6,none⟩=some (.int .i64 (poAt ps i).us)/\w.cell? ⟨g,i*9+7,none⟩=some (.int .i64 (poAt ps i).co)/\w.cell? ⟨g,i*9+8,none⟩=some (.slice (poAt ps i).x (poAt ps i).n (poAt ps i).c):=by
 obtain⟨xw,cw,he4, -, -, -,hm4⟩:=h.mem;obtain⟨b4,o4,he5,k0,k1,k2,k3,k4,k5,k6,k7,k8⟩:=hm4 i hi;simp only[Value.slice.injEq]at he4;rw[<-he4.1]at he5;simp only[Option.some.injEq,Addr.mk.injEq]at he5;obtain⟨rfl,rfl, -⟩:=he5;simp only[Nat.zero_add]at k0 k1 k2 k3 k4 k5 k6 k7 k8;exact⟨k0,k1,k2,k3,k4,k5,k6,k7,k8⟩
def wH(ls:List Le)(i:Nat):Bool:=!((aN ls i).kd==3)
theorem JP(p:Le)(w:World):
  Calls Tryz.prog 90 #[.agg #[.int .i64 p.a, .int .i64 p.l, .int .i64 p.kd, .int .i64 p.ow, .int .i64 p.un]] w fun e w'=>e= .returned (.bool (!(p.kd==3)))/\Below w.heap.size w w':=by
 go_enter Tryz.func90,Tryz.ntmps90;go_wp2;go_ret;exact⟨rfl,bl1 w _⟩
theorem G1(args:Array Value)(W:World):(callFunc 90 args).run Tryz.prog W= .ok (.enter 90 args) W:=by simp[go_sem]
theorem RA(n:Nat)(ls:List Le)(w:World):uI 90 #[] n ls (wH ls) w:=fun i _ W _=>JP (aN ls i) W
def gO(t:Int)(ps:List Po)(id:Int):Int:=
 if aS t ps≠0 then aS t ps else if aO ps id<0 then 5 else if anyAt (poAt ps (aO ps id).toNat).n (wH (poAt ps (aO ps id).toNat).ls)=true then 9 else 0
def LP(t:Int)(ps:List Po)(i:Nat)(rs:List Po):Prop:=
 ∃qs,(aO ps (poAt ps i).up<0->cB ps qs)/\(∀k:Nat,aO ps (poAt ps i).up=k->rD ps k (bP (poAt ps k).n (gL (poAt ps k).ls (poAt ps i).id)).toNat t qs)/\rs=qs.take i++qs.drop (i+1)
def lE(t:Int)(ps:List Po)(id:Int)(t':Int)(rs:List Po):Prop:=t'=t/\LP t ps (aO ps id).toNat rs
def NL(t:Int)(ps:List Po)(id:Int)(w:World):Ending->World->Prop:=fP (gO t ps id) (lE t ps id) w
theorem NM(t:Int)(x:Option Addr)(n c:Nat)(ps:List Po)(id:Int)(w:World)(hk:Bk w x n c ps):
  Calls Tryz.prog 48 #[.agg #[.int .i64 t, .slice x n c], .int .i64 id] w (NL t ps id w):=by
 have hpl:Hid (ps.length=n):=hk.ps.len;go_enter Tryz.func48,Tryz.ntmps48;go_upto_region 1 with fail
 obtain⟨w0,hw0⟩:∃w0,w0=(w.alloc (eZ t (.slice x n c))).alloc (eZ 0 (.slice none 0 0)):=⟨_,rfl⟩;rw[<-hw0];have hT0:TC w w0 t (.slice x n c):=by
  rw[hw0];exact⟨aG _ (aB _ rfl),aB _ (by simp),bO w _ _⟩
 clear hw0;obtain⟨b0,b1⟩:=aR hT0.hb rfl rfl;obtain⟨s0,s1⟩:=aR hT0.hs rfl rfl;obtain⟨zs0,zs1⟩:=bW hT0.hs;have hck:=fA t x n c ps w0 (hk.later hT0.below);by_cases hc0:aS t ps=0
 ·rw[hc0]at hck;obtain⟨hn8,⟨ht0,ht1⟩, -⟩:=gN hc0;rw[hpl.out]at hn8;have hE1:Hid (gO t ps id=if aO ps id<0 then 5 else if anyAt (poAt ps (aO ps id).toNat).n (wH (poAt ps (aO ps id).toNat).ls)=true then 9 else 0):=if_neg (c:=aS t ps≠0) (by simp[hc0]);go_wp2_with fail;refine hck.mono ?_;rintro e w1 ⟨rfl,hb1⟩;have hT1:=hT0.later hb1;clear b0 b1 s0 s1 zs0 zs1 hb1 hck;obtain⟨b0,b1⟩:=aR hT1.hb rfl rfl;obtain⟨s0,s1⟩:=aR hT1.hs rfl rfl;obtain⟨zs0,zs1⟩:=bW hT1.hs;have hpc:=pplace_any t id x n c ps w1 (hk.later hT1.below).ps (by omega);by_cases hat:aO ps id<0
  ·have hne:Hid (gO t ps id=5/\(5:Int)≠0):=⟨hE1.out.trans (if_pos hat),by decide⟩;go_wp2_with fail;refine hpc.mono ?_;rintro e w2 ⟨rfl,hb2⟩;have hT2:=hT1.later hb2;clear b0 b1 s0 s1 zs0 zs1 hb2 hE1;obtain⟨b0,b1⟩:=aR hT2.hb rfl rfl;obtain⟨s0,s1⟩:=aR hT2.hs rfl rfl;obtain⟨zs0,zs1⟩:=bW hT2.hs;go_wp2;refine bodyPost_ret (v:= .tuple #[.agg #[.int .i64 0, .slice none 0 0], .int .i64 5]) (by simp[results,Tryz.results48,go_sem,s0,s1]) rfl ?_;exact fP.err hne.out ((hT2.below.setCell (p:=⟨w.heap.size+1,0,none⟩) (zA) _).setCell (p:=⟨w.heap.size+1,1,none⟩) (zA) _)
  ·obtain⟨i,hi,hati,hiid⟩:=aX hat;have hin0:Hid (i<ps.length):=hi;rw[hpl.out]at hi;have hto:(aO ps id).toNat=i:=by rw[hati];rfl
   have hR:Hid (∀rs,LP t ps i rs->lE t ps id t rs):=fun rs h=>⟨rfl,by rw[hto];exact h⟩;have hE2:Hid (gO t ps id=if anyAt (poAt ps i).n (wH (poAt ps i).ls)=true then 9 else 0):=by
    have h:=hE1.out;rw[if_neg hat,hto]at h;exact h
   have hid:Hid ((poAt ps i).id=id):=hiid;rw[hati]at hpc;clear hat hati hto hE1 hiid;go_wp2_with fail;refine hpc.mono ?_;rintro e w2 ⟨rfl,hb2⟩;have hT2:=hT1.later hb2;have hi0:(0:Int)<=i:=by omega
   clear b0 b1 s0 s1 zs0 zs1 hb2 hpc;obtain⟨b0,b1⟩:=aR hT2.hb rfl rfl;obtain⟨s0,s1⟩:=aR hT2.hs rfl rfl;obtain⟨zs0,zs1⟩:=bW hT2.hs;have hk2:=hk.later hT2.below;obtain⟨b,o,rfl,c0,c1,c2,c3,c4,c5,c6,c7,c8⟩:=hk2.ps.cells i hi;obtain⟨hlc,hlm,hLS⟩:=hk2.ps.leases i hi;have hin:(i:Int)<n:=by omega
   have hcf:=qZ 90 #[] (poAt ps i).x (poAt ps i).n (poAt ps i).c (poAt ps i).ls (wH (poAt ps i).ls) w2 hLS hlm (RA _ _ w2) G1
   cases hany:anyAt (poAt ps i).n (wH (poAt ps i).ls)with
   |true=>
    have hne:Hid (gO t ps id=9/\(9:Int)≠0):=⟨hE2.out.trans (if_pos hany),by decide⟩
    rw[hany]at hcf
    clear hR hE2
    go_wp2_with fail
    refine hcf.mono ?_
    rintro e w3 ⟨rfl,hb3⟩
    have hT3:=hT2.later hb3
    clear b0 b1 s0 s1 zs0 zs1 hb3 c0 c1 c2 c3 c4 c5 c6 c7 c8
    obtain⟨b0,b1⟩:=aR hT3.hb rfl rfl
    obtain⟨s0,s1⟩:=aR hT3.hs rfl rfl
    obtain⟨zs0,zs1⟩:=bW hT3.hs
    go_wp2
    refine bodyPost_ret (v:= .tuple #[.agg #[.int .i64 0, .slice none 0 0], .int .i64 9]) (by simp[results,Tryz.results48,go_sem,s0,s1]) rfl ?_
    exact fP.err hne.out ((hT3.below.setCell (p:=⟨w.heap.size+1,0,none⟩) (zA) _).setCell (p:=⟨w.heap.size+1,1,none⟩) (zA) _)
   |false=>
    have hE0:Hid (gO t ps id=0):=hE2.out.trans (if_neg (by rw[hany];decide))
    rw[hany]at hcf
    clear hE2
    go_wp2_with fail
    refine hcf.mono ?_
    rintro e w3 ⟨rfl,hb3⟩
    have hT3:=hT2.later hb3
    clear b0 b1 s0 s1 zs0 zs1 hb3 c0 c1 c2 c3 c4 c5 c6 c7 c8 hcf
    obtain⟨b0,b1⟩:=aR hT3.hb rfl rfl
    obtain⟨s0,s1⟩:=aR hT3.hs rfl rfl
    obtain⟨zs0,zs1⟩:=bW hT3.hs
    go_wp2_with fail
    refine(dZ t (some ⟨b,o,none⟩) n c ps w3 (hk.later hT3.below) (by omega)).mono ?_
    rintro e w5 ⟨v5,qs,rfl,hs,hOB,hb5⟩
    obtain⟨k,hqk⟩:∃k,qs.length=k+1:=⟨n- 1,by rw[<-hs.1,hpl.out];omega⟩
    have hkn:Hid (k+1=n):=by unfold Hid;rw[<-hqk,<-hs.1,hpl.out]
    have hik:i<=k:=by have:=hkn.out;omega
    obtain⟨xq,capq,hvq,hcap1,hcap2, -,hmq⟩:=hOB.row.mem
    rcases hOB.row.2 with ⟨-,h0⟩|⟨g,cap,cur,hv5,hg1,hg2, -⟩
    ·omega
    obtain⟨bq,oq,hxq, -,hup, -, -, -, -, -, -, -⟩:=hmq i (by omega)
    rw[hv5]at hvq
    simp only[Value.slice.injEq]at hvq
    obtain⟨hvx, -,hvc⟩:=hvq
    rw[<-hvx]at hxq
    simp only[Option.some.injEq,Addr.mk.injEq]at hxq
    obtain⟨rfl,rfl, -⟩:=hxq
    subst hvc
    rw[hqk]at hcap1
    clear hvx hmq
    rw[hqk]at hv5
    subst hv5
    clear b0 b1 s0 s1 zs0 zs1
    go_upto_region 10 with fail
    obtain⟨w6,hw6⟩:∃w6,w6=w5.alloc (eZ t (.slice (some ⟨g,0,none⟩) (k+1) cap)):=⟨_,rfl⟩
    rw[<-hw6]
    have hT6:TC w w6 t (.slice (some ⟨b,o,none⟩) n c):=by rw[hw6];exact(hT3.later hb5).later (bl1 _ _)
    have hn6:w6.heap[w5.heap.size]?=some (eZ t (.slice (some ⟨g,0,none⟩) (k+1) cap)):=by rw[hw6];exact aB _ rfl
    have hOB6:dJ w6 w3.heap.size (.slice (some ⟨g,0,none⟩) (k+1) cap) qs qs.length:=by
     rw[hw6];exact hOB.later (bl1 _ _)
    have hs6:w3.heap.size<=w6.heap.size:=by rw[hw6];have:=hb5.size;simp;omega
    have hup6:w6.cell? ⟨g,i*9+1,none⟩=some (.int .i64 (poAt qs i).up):=by rw[hw6];exact aF (bl1 _ _) (by simpa using hup)
    have hsz:w.heap.size+1<w3.heap.size:=(zG hT3.hs)
    have hnb:w.heap.size+1<w5.heap.size:=by have:=hb5.size;omega
    clear hw6 hOB hb5 hg2 hup
    have hsp:=hs.2 i (by rw[hpl.out];exact hi)
    rw[<-hsp.2.1]at hup6
    have hik2:(i:Int)<(k:Int)+1:=by omega
    obtain⟨m0,m1⟩:=aR hn6 rfl rfl
    obtain⟨xq2,cq2,hvq2,hBk2⟩:=(hOB6.later (zD).drew).bk (fun j hj=>by
     have hj2:j<ps.length:=by rw[hs.1];exact hj
     have h1:=(hs.2 j hj2).2.2.2.2.2.2.2.2.1;have h2:=(iC hc0 j hj2).1;omega)
    simp only[Value.slice.injEq]at hvq2
    obtain⟨rfl, -,rfl⟩:=hvq2
    have hk7:k<=7:=by have:=hkn.out;omega
    have hpl2:=pplace_any t (poAt ps i).up (some ⟨g,0,none⟩) qs.length cap qs w6.drew hBk2.ps (by omega)
    rw[uP hs,hqk]at hpl2
    obtain⟨ua,hua⟩:∃ua,Hid (ua=aO ps (poAt ps i).up):=⟨_,rfl⟩
    rw[<-hua.out]at hpl2
    go_cut [9] (fun s wc=>s= .int .i64 ua/\Below w6.heap.size w6 wc)
    case first=>
     clear hBk2
     go_region_with (go_at_call 83;refine hpl2.mono ?_;rintro e w7 ⟨rfl,hb7⟩;have hB7:Below w6.heap.size w6 w7:=⟨hb7.os,hb7.tape,hb7.output,hb7.size,hb7.block⟩;have hup7:=aF hB7 hup6)
     all_goals go_wp2
     all_goals go_meet
     all_goals(case rel=>exact⟨rfl,hB7⟩)
    case rest=>
     obtain⟨rfl,hB7⟩:=hcut
     have hT7:=hT6.later hB7
     have hOB7:=hOB6.later hB7
     have hn7:=aA hB7 hn6
     have hs7:w3.heap.size<=wc.heap.size:=Nat.le_trans hs6 hB7.size
     clear m0 m1 hpl2 hup6 hBk2 hB7 hT6 hOB6 hn6
     go_upto_if 41 with fail
     go_cut [9] (fun s wd=>∃qq,Hid (lE t ps id t (qq.take i++qq.drop (i+1)))/\qq.length=k+1/\dJ wd w3.heap.size (.slice (some ⟨g,0,none⟩) (k+1) cap) qq qq.length/\TC w wd t (.slice (some ⟨b,o,none⟩) n c)/\wd.heap[w5.heap.size]?=some (eZ t (.slice (some ⟨g,0,none⟩) (k+1) cap))/\w3.heap.size<=wd.heap.size)
     case first=>
      by_cases hun:ua<0
      ·have hR2:Hid (lE t ps id t (qs.take i++qs.drop (i+1))):=hR.out _ ⟨qs,fun _=>hs,fun k hk=>by have:=hua.out;omega,rfl⟩;go_wp2;go_meet
       case rel=>exact⟨qs,hR2,hqk,hOB7,hT7,hn7,hs7⟩
      ·obtain⟨u,hul,hue, -⟩:=aX (ps:=ps) (id:=(poAt ps i).up) (by rw[<-hua.out];exact hun);obtain⟨j,hj,hjf⟩:=YJ hc0 hin0.out hue;rw[hid.out]at hjf;have hspu:=hs.2 u hul;have hR2:Hid (∀x' c',lE t ps id t ((qs.set u (aW (poAt qs u) x' (cI (poAt qs u) j t).length c' (cI (poAt qs u) j t))).take i++(qs.set u (aW (poAt qs u) x' (cI (poAt qs u) j t).length c' (cI (poAt qs u) j t))).drop (i+1))):=fun x' c'=>hR.out _ ⟨_,fun h=>by omega,fun k hk=>by
        have hku:k=u:=by omega
        subst hku;refine⟨qs,x',c',hs,?_⟩;rw[hid.out,hjf,zL hspu];rfl,rfl⟩
       obtain rfl:ua=(u:Int):=hua.out.trans hue;have hcpu:=iC hc0 u hul;have hspu2:=hspu;obtain⟨-, -, -, -, -, -, -,hqc,hqn,hqls⟩:=hspu2;have huq:u<qs.length:=by rw[<-hs.1];exact hul
       have huk:u<k+1:=by rw[<-hqk];exact huq
       rw[hqn]at hj hjf;rw[hqls]at hjf;have hlf:=fun W h=>wG id (poAt qs u) W h (by omega);rw[hjf]at hlf;have hLSu:=(hOB7.own u huq).ls.1;have hu0:(0:Int)<=u:=by omega
       have hu1:(u:Int)<(k:Int)+1:=by omega
       have hj0:(0:Int)<=j:=by omega
       clear hun hue hjf hspu hid hR hua;obtain⟨m0,m1⟩:=aR hn7 rfl rfl;obtain⟨r0,r1,r2,r3,r4,r5,r6,r7,r8⟩:=hOB7.row.cells9 u huq;go_upto_region 12 with fail
       have g0:=Ws.here m0;have g1:=Ws.here m1;have q0:=Ws.here r0;have q1:=Ws.here r1;have q2:=Ws.here r2;have q3:=Ws.here r3;have q4:=Ws.here r4;have q5:=Ws.here r5;have q6:=Ws.here r6;have q7:=Ws.here r7;have q8:=Ws.here r8;clear m0 m1 r0 r1 r2 r3 r4 r5 r6 r7 r8;refine jU wc.heap.size 13 (by kernel_rfl) (by kernel_rfl) ?_;simp only[List.take_succ_cons,List.take_zero,List.drop_succ_cons,List.drop_zero];repeat(go_big_quiet_step ((go_at_call 92;exact Calls.in_ws (zE) (hlf _ (hLSu.later (Ws.property _))))))
       refine wpQuiet_nil ?_;intro uu;have hB8:=uu.property;generalize uu.val=w8 at hB8⊢;clear uu g0 g1 q0 q1 q2 q3 q4 q5 q6 q7 q8 hlf;have hcool:=GW w3.heap.size g (k+1) cap qs u j t w8 (hOB7.later hB8) huq hj (by omega) (Nat.le_trans hs7 hB8.size) ht0 ht1 (by omega) (by omega);go_wp2_with fail;refine hcool.mono ?_;rintro e w9' ⟨rfl,x',c',hOB9',hK9'⟩;have hKu:dT w3.heap.size wc w9':=(dT.of_below hB8 hs7).trans hK9';go_wp2;go_meet
       case rel=>exact⟨_,hR2.out x' c',by rw[List.length_set];exact hqk,hOB9',hT7.kept hKu hT3.below.size,hKu.box _ _ _ hn7 (by decide) (by decide),Nat.le_trans hs7 hKu.size⟩
     case rest=>
      obtain⟨qq,hR3,hqqL,hOBq,hTq,hnW,hsq⟩:=hcut
      have m1:=aP hnW 1 rfl
      have hdel:=GV w3.heap.size g k cap i (i+1) qq wc hOBq.row hqqL hik rfl (by omega) hcap1 hcap2
      rw[show((i+1:Nat):Int)=(i:Int)+1 by omega]at hdel
      go_wp2_with fail
      refine hdel.mono ?_
      rintro e w8 ⟨rfl,hO8,hg8⟩
      have hOB8:=hOBq.del (by rw[hqqL];omega) hg8 hO8
      obtain⟨hbg,curg,hgc⟩:=hOBq.row.block
      have hK8:dT w3.heap.size wc w8:=dT.of_grown hg8 hbg hsq hgc (.inl rfl)
      have hT8:=hTq.kept hK8 hT3.below.size
      have hn8:=hK8.box _ _ _ hnW (by decide) (by decide)
      clear m1 hdel hO8
      have q0:=aP hn8 0 rfl
      have q1:=aP hn8 1 rfl
      have zq1:=(aC hn8).2 1
      go_upto_region 14 with fail
      obtain⟨w9,hw9⟩:∃w9,w9=w8.setCell ⟨w5.heap.size,1,none⟩ (.slice (some ⟨g,0,none⟩) k cap):=⟨_,rfl⟩
      rw[<-hw9]
      have hT9:TC w w9 t (.slice (some ⟨b,o,none⟩) n c):=by rw[hw9];exact hT8.put hnb
      have hn9:w9.heap[w5.heap.size]?=some (eZ t (.slice (some ⟨g,0,none⟩) k cap)):=by
       rw[hw9];have:=heap_setCell_same w8 w5.heap.size 1 _ _ (.slice (some ⟨g,0,none⟩) k cap) hn8;simpa[eZ]using this
      have hOB9:dJ w9 w3.heap.size (.slice (some ⟨g,0,none⟩) k cap) (qq.take i++qq.drop (i+1)) (qq.take i++qq.drop (i+1)).length:=by rw[hw9];exact hOB8.putBox hn8 (by decide) (by decide)
      clear hw9 q0 q1 zq1 hOB8 hT8 hn8
      obtain⟨q0,q1⟩:=aR hn9 rfl rfl
      obtain⟨s0,s1⟩:=aR hT9.hs rfl rfl
      obtain⟨zs0,zs1⟩:=bW hT9.hs
      go_wp2
      refine bodyPost_ret (v:= .tuple #[.agg #[.int .i64 t, .slice (some ⟨g,0,none⟩) k cap], .int .i64 0]) (by simp[results,Tryz.results48,go_sem,s0,s1]) rfl ?_
      have hfin:=(hT9.below.setCell (p:=⟨w.heap.size+1,0,none⟩) (zA) (.int .i64 t)).setCell (p:=⟨w.heap.size+1,1,none⟩) (zA) (.slice (some ⟨g,0,none⟩) k cap)
      have hob:=((hOB9.put (o:=0) (u:= .int .i64 t) hsz).put (o:=1) (u:= .slice (some ⟨g,0,none⟩) k cap) hsz).low hT3.below.size
      exact⟨_,_,t,by rw[hE0.out],hfin,hob,fun h=>absurd hE0.out h,fun _=>hR3.out⟩
 ·have hne:Hid (gO t ps id=aS t ps/\aS t ps≠0):=⟨if_pos hc0,hc0⟩;go_wp2_with fail;refine hck.mono ?_;rintro e w1 ⟨rfl,hb1⟩;have hT1:=hT0.later hb1;clear b0 b1 s0 s1 zs0 zs1 hck hb1;obtain⟨b0,b1⟩:=aR hT1.hb rfl rfl;obtain⟨s0,s1⟩:=aR hT1.hs rfl rfl;obtain⟨zs0,zs1⟩:=bW hT1.hs;go_wp2;refine bodyPost_ret (v:= .tuple #[.agg #[.int .i64 0, .slice none 0 0], .int .i64 (aS t ps)]) (by simp[results,Tryz.results48,go_sem,s0,s1]) rfl ?_;exact fP.err hne.out ((hT1.below.setCell (p:=⟨w.heap.size+1,0,none⟩) (zA) _).setCell (p:=⟨w.heap.size+1,1,none⟩) (zA) _)
def bX(t:Int)(ps:List Po)(id up z:Int):Int:=
 if aS t ps≠0 then aS t ps else if dE id 1 65536=false then 3 else if aO ps up<0 then 5 else if 0<=aO ps id then 6 else dR (poAt ps (aO ps up).toNat) z
def eQ(t:Int)(ps:List Po)(id up z:Int):Int×Int:=
 if bX t ps id up z≠0 then(0,0)else dS (poAt ps (aO ps up).toNat) z
def fG(t:Int)(ps:List Po)(id up z:Int)(w:World)(r:Ending)(w':World):Prop:=
 r= .returned (.tuple #[.agg #[.int .i64 (eQ t ps id up z).1, .int .i64 (eQ t ps id up z).2], .int .i64 (bX t ps id up z)])/\Below w.heap.size w w'
theorem fG.err{id:Int}(hE:bX t ps id up z=E/\E≠0)(hb:Below w.heap.size w w'):
  fG t ps id up z w (.returned (.tuple #[.agg #[.int .i64 0, .int .i64 0], .int .i64 E])) w':=by
 refine⟨?_,hb⟩;have h:eQ t ps id up z=(0,0):=if_pos (by rw[hE.1];exact hE.2);rw[h,hE.1]
theorem NP(h:dR p z≠0):dS p z=(0,0):=by
 unfold dR at h;unfold dS;by_cases h1:z<p.mn\/p.mx<z
 ·rw[if_pos h1]
 ·rw[if_neg h1]at h⊢
  cases hq:oB p z with
  |none=>rfl
  |some y=>rw[hq]at h;exact absurd rfl h
structure TR(w W:World)(t:Int)(v:Value):Prop where
 hb:W.heap[w.heap.size]?=some (eZ t v)
 hr:W.heap[w.heap.size+1]?=some (.cells #[.int .i64 0, .int .i64 0] 26)
 below:Below w.heap.size w W
theorem TR.later(h:TR w W t v)(hb:Below W.heap.size W W'):TR w W' t v:=
 ⟨aA hb h.hb,aA hb h.hr,h.below.trans (hb.mono h.below.size)⟩
theorem EQ(t:Int)(x:Option Addr)(n c:Nat)(ps:List Po)(id up z:Int)(w:World)(hk:Bk w x n c ps):
  Calls Tryz.prog 87 #[.agg #[.int .i64 t, .slice x n c], .int .i64 id, .int .i64 up, .int .i64 z] w (fG t ps id up z w):=by
 have hpl:Hid (ps.length=n):=hk.ps.len;go_enter Tryz.func87,Tryz.ntmps87;go_upto_region 1 with fail
 obtain⟨w0,hw0⟩:∃w0,w0=(w.alloc (eZ t (.slice x n c))).alloc (.cells #[.int .i64 0, .int .i64 0] 26):=⟨_,rfl⟩;rw[<-hw0];have hT0:TR w w0 t (.slice x n c):=by
  rw[hw0];exact⟨aG _ (aB _ rfl),aB _ (by simp),bO w _ _⟩
 clear hw0;obtain⟨b0,b1⟩:=aR hT0.hb rfl rfl;obtain⟨r0,r1⟩:=aR hT0.hr rfl rfl;obtain⟨zr0,zr1⟩:=bW hT0.hr;have hck:=fA t x n c ps w0 (hk.later hT0.below);by_cases hc0:aS t ps=0
 ·rw[hc0]at hck;obtain⟨hn8, -, -⟩:=gN hc0;rw[hpl.out]at hn8;have hE1:Hid (bX t ps id up z=if dE id 1 65536=false then 3 else if aO ps up<0 then 5 else if 0<=aO ps id then 6 else dR (poAt ps (aO ps up).toNat) z):=if_neg (c:=aS t ps≠0) (by simp[hc0]);go_wp2_with fail;refine(hck).mono ?_;rintro e w1 ⟨rfl,hb_⟩;have hT1:=hT0.later hb_;clear b0 b1 r0 r1 zr0 zr1 hb_;obtain⟨b0,b1⟩:=aR hT1.hb rfl rfl;obtain⟨r0,r1⟩:=aR hT1.hr rfl rfl;obtain⟨zr0,zr1⟩:=bW hT1.hr;have hpc:=pplace_any t up x n c ps w1 (hk.later hT1.below).ps (by omega);obtain⟨ua,hua⟩:∃ua,Hid (ua=aO ps up):=⟨_,rfl⟩;rw[<-hua.out]at hpc;go_wp2_with fail;refine(hpc).mono ?_;rintro e w2 ⟨rfl,hb_⟩;have hT2:=hT1.later hb_;clear b0 b1 r0 r1 zr0 zr1 hb_;obtain⟨b0,b1⟩:=aR hT2.hb rfl rfl;obtain⟨r0,r1⟩:=aR hT2.hr rfl rfl;obtain⟨zr0,zr1⟩:=bW hT2.hr
  cases hid:dE id 1 65536 with
  |false=>
   have hne:Hid (bX t ps id up z=3/\(3:Int)≠0):=⟨hE1.out.trans (if_pos hid),by decide⟩
   clear hE1
   go_wp2_with fail
   refine(isId_is id false hid _).mono ?_
   rintro e w2 ⟨rfl,rfl⟩
   go_wp2
   refine bodyPost_ret (v:= .tuple #[.agg #[.int .i64 0, .int .i64 0], .int .i64 3]) (by simp[results,Tryz.results87,go_sem,r0,r1]) rfl ?_
   exact fG.err hne.out ((hT2.below.setCell (p:=⟨w.heap.size+1,0,none⟩) (zA) _).setCell (p:=⟨w.heap.size+1,1,none⟩) (zA) _)
  |true=>
   have hE2:Hid (bX t ps id up z=if aO ps up<0 then 5 else if 0<=aO ps id then 6 else dR (poAt ps (aO ps up).toNat) z):=hE1.out.trans (if_neg (by rw[hid];decide))
   clear hE1
   by_cases hun:ua<0
   ·have hne:Hid (bX t ps id up z=5/\(5:Int)≠0):=⟨hE2.out.trans (if_pos (by rw[<-hua.out];exact hun)),by decide⟩;clear hE2;go_wp2_with fail;refine(isId_is id true hid _).mono ?_;rintro e w2 ⟨rfl,rfl⟩;go_wp2;refine bodyPost_ret (v:= .tuple #[.agg #[.int .i64 0, .int .i64 0], .int .i64 5]) (by simp[results,Tryz.results87,go_sem,r0,r1]) rfl ?_;exact fG.err hne.out ((hT2.below.setCell (p:=⟨w.heap.size+1,0,none⟩) (zA) _).setCell (p:=⟨w.heap.size+1,1,none⟩) (zA) _)
   ·obtain⟨i,hi,hie, -⟩:=aX (ps:=ps) (id:=up) (by rw[<-hua.out];exact hun);obtain rfl:ua=(i:Int):=hua.out.trans hie;rw[hpl.out]at hi;have hto:(aO ps up).toNat=i:=by rw[hie];rfl
    have hE3:Hid (bX t ps id up z=if 0<=aO ps id then 6 else dR (poAt ps i) z):=by
     have h:=hE2.out;rw[if_neg (by rw[hie];omega),hto]at h;exact h
    have hO3:Hid (bX t ps id up z=0->eQ t ps id up z=dS (poAt ps i) z):=fun h=>by
     unfold eQ;rw[if_neg (by rw[h];decide),hto]
    have hi0:(0:Int)<=i:=by omega
    have hin:(i:Int)<n:=by omega
    clear hE2 hto hie hua hun;have hpc2:=pplace_any t id x n c ps w2 (hk.later hT2.below).ps (by omega);by_cases hia:0<=aO ps id
    ·have hne:Hid (bX t ps id up z=6/\(6:Int)≠0):=⟨hE3.out.trans (if_pos hia),by decide⟩;clear hE3 hO3;go_wp2_with fail;refine(isId_is id true hid _).mono ?_;rintro e w2 ⟨rfl,rfl⟩;go_wp2_with fail;refine(hpc2).mono ?_;rintro e w3 ⟨rfl,hb_⟩;have hT3:=hT2.later hb_;clear b0 b1 r0 r1 zr0 zr1 hb_;obtain⟨b0,b1⟩:=aR hT3.hb rfl rfl;obtain⟨r0,r1⟩:=aR hT3.hr rfl rfl;obtain⟨zr0,zr1⟩:=bW hT3.hr;go_wp2;refine bodyPost_ret (v:= .tuple #[.agg #[.int .i64 0, .int .i64 0], .int .i64 6]) (by simp[results,Tryz.results87,go_sem,r0,r1]) rfl ?_;exact fG.err hne.out ((hT3.below.setCell (p:=⟨w.heap.size+1,0,none⟩) (zA) _).setCell (p:=⟨w.heap.size+1,1,none⟩) (zA) _)
    ·have hE4:Hid (bX t ps id up z=dR (poAt ps i) z):=hE3.out.trans (if_neg hia);clear hE3;have hia2:aO ps id<0:=by omega
     go_wp2_with fail;refine(isId_is id true hid _).mono ?_;rintro e w2 ⟨rfl,rfl⟩;go_wp2_with fail;refine(hpc2).mono ?_;rintro e w3 ⟨rfl,hb_⟩;have hT3:=hT2.later hb_;clear b0 b1 r0 r1 zr0 zr1 hb_;obtain⟨b0,b1⟩:=aR hT3.hb rfl rfl;obtain⟨r0,r1⟩:=aR hT3.hr rfl rfl;obtain⟨zr0,zr1⟩:=bW hT3.hr;have hk3:=hk.later hT3.below;obtain⟨b,o,rfl,c0,c1,c2,c3,c4,c5,c6,c7,c8⟩:=hk3.ps.cells i hi;obtain⟨hlc,hlm,hLS⟩:=hk3.ps.leases i hi;have hpf:=GS (poAt ps i) z w3 hLS hlm;unfold yV at hpf;obtain⟨pA,hpA⟩:∃pA,Hid (pA=(dS (poAt ps i) z).1):=⟨_,rfl⟩;obtain⟨pL,hpL⟩:∃pL,Hid (pL=(dS (poAt ps i) z).2):=⟨_,rfl⟩;obtain⟨pE,hpE⟩:∃pE,Hid (pE=dR (poAt ps i) z):=⟨_,rfl⟩;rw[<-hpA.out,<-hpL.out,<-hpE.out]at hpf;go_wp2_with fail;refine hpf.mono ?_;rintro e w4 ⟨rfl,hb4⟩;have hT4:=hT3.later hb4;clear b0 b1 r0 r1 zr0 zr1 hb4 c0 c1 c2 c3 c4 c5 c6 c7 c8 hpf;obtain⟨b0,b1⟩:=aR hT4.hb rfl rfl;obtain⟨r0,r1⟩:=aR hT4.hr rfl rfl;obtain⟨zr0,zr1⟩:=bW hT4.hr;go_wp2;refine bodyPost_ret (v:= .tuple #[.agg #[.int .i64 pA, .int .i64 pL], .int .i64 pE]) (by simp[results,Tryz.results87,go_sem,r0,r1]) rfl ?_;refine⟨?_,((hT4.below.setCell (p:=⟨w.heap.size+1,0,none⟩) (zA) _).setCell (p:=⟨w.heap.size+1,1,none⟩) (zA) _)⟩;have hEE:bX t ps id up z=pE:=hE4.out.trans hpE.out.symm;have hOO:eQ t ps id up z=(pA,pL):=by
      by_cases h0:bX t ps id up z=0
      ·rw[hO3.out h0,hpA.out,hpL.out]
      ·have h1:eQ t ps id up z=(0,0):=if_pos h0;have h2:=NP (p:=poAt ps i) (z:=z) (by rw[<-hE4.out];exact h0);rw[h1,hpA.out,hpL.out,h2]
     rw[hOO,hEE]
 ·have hne:Hid (bX t ps id up z=aS t ps/\aS t ps≠0):=⟨if_pos hc0,hc0⟩;go_wp2_with fail;refine(hck).mono ?_;rintro e w1 ⟨rfl,hb_⟩;have hT1:=hT0.later hb_;clear b0 b1 r0 r1 zr0 zr1 hb_;obtain⟨b0,b1⟩:=aR hT1.hb rfl rfl;obtain⟨r0,r1⟩:=aR hT1.hr rfl rfl;obtain⟨zr0,zr1⟩:=bW hT1.hr;go_wp2;refine bodyPost_ret (v:= .tuple #[.agg #[.int .i64 0, .int .i64 0], .int .i64 (aS t ps)]) (by simp[results,Tryz.results87,go_sem,r0,r1]) rfl ?_;exact fG.err hne.out ((hT1.below.setCell (p:=⟨w.heap.size+1,0,none⟩) (zA) _).setCell (p:=⟨w.heap.size+1,1,none⟩) (zA) _)
def jV(t:Int)(ps:List Po)(id up z mn mx us co:Int):Int:=
 if bX t ps id up z≠0 then bX t ps id up z else lT ps (eQ t ps id up z).2 mn mx us co
def oH(ps:List Po)(e:Po)(up:Int)(rs:List Po):Prop:=
 ∃qs ms x' c' ls',cB ps qs/\gZ e qs ms/\gG ⟨e.a,e.l,2,e.id,0⟩ (poAt ms (aO ms up).toNat).ls ls'/\rs=ms.set (aO ms up).toNat (aW (poAt ms (aO ms up).toNat) x' ls'.length c' ls')
def oI(t:Int)(ps:List Po)(id up z mn mx us co:Int)(w:World)(r:Ending)(w':World):Prop:=
 ∃v rs t' a l,r= .returned (.tuple #[.agg #[.int .i64 t',v], .agg #[.int .i64 a, .int .i64 l], .int .i64 (jV t ps id up z mn mx us co)])/\Below w.heap.size w w'/\dJ w' w.heap.size v rs rs.length/\
  (jV t ps id up z mn mx us co≠0->t'=0/\rs=[]/\a=0/\l=0)/\
  (jV t ps id up z mn mx us co=0->t'=t/\(a,l)=eQ t ps id up z/\oH ps ⟨id,up,a,l,mn,mx,us,co,none,0,0,[]⟩ up rs)
theorem oI.err{id:Int}(hE:jV t ps id up z mn mx us co=E/\E≠0)(hb:Below w.heap.size w w'):
  oI t ps id up z mn mx us co w (.returned (.tuple #[.agg #[.int .i64 0, .slice none 0 0], .agg #[.int .i64 0, .int .i64 0], .int .i64 E])) w':=
 ⟨_,[],0,0,0,by rw[hE.1],hb,dJ.nil _ _,fun _=>⟨rfl,rfl,rfl,rfl⟩,fun h=>absurd (hE.1.symm.trans h) hE.2⟩
structure PX(w W:World)(t mn mx us co:Int)(v:Value):Prop where
 hb:W.heap[w.heap.size]?=some (eZ t v)
 hu:W.heap[w.heap.size+1]?=some (.cells #[.int .i64 mn, .int .i64 mx, .int .i64 us, .int .i64 co] 32)
 hs:W.heap[w.heap.size+2]?=some (eZ 0 (.slice none 0 0))
 hr:W.heap[w.heap.size+3]?=some (.cells #[.int .i64 0, .int .i64 0] 26)
 below:Below w.heap.size w W
theorem PX.later(h:PX w W t mn mx us co v)(hb:Below W.heap.size W W'):PX w W' t mn mx us co v:=
 ⟨aA hb h.hb,aA hb h.hu,aA hb h.hs,aA hb h.hr,h.below.trans (hb.mono h.below.size)⟩
theorem PX.kept(h:PX w W t mn mx us co v)(hk:dT base W W')(hb:w.heap.size<=base):PX w W' t mn mx us co v:=
 ⟨hk.box _ _ _ h.hb (by decide) (by decide),hk.box _ _ _ h.hu (by decide) (by decide),hk.box _ _ _ h.hs (by decide) (by decide),hk.box _ _ _ h.hr (by decide) (by decide),h.below.trans (hk.below.mono hb)⟩
theorem PX.fin(h:PX w W t mn mx us co v)(a b c d:Value):Below w.heap.size w ((((W.setCell ⟨w.heap.size+2,0,none⟩ a).setCell ⟨w.heap.size+2,1,none⟩ b).setCell ⟨w.heap.size+3,0,none⟩ c).setCell ⟨w.heap.size+3,1,none⟩ d):=
 (((h.below.setCell (p:=⟨w.heap.size+2,0,none⟩) (zA) _).setCell (p:=⟨w.heap.size+2,1,none⟩) (zA) _).setCell (p:=⟨w.heap.size+3,0,none⟩) (zA) _).setCell (p:=⟨w.heap.size+3,1,none⟩) (zA) _
theorem gZ.len(h:gZ e qs rs):rs.length=qs.length+1:=by
 obtain⟨i,hi, -, -,rfl⟩:=h;simp;omega
theorem gZ.all{p:Po->Prop}(h:gZ e qs rs)(he:p e)(hq:∀j,j<qs.length->p (poAt qs j)):∀j,j<rs.length->p (poAt rs j):=by
 intro j hj;have hl:=h.len;obtain⟨i,hi, -, -,rfl⟩:=h;rw[oC hi];by_cases c1:j<i
 ·rw[if_pos c1];exact hq j (by omega)
 ·rw[if_neg c1];by_cases c2:j=i
  ·rw[if_pos c2];exact he
  ·rw[if_neg c2];exact hq (j- 1) (by omega)
theorem gZ.has(h:gZ e qs rs)(hq:¬aO qs up<0):∃k:Nat,k<rs.length/\aO rs up=k:=by
 have hl:=h.len;obtain⟨q,hq1, -,hq3⟩:=aX hq;by_cases hn:aO rs up<0
 ·have h2:=jF hn;obtain⟨i,hi, -, -,rfl⟩:=h;by_cases c1:q<i
  ·have:=h2 q (by omega);rw[oC hi,if_pos c1]at this;exact absurd hq3 this
  ·have:=h2 (q+1) (by omega);rw[oC hi,if_neg (by omega),if_neg (by omega)]at this;exact absurd hq3 this
 ·obtain⟨k,h1,h2, -⟩:=aX hn;exact⟨k,h1,h2⟩
theorem VL{id:Int}(h:bX t ps id up z=0):aS t ps=0/\¬aO ps up<0/\∀i,i<ps.length->(poAt ps i).n<=32:=by
 unfold bX at h;by_cases h1:aS t ps=0
 ·refine⟨h1,fun h2=>?_,fun i hi=>(iC h1 i hi).1⟩;rw[if_neg (by simp[h1])]at h;split at h
  ·cases h
  ·first|(rw[if_pos h2]at h;cases h)|cases h
 ·rw[if_pos h1]at h;exact absurd h h1
theorem RC(t:Int)(x:Option Addr)(n c:Nat)(ps:List Po)(id up z mn mx us co:Int)(w:World)(hk:Bk w x n c ps):
  Calls Tryz.prog 47 #[.agg #[.int .i64 t, .slice x n c], .int .i64 id, .int .i64 up, .int .i64 z, .agg #[.int .i64 mn, .int .i64 mx, .int .i64 us, .int .i64 co]] w (oI t ps id up z mn mx us co w):=by
 have hpl:Hid (ps.length=n):=hk.ps.len;go_enter Tryz.func47,Tryz.ntmps47;go_upto_region 1 with fail
 obtain⟨w0,hw0⟩:∃w0,w0=(((w.alloc (eZ t (.slice x n c))).alloc (.cells #[.int .i64 mn, .int .i64 mx, .int .i64 us, .int .i64 co] 32)).alloc (eZ 0 (.slice none 0 0))).alloc (.cells #[.int .i64 0, .int .i64 0] 26):=⟨_,rfl⟩;rw[<-hw0];have hT0:PX w w0 t mn mx us co (.slice x n c):=by
  rw[hw0];exact⟨aG _ (aG _ (aG _ (aB _ rfl))),aG _ (aG _ (aB _ (by simp))),aG _ (aB _ (by simp)),aB _ (by simp),((bO w _ _).alloc (by simp;omega) _).alloc (by simp;omega) _⟩
 clear hw0;obtain⟨b0,b1⟩:=aR hT0.hb rfl rfl;obtain⟨u0,u1,u2,u3⟩:=dL hT0.hu rfl rfl rfl rfl;obtain⟨s0,s1⟩:=aR hT0.hs rfl rfl;obtain⟨zs0,zs1⟩:=bW hT0.hs;obtain⟨r0,r1⟩:=aR hT0.hr rfl rfl;obtain⟨zr0,zr1⟩:=bW hT0.hr;have hnr:=EQ t x n c ps id up z w0 (hk.later hT0.below);unfold fG at hnr;obtain⟨pA,hpA⟩:∃pA,Hid (pA=(eQ t ps id up z).1):=⟨_,rfl⟩;obtain⟨pL,hpL⟩:∃pL,Hid (pL=(eQ t ps id up z).2):=⟨_,rfl⟩;rw[<-hpA.out,<-hpL.out]at hnr;by_cases hne0:bX t ps id up z=0
 ·obtain⟨hc0,hup,hn32⟩:=VL hne0;have hc0':Hid (aS t ps=0):=hc0;have hup':Hid (¬aO ps up<0):=hup;have hn32':Hid (∀i,i<ps.length->(poAt ps i).n<=32):=hn32;have hn8:n<=8:=by rw[<-hpl.out];exact sP hc0
  have hE1:Hid (jV t ps id up z mn mx us co=lT ps pL mn mx us co):=by
   unfold Hid jV;rw[if_neg (by simp[hne0]),hpL.out]
  rw[hne0]at hnr;clear hc0 hup hn32 hne0;go_wp2_with fail;refine hnr.mono ?_;rintro e w1 ⟨rfl,hb1⟩;have hT1:=hT0.later hb1;clear b0 b1 u0 u1 u2 u3 s0 s1 zs0 zs1 r0 r1 zr0 zr1 hb1 hnr;go_upto_region 2 with fail
  obtain⟨w2,hw2⟩:∃w2,w2=w1.alloc (.cells #[.int .i64 pA, .int .i64 pL] 26):=⟨_,rfl⟩;rw[<-hw2];have hT2:PX w w2 t mn mx us co (.slice x n c):=by rw[hw2];exact hT1.later (bl1 _ _)
  have hp2:w2.heap[w1.heap.size]?=some (.cells #[.int .i64 pA, .int .i64 pL] 26):=by rw[hw2];exact aB _ rfl
  have hsz1:w.heap.size+3<w1.heap.size:=(zG hT1.hr);clear hw2;obtain⟨b0,b1⟩:=aR hT2.hb rfl rfl;obtain⟨u0,u1,u2,u3⟩:=dL hT2.hu rfl rfl rfl rfl;obtain⟨s0,s1⟩:=aR hT2.hs rfl rfl;obtain⟨zs0,zs1⟩:=bW hT2.hs;obtain⟨r0,r1⟩:=aR hT2.hr rfl rfl;obtain⟨zr0,zr1⟩:=bW hT2.hr;obtain⟨p0,p1⟩:=aR hp2 rfl rfl;have had:=sR t pA pL mn mx us co x n c ps hpl.out w2;by_cases hae:lT ps pL mn mx us co=0
  ·have hE0:Hid (jV t ps id up z mn mx us co=0):=hE1.out.trans hae;rw[hae]at had;clear hE1 hae;go_wp2_with fail;refine had.mono ?_;rintro e w3 ⟨rfl,hb3⟩;have hT3:=hT2.later hb3;have hp3:=aA hb3 hp2;clear b0 b1 u0 u1 u2 u3 s0 s1 zs0 zs1 r0 r1 zr0 zr1 p0 p1 hb3 hp2 had;obtain⟨b0,b1⟩:=aR hT3.hb rfl rfl;obtain⟨u0,u1,u2,u3⟩:=dL hT3.hu rfl rfl rfl rfl;obtain⟨s0,s1⟩:=aR hT3.hs rfl rfl;obtain⟨zs0,zs1⟩:=bW hT3.hs;obtain⟨r0,r1⟩:=aR hT3.hr rfl rfl;obtain⟨zr0,zr1⟩:=bW hT3.hr;obtain⟨p0,p1⟩:=aR hp3 rfl rfl;have hwp:=sQ t x n c ps ⟨id,up,pA,pL,mn,mx,us,co,none,0,0,[]⟩ w3 (hk.later hT3.below) hn8 rfl rfl rfl rfl;go_wp2_with fail;refine hwp.mono ?_;rintro e w5 ⟨v5,qs,ms,rfl,hb5,hs,hput,hOB⟩;obtain⟨k,hkl,hke⟩:=hput.has (up:=up) (by rw[uP hs];have:=hup'.out;omega);have hmn:∀j,j<ms.length->(poAt ms j).n<=32:=gZ.all (p:=fun p=>p.n<=32) hput (Nat.zero_le _) (fun j hj=>by
    have hj2:j<ps.length:=by rw[hs.1];exact hj
    rw[<-(hs.2 j hj2).2.2.2.2.2.2.2.2.1];exact hn32'.out j hj2)
   have hml:ms.length<=9:=by have:=hput.len;rw[<-hs.1,hpl.out]at this;omega
   rcases hOB.row.2 with ⟨-,h0⟩|⟨g,cap,cur,rfl,hg1,hg2, -⟩
   ·omega
   clear b0 b1 u0 u1 u2 u3 s0 s1 zs0 zs1 r0 r1 zr0 zr1 p0 p1 hwp;go_upto_region 7 with fail
   obtain⟨w6,hw6⟩:∃w6,w6=w5.alloc (eZ t (.slice (some ⟨g,0,none⟩) ms.length cap)):=⟨_,rfl⟩;rw[<-hw6];have hT6:PX w w6 t mn mx us co (.slice x n c):=by rw[hw6];exact(hT3.later hb5).later (bl1 _ _)
   have hp6:w6.heap[w1.heap.size]?=some (.cells #[.int .i64 pA, .int .i64 pL] 26):=by rw[hw6];exact aG _ (aA hb5 hp3)
   have hn6:w6.heap[w5.heap.size]?=some (eZ t (.slice (some ⟨g,0,none⟩) ms.length cap)):=by rw[hw6];exact aB _ rfl
   have hOB6:dJ w6 w3.heap.size (.slice (some ⟨g,0,none⟩) ms.length cap) ms ms.length:=by rw[hw6];exact hOB.later (bl1 _ _)
   have hs6:w3.heap.size<=w6.heap.size:=by rw[hw6];have:=hb5.size;simp;omega
   have hsz3:w.heap.size+3<w3.heap.size:=(zG hT3.hr);have hsz5:w.heap.size+3<w5.heap.size:=by have:=hb5.size;omega
   clear hw6 hOB hb5 hg2 hp3;obtain⟨xq2,cq2,hvq2,hBk2⟩:=hOB6.bk (fun j hj=>by have:=hmn j hj;omega);simp only[Value.slice.injEq]at hvq2;obtain⟨rfl, -,rfl⟩:=hvq2;have hpl2:=fun W h=>pplace_any t up (some ⟨g,0,none⟩) ms.length cap ms W h (by omega);rw[hke]at hpl2;have hps6:=hBk2.ps;have g0:=Ws.here (v:= .int .i64 t) ((aC hn6).1 0);have g1:=Ws.here (v:= .slice (some ⟨g,0,none⟩) ms.length cap) ((aC hn6).1 1);have g2:=Ws.here (v:= .int .i64 pA) ((aC hp6).1 0);have g3:=Ws.here (v:= .int .i64 pL) ((aC hp6).1 1);have hk0:(0:Int)<=k:=by omega
   have hk1:(k:Int)<ms.length:=by omega
   have hR:Hid (∀x' c' ls',gG ⟨pA,pL,2,id,0⟩ (poAt ms k).ls ls'->oH ps ⟨id,up,pA,pL,mn,mx,us,co,none,0,0,[]⟩ up (ms.set k (aW (poAt ms k) x' ls'.length c' ls'))):=fun x' c' ls' h=>⟨qs,ms,x',c',ls',hs,hput,by rw[hke];exact h,by rw[hke];rfl⟩;clear hke;refine jU w6.heap.size 9 (by kernel_rfl) (by kernel_rfl) ?_;simp only[List.take_succ_cons,List.take_zero,List.drop_succ_cons,List.drop_zero];repeat(go_big_quiet_step ((go_at_call 83;exact Calls.in_ws (zE) (hpl2 _ (hps6.later (Ws.property _))))))
   refine wpQuiet_nil ?_;intro uu;have hB7:=uu.property;generalize uu.val=w7 at hB7⊢;clear uu g0 g1 g2 g3 hpl2;have hadd:=sO ⟨pA,pL,2,id,0⟩ w3.heap.size g ms.length cap ms k w7 (hOB6.later hB7) hkl (hmn k hkl) (Nat.le_trans hs6 hB7.size);go_wp2_with fail;refine hadd.mono ?_;rintro e w8 ⟨rfl,x',c',ls',hpl3,hOB8,hg8⟩;obtain⟨hbg,cur7,hgc7⟩:=(hOB6.later hB7).row.block;have hKu:dT w3.heap.size w6 w8:=(dT.of_below hB7 hs6).trans (dT.of_grown hg8 hbg (Nat.le_trans hs6 hB7.size) hgc7 (.inl rfl));have hT8:=hT6.kept hKu hT3.below.size;have hp8:=hKu.box _ _ _ hp6 (by decide) (by decide);have hn8':=hKu.box _ _ _ hn6 (by decide) (by decide);have hR2:Hid (oH ps ⟨id,up,pA,pL,mn,mx,us,co,none,0,0,[]⟩ up (ms.set k (aW (poAt ms k) x' ls'.length c' ls'))):=hR.out x' c' ls' hpl3;clear hadd hB7 hg8 hgc7 hKu hT6 hp6 hn6 hOB6 hR hpl3;obtain⟨m0,m1⟩:=aR hn8' rfl rfl;obtain⟨p0,p1⟩:=aR hp8 rfl rfl;have n1:¬w1.heap.size=w.heap.size+2:=by omega
   have n2:¬w1.heap.size=w.heap.size+1+1:=by omega
   have n3:¬w1.heap.size=w.heap.size+3:=by omega
   have n4:¬w1.heap.size=w.heap.size+1+1+1:=by omega
   have n5:¬w5.heap.size=w.heap.size+2:=by omega
   have n6:¬w5.heap.size=w.heap.size+1+1:=by omega
   have n7:¬w5.heap.size=w.heap.size+3:=by omega
   have n8:¬w5.heap.size=w.heap.size+1+1+1:=by omega
   obtain⟨s0,s1⟩:=aR hT8.hs rfl rfl;obtain⟨zs0,zs1⟩:=bW hT8.hs;obtain⟨r0,r1⟩:=aR hT8.hr rfl rfl;obtain⟨zr0,zr1⟩:=bW hT8.hr;go_upto_region 8 with fail
   go_region_with fail;all_goals go_wp2
   all_goals refine bodyPost_ret (v:= .tuple #[.agg #[.int .i64 t, .slice (some ⟨g,0,none⟩) ms.length cap], .agg #[.int .i64 pA, .int .i64 pL], .int .i64 0]) (by simp[results,Tryz.results47,go_sem,s0,s1,r0,r1]) rfl ?_
   all_goals have hsz2:w.heap.size+2<w3.heap.size:=by omega
   all_goals have hfin:=(hT8.fin (.int .i64 t) (.slice (some ⟨g,0,none⟩) ms.length cap) (.int .i64 pA) (.int .i64 pL)).drew
   all_goals have hob:=(((((hOB8.put (o:=0) (u:= .int .i64 t) hsz2).put (o:=1) (u:= .slice (some ⟨g,0,none⟩) ms.length cap) hsz2).put (o:=0) (u:= .int .i64 pA) hsz3).put (o:=1) (u:= .int .i64 pL) hsz3).later (zD).drew).low hT3.below.size
   all_goals exact⟨_,_,t,pA,pL,by rw[hE0.out],hfin,hob,fun h=>absurd hE0.out h,fun _=>⟨rfl,by rw[hpA.out,hpL.out],hR2.out⟩⟩
  ·have hne:Hid (jV t ps id up z mn mx us co=lT ps pL mn mx us co/\lT ps pL mn mx us co≠0):=⟨hE1.out,hae⟩;go_wp2_with fail;refine had.mono ?_;rintro e w3 ⟨rfl,hb3⟩;have hT3:=hT2.later hb3;clear b0 b1 u0 u1 u2 u3 s0 s1 zs0 zs1 r0 r1 zr0 zr1 p0 p1 hb3 hp2 had;obtain⟨b0,b1⟩:=aR hT3.hb rfl rfl;obtain⟨u0,u1,u2,u3⟩:=dL hT3.hu rfl rfl rfl rfl;obtain⟨s0,s1⟩:=aR hT3.hs rfl rfl;obtain⟨zs0,zs1⟩:=bW hT3.hs;obtain⟨r0,r1⟩:=aR hT3.hr rfl rfl;obtain⟨zr0,zr1⟩:=bW hT3.hr;go_wp2;refine bodyPost_ret (v:= .tuple #[.agg #[.int .i64 0, .slice none 0 0], .agg #[.int .i64 0, .int .i64 0], .int .i64 (lT ps pL mn mx us co)]) (by simp[results,Tryz.results47,go_sem,s0,s1,r0,r1]) rfl ?_;exact oI.err hne.out (hT3.fin _ _ _ _)
 ·have hne:Hid (jV t ps id up z mn mx us co=bX t ps id up z/\bX t ps id up z≠0):=⟨if_pos hne0,hne0⟩;go_wp2_with fail;refine hnr.mono ?_;rintro e w1 ⟨rfl,hb1⟩;have hT1:=hT0.later hb1;clear b0 b1 u0 u1 u2 u3 s0 s1 zs0 zs1 r0 r1 zr0 zr1 hb1 hnr;go_upto_region 2 with fail
  obtain⟨w2,hw2⟩:∃w2,w2=w1.alloc (.cells #[.int .i64 pA, .int .i64 pL] 26):=⟨_,rfl⟩;rw[<-hw2];have hT2:PX w w2 t mn mx us co (.slice x n c):=by rw[hw2];exact hT1.later (bl1 _ _)
  clear hw2;obtain⟨b0,b1⟩:=aR hT2.hb rfl rfl;obtain⟨u0,u1,u2,u3⟩:=dL hT2.hu rfl rfl rfl rfl;obtain⟨s0,s1⟩:=aR hT2.hs rfl rfl;obtain⟨zs0,zs1⟩:=bW hT2.hs;obtain⟨r0,r1⟩:=aR hT2.hr rfl rfl;obtain⟨zr0,zr1⟩:=bW hT2.hr;go_wp2;refine bodyPost_ret (v:= .tuple #[.agg #[.int .i64 0, .slice none 0 0], .agg #[.int .i64 0, .int .i64 0], .int .i64 (bX t ps id up z)]) (by simp[results,Tryz.results47,go_sem,s0,s1,r0,r1]) rfl ?_;exact oI.err hne.out (hT2.fin _ _ _ _)
theorem NQ(w:World):Calls Tryz.prog 19 #[] w fun e w'=>e= .returned (.agg #[.int .i64 8, .int .i64 16, .int .i64 12, .int .i64 3])/\Below w.heap.size w w':=by
 go_enter Tryz.func19,Tryz.ntmps19;go_wp2;refine bodyPost_ret (v:= .agg #[.int .i64 8, .int .i64 16, .int .i64 12, .int .i64 3]) (by simp[results,Tryz.results19,go_sem]) rfl ⟨rfl,?_⟩;exact bl1 w _
open Go.ChangeShapes Go.WideShapes Go.ChangeAt Go.RowKit Go.Joins
theorem YK:Tryz.prog.cellsOf 32=4:=by kernel_rfl
section
variable {H : Type} {enc : TypeId × Value → H} {w : World}
theorem mI{α:Type}{xs:List α}{m i:Nat}(h:xs.length=m)(hi:i<m):(xs[i]?).isSome=true:=by
 rw[List.getElem?_eq_getElem (by omega)];rfl
end
theorem G2{g:Nat->Bool}(h:∀i,i<n->f i=g i):(List.range n).all f=(List.range n).all g:=by
 rw[Bool.eq_iff_iff,List.all_eq_true,List.all_eq_true];exact⟨fun k i hi=>by rw[<-h i (List.mem_range.1 hi)];exact k i hi,fun k i hi=>by rw[h i (List.mem_range.1 hi)];exact k i hi⟩
theorem G3{g:Nat->Bool}(h:∀i,i<n->f i=g i):anyAt n f=anyAt n g:=by
 unfold anyAt;rw[Bool.eq_iff_iff,List.any_eq_true,List.any_eq_true];exact⟨fun⟨i,hi,k⟩=>⟨i,hi,by rw[<-h i (List.mem_range.1 hi)];exact k⟩,fun⟨i,hi,k⟩=>⟨i,hi,by rw[h i (List.mem_range.1 hi)];exact k⟩⟩
def G4(p q:Po):Prop:=p.id=q.id/\p.up=q.up/\p.a=q.a/\p.l=q.l/\p.mn=q.mn/\p.mx=q.mx/\p.us=q.us/\p.co=q.co
def iK(ps qs:List Po):Prop:=ps.length=qs.length/\∀i,i<ps.length->G4 (poAt ps i) (poAt qs i)
theorem nA.head(h:nA p q):G4 p q:=⟨h.1,h.2.1,h.2.2.1,h.2.2.2.1,h.2.2.2.2.1,h.2.2.2.2.2.1,h.2.2.2.2.2.2.1,h.2.2.2.2.2.2.2.1⟩
theorem CT(h:iK ps qs)(id:Int):aO qs id=aO ps id:=by
 by_cases h1:aO ps id<0
 ·have h2:=jF h1;rw[sC (ps:=ps) h2,sC];intro j hj;rw[<-h.1]at hj;rw[<-(h.2 j hj).1];exact h2 j hj
 ·obtain⟨i,hi,hat, -⟩:=aX h1;obtain⟨-,h3,h4⟩:=rE hat;rw[hat];refine nS (by rw[<-h.1];exact hi) (by rw[<-(h.2 i hi).1];exact h3) (fun j hj=>?_);rw[<-(h.2 j (by omega)).1];exact h4 j hj
theorem zO(h:iK ps qs):lQ qs.length qs=lQ ps.length ps:=by
 unfold lQ pO;rw[<-h.1];congr 1
 ·refine G2 fun i hi=>?_;unfold nZ;rw[(h.2 i hi).1,(h.2 (i- 1) (by omega)).1]
 ·congr 1;refine G3 fun i hi=>?_;rw[(h.2 i hi).1]
theorem uQ(h:iK ps qs):gF qs=gF ps:=by
 unfold gF;rw[<-h.1];refine G2 fun i hi=>?_;obtain⟨-,h2,h3,h4, -⟩:=h.2 i hi;unfold mH;rw[h2,h3,h4];congr 2;refine G3 fun j hj=>?_;obtain⟨-,g2,g3,g4, -⟩:=h.2 j (by omega);unfold iX;rw[g2,g3,g4]
theorem RD(h:iK ps qs)(t id:Int)(e:Le):rC t qs id e=rC t ps id e:=by
 unfold rC;rw[CT h];by_cases h1:e.kd=1
 ·rw[if_pos h1,if_pos h1]
 ·rw[if_neg h1,if_neg h1];by_cases h2:e.kd=2
  ·rw[if_pos h2,if_pos h2];by_cases h3:aO ps e.ow<0
   ·rw[if_pos h3,if_pos h3]
   ·rw[if_neg h3,if_neg h3];obtain⟨i,hi,hat, -⟩:=aX h3;rw[hat];obtain⟨-,g2,g3,g4, -⟩:=h.2 i hi;unfold YF;rw[Int.toNat_natCast,g2,g3,g4]
  ·rw[if_neg h2,if_neg h2]
theorem fQ(hi:i<ls.length):aN ls i∈ls:=by
 unfold aN;rw[zF,List.getElem?_eq_getElem hi];exact List.getElem_mem hi
theorem oJ{e:Le}(h:e∈ls):∃i,i<ls.length/\aN ls i=e:=by
 obtain⟨i,hi,rfl⟩:=List.mem_iff_getElem.1 h;exact⟨i,hi,by unfold aN;rw[zF,List.getElem?_eq_getElem hi];rfl⟩
theorem mJ{id:Int}(hn:ls.length=n):anyAt n (gL ls id)=true↔∃e∈ls,e.kd=2/\e.ow=id:=by
 constructor
 ·intro h;obtain⟨i,hi,hf, -⟩:=yP h;unfold gL at hf;simp only[zH,beq_iff_eq]at hf;exact⟨_,fQ (by omega),hf⟩
 ·rintro⟨e,he,h1,h2⟩;obtain⟨i,hi,rfl⟩:=oJ he;refine bR (k:=i) (by rw[<-hn];exact hi) ?_;unfold gL;rw[h1,h2];simp
def cG(ps:List Po):Prop:=∀i,i<ps.length->(poAt ps i).ls.length=(poAt ps i).n
theorem RE(h:iK ps qs)(hp:cG ps)(hq:cG qs)(h2:∀k,k<ps.length->∀e∈(poAt ps k).ls,e.kd=2->e∈(poAt qs k).ls)(f:Nat):
  ∀p q:Po,G4 p q->lL ps f p=true->lL qs f q=true:=by
 induction f with
 |zero=>intro p q _ h1;cases h1
 |succ f ih=>
  intro p q hpq h1
  obtain⟨e1,e2, -⟩:=hpq
  unfold lL at h1⊢
  rw[<-e1,<-e2]
  by_cases c1:p.up=0
  ·rw[if_pos c1]
  ·rw[if_neg c1]at h1⊢;rw[CT h];by_cases c2:aO ps p.up<0
   ·rw[if_pos c2]at h1;cases h1
   ·rw[if_neg c2]at h1⊢;obtain⟨i,hi,hat, -⟩:=aX c2;rw[hat]at h1⊢;rw[Int.toNat_natCast]at h1⊢;by_cases c3:anyAt (poAt ps i).n (gL (poAt ps i).ls p.id)=true
    ·rw[if_pos c3]at h1;obtain⟨e,he,k1,k2⟩:=(mJ (hp i hi)).1 c3;rw[if_pos ((mJ (hq i (by rw[<-h.1];exact hi))).2 ⟨e,h2 i hi e he k1,k1,k2⟩)];exact ih _ _ (h.2 i hi) h1
    ·rw[if_neg c3]at h1;cases h1
theorem pS(hn:p.ls.length=p.n):BW t ps p=true↔∀e∈p.ls,rC t ps p.id e=true:=by
 unfold BW;rw[List.all_eq_true];constructor
 ·intro h e he;obtain⟨i,hi,rfl⟩:=oJ he;exact h i (List.mem_range.2 (by omega))
 ·intro h i hi;exact h _ (fQ (by have:=List.mem_range.1 hi;omega))
theorem pT(hc:aS t ps=0)(hT0:0<=T)(hT1:T<=1073741824)(h:iK ps qs)(hp:cG ps)(hq:cG qs)(hn:∀k,k<ps.length->(poAt qs k).n<=32)(hU:∀k,k<ps.length->nP (lp (poAt qs k).ls) (poAt ps k).a (poAt ps k).l)
 (h2:∀k,k<ps.length->∀e∈(poAt ps k).ls,e.kd=2->e∈(poAt qs k).ls)(hL:∀k,k<ps.length->∀e∈(poAt qs k).ls,rC T ps (poAt ps k).id e=true):aS T qs=0:=by
 obtain⟨h8, -,hi,ht,hpo⟩:=gN hc;refine EM (by rw[<-h.1];exact h8) ?_;have hw:dE T 0 1073741824=true:=by unfold dE;simp[hT0,hT1]
 rw[hw,zO h,hi,uQ h,ht];simp only[Bool.true_and];refine uN fun j hj=>?_;have hj2:j<ps.length:=by rw[h.1];exact hj
 obtain⟨p1,p2,p3,p4⟩:=eH (hpo j hj2);obtain⟨e1,e2,e3,e4,e5,e6,e7,e8⟩:=h.2 j hj2;obtain⟨-,hrt, -⟩:=gV p1;unfold kT;have k1:kM (poAt qs j).a (poAt qs j).l (poAt qs j).n (lp (poAt qs j).ls)=0:=by
  unfold kM;rw[if_neg (by have:=hn j hj2;omega),<-e3,<-e4,hrt,GE (hU j hj2)];rfl
 have k3:lL qs qs.length (poAt qs j)=true:=by
  rw[<-h.1];exact RE h hp hq h2 _ _ _ (h.2 j hj2) p3
 have k4:BW T qs (poAt qs j)=true:=(pS (hq j hj)).2 fun e he=>by
  rw[RD h,<-e1];exact hL j hj2 e he
 rw[k1,k3,k4,<-e4,<-e5,<-e6,<-e7,<-e8,p2];rfl
theorem G5{f:Le->Bool}(h:nP (lp ls) a l):nP (lp (ls.filter f)) a l:=by
 unfold lp at h⊢;refine⟨fun u hu=>?_,?_⟩
 ·obtain⟨e,he,rfl⟩:=List.mem_map.1 hu;exact h.inn _ (List.mem_map.2 ⟨e,(List.mem_filter.1 he).1,rfl⟩)
 ·have:=h.rise;rw[List.pairwise_map]at this⊢;exact this.filter f
theorem lU(hc:aS t ps=0)(i:Nat)(hi:i<ps.length):nP (lp (poAt ps i).ls) (poAt ps i).a (poAt ps i).l:=by
 obtain⟨-, -, -, -,hp⟩:=gN hc;exact LJ (gV (eH (hp i hi)).1).2.2
theorem JQ{m:Int}(hc:aS t ps=0)(hf:cG ps)(hm:1<=m)(hm1:t+m<=1073741824)(hs:cB ps qs)(hp:lD (t+m) qs qs.length rs):
  aS (t+m) rs=0/\iK ps rs/\cG rs/\∀k,k<ps.length->(poAt rs k).ls=jT (t+m) (poAt ps k).ls:=by
 have hl:∀k,k<ps.length->k<qs.length:=fun k hk=>by rw[<-hs.1];exact hk
 have hls:∀k,k<ps.length->(poAt rs k).ls=jT (t+m) (poAt ps k).ls/\(poAt rs k).n=(jT (t+m) (poAt ps k).ls).length/\G4 (poAt ps k) (poAt rs k):=fun k hk=>by
  obtain⟨x,c,e⟩:=(hp.2 k (hl k hk)).1 (hl k hk);rw[e,(hs.2 k hk).2.2.2.2.2.2.2.2.2];exact⟨rfl,rfl,(hs.2 k hk).head⟩
 have hH:iK ps rs:=⟨hs.1.trans hp.1.symm,fun k hk=>(hls k hk).2.2⟩;have hF:cG rs:=fun k hk=>by
  have hk2:k<ps.length:=by rw[hH.1];exact hk
  rw[(hls k hk2).1,(hls k hk2).2.1]
 obtain⟨-,⟨ht0,ht1⟩, -, -,hpo⟩:=gN hc;refine⟨pT hc (by omega) hm1 hH hf hF (fun k hk=>?_) (fun k hk=>?_) (fun k hk e he h2=>?_) (fun k hk e he=>?_),hH,hF,fun k hk=>(hls k hk).1⟩
 ·rw[(hls k hk).2.1];have h1:=(iC hc k hk).1;have h2:=List.length_filter_le (fun e=>!oF (t+m) e) (poAt ps k).ls;have h3:=hf k hk;unfold jT;omega
 ·rw[(hls k hk).1];exact G5 (lU hc k hk)
 ·rw[(hls k hk).1];refine List.mem_filter.2 ⟨he,?_⟩;unfold oF;rw[h2];rfl
 ·rw[(hls k hk).1]at he;obtain⟨he1,he2⟩:=List.mem_filter.1 he;have h4:=(pS (hf k hk)).1 (eH (hpo k hk)).2.2.2 e he1;unfold rC at h4⊢;by_cases c1:e.kd=1
  ·rw[if_pos c1]at h4⊢;exact h4
  ·rw[if_neg c1]at h4⊢;by_cases c2:e.kd=2
   ·rw[if_pos c2]at h4⊢;exact h4
   ·rw[if_neg c2]at h4⊢;by_cases c3:e.kd=3
    ·rw[if_pos c3]at h4⊢;unfold oF at he2;rw[c3]at he2;simp only[zH,decide_eq_true_eq,beq_self_eq_true,Bool.true_and,Bool.not_eq_true',decide_eq_false_iff_not]at h4 he2⊢;exact⟨h4.1,by omega,by omega⟩
    ·rw[if_neg c3]at h4;cases h4
theorem G6(hc:aS t ps=0)(hi:i<ps.length)(h:dR (poAt ps i) z=0):
  ∃x,dS (poAt ps i) z=(x,z)/\F5 (lp (poAt ps i).ls) (poAt ps i).a (poAt ps i).l z x/\∀y,F5 (lp (poAt ps i).ls) (poAt ps i).a (poAt ps i).l z y->x<=y:=by
 obtain⟨-, -, -, -,hp⟩:=gN hc;obtain⟨h1,h2, -, -⟩:=eH (hp i hi);obtain⟨r1,r2,r3,r4, -, -⟩:=EO h2;obtain⟨-,hrt, -⟩:=gV h1;unfold dR at h;unfold dS;by_cases hz:z<(poAt ps i).mn\/(poAt ps i).mx<z
 ·rw[if_pos hz]at h;cases h
 ·rw[if_neg hz]at h⊢
  cases hq:oB (poAt ps i) z with
  |none=>rw[hq]at h;cases h
  |some y=>
   refine⟨y,rfl,?_⟩
   unfold oB at hq
   by_cases hn:(poAt ps i).n=32
   ·rw[if_pos hn]at hq;cases hq
   ·rw[if_neg hn]at hq;unfold uE at hq;have hE:uD (poAt ps i).a (poAt ps i).l (poAt ps i).n (lp (poAt ps i).ls) z=0:=by
     unfold uD;rw[if_pos h1,if_neg (by omega)]
    rw[if_pos hE]at hq;have hF:=U0 (z:=z) (EA (lp (poAt ps i).ls) (16- (poAt ps i).l).toNat (poAt ps i).a (poAt ps i).l hrt (by omega)) (by omega);rw[hq]at hF;exact hF
theorem aAy{id ow:Int}(h:cE t ps id z ow=0):aS t ps=0/\¬aO ps id<0/\dE ow 1 65536=true/\dR (poAt ps (aO ps id).toNat) (jR (poAt ps (aO ps id).toNat) z)=0:=by
 unfold cE at h;by_cases h1:aS t ps=0
 ·rw[if_neg (by simp[h1])]at h;by_cases h2:aO ps id<0
  ·rw[if_pos h2]at h;cases h
  ·rw[if_neg h2]at h;by_cases h3:dE ow 1 65536=false
   ·rw[if_pos h3]at h;cases h
   ·rw[if_neg h3]at h;exact⟨h1,h2,by simpa using h3,h⟩
 ·rw[if_pos h1]at h;exact absurd h h1
theorem Bk.full(h:Bk w x n c ps):cG ps:=fun i hi=>(h.ps.leases i (by rw[<-h.ps.len];exact hi)).2.2.len
theorem dJ.full(h:dJ w base v ps ps.length):cG ps:=fun i hi=>(h.own i hi).ls.2.1
def G7(ls:List Le)(v:Int):Nat:=(ls.filter fun e=>(e.kd==1)&&I3 e.a e.l v).length
def G8(ps:List Po)(v:Int):Nat:=(ps.map fun p=>G7 p.ls v).sum
def UR(ps:List Po):Nat->Nat->Prop
 |0,q=>q<ps.length/\(poAt ps q).up=0
 |d+1,q=>q<ps.length/\(poAt ps q).up≠0/\∃r:Nat,aO ps (poAt ps q).up=r/\(∃e∈(poAt ps r).ls,e.kd=2/\e.ow=(poAt ps q).id)/\UR ps d r
theorem YL(hF:cG ps)(f:Nat):∀q,q<ps.length->lL ps f (poAt ps q)=true->∃d,UR ps d q:=by
 induction f with
 |zero=>intro q _ h;cases h
 |succ f ih=>
  intro q hq h
  unfold lL at h
  by_cases c1:(poAt ps q).up=0
  ·exact⟨0,hq,c1⟩
  ·rw[if_neg c1]at h;by_cases c2:aO ps (poAt ps q).up<0
   ·rw[if_pos c2]at h;cases h
   ·rw[if_neg c2]at h;obtain⟨r,hr,hat, -⟩:=aX c2;rw[hat,Int.toNat_natCast]at h;by_cases c3:anyAt (poAt ps r).n (gL (poAt ps r).ls (poAt ps q).id)=true
    ·rw[if_pos c3]at h;obtain⟨d,hd⟩:=ih r hr h;exact⟨d+1,hq,c1,r,hat,(mJ (hF r hr)).1 c3,hd⟩
    ·rw[if_neg c3]at h;cases h
theorem UR.lt:∀{d q:Nat},UR ps d q->q<ps.length
 |0,_,h=>h.1
 |_+1,_,h=>h.1
theorem YM(h:lQ ps.length ps=true)(i:Nat):∀d,i+d+1<ps.length->(poAt ps i).id<(poAt ps (i+d+1)).id:=by
 unfold lQ pO at h;simp only[zH]at h;have hr:=List.all_eq_true.1 h.1;have one:∀k,k+1<ps.length->(poAt ps k).id<(poAt ps (k+1)).id:=fun k hk=>by
  have:=hr (k+1) (List.mem_range.2 hk);unfold nZ at this;simpa using this
 intro d;induction d with
 |zero=>intro hd;exact one i hd
 |succ d ih=>
  intro hd
  have h1:=ih (by omega)
  have h2:=one (i+d+1) (by omega)
  rw[show i+(d+1)+1=i+d+1+1 by omega]
  omega
end Go.Proofs.YtjphnaccgfjnjaaGreatDoor
