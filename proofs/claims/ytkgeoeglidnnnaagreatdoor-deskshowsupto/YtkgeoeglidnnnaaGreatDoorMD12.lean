/- A part of the proof. -/
import Derived.Test.YtkgeoeglidnnnaaGreatDoorMD11
set_option maxRecDepth 100000
set_option maxHeartbeats 20000000
namespace Go.Proofs.YtkgeoeglidnnnaaGreatDoor
variable {n rn sn m q b i k o c vc ln base base' g bs : Nat} {vid a l p t t' E : Int} {rs : List Rg} {ss : List Sb} {w w' : World} {rx sx vx lx : Option Addr} {L M : List ((Int × Int × Int) × Int)} {ls ms : List (Int × Int)} {ps : List Po} {x : (Int × Int × Int) × Int} {ops : Array Oper} {C : World → Prop} {A : Act} {rest : List Oper} {vs us : List Vn} {ks : List (Int × Int × Int)} {v V vB vV vK : Value} {u : Vn} {cs : Array Value} {ty : TypeId}
open Go.RowKit Go.Shelf
theorem zW{f:Nat->Int}(h:∀i,i+1<n->f i<f (i+1)):∀(i k:Nat),k<i->i<n->f k<f i
 |0,k,hk,_=>by omega
 |i+1,k,hk,hi=>by
  have h1:=h i hi;by_cases e:k=i
  ·rw[e];exact h1
  ·have:=zW h i k (by omega) (by omega);omega
structure RV(vid:Int)(rn:Nat)(rs:List Rg)(sn:Nat)(ss:List Sb):Prop where
 r4:rn<=4
 s6:sn<=6
 iw:bV vid 1 65536=true
 rg:∀i,i<rn->E5 (rgAt rs i)=true
 ap:∀i k,k<i->i<rn->eD (rgAt rs k).a (rgAt rs k).l (rgAt rs i).a (rgAt rs i).l=false
 ri:∀i k,k<i->i<rn->(rgAt rs k).a<(rgAt rs i).a
 sb:∀i,i<sn->oY rn rs (aG ss i).id (aG ss i).a (aG ss i).l=true
 n8:∀i,i<sn->(aG ss i).n<=8
 n4:∀i,i<sn->∀j,j<(aG ss i).n->(fcAt (aG ss i).fs j).n<=4
 fc:∀i,i<sn->oZ (aG ss i).a (aG ss i).l (aG ss i).n (aG ss i).fs=true
 sa:∀i k,k<i->i<sn->eD (aG ss k).a (aG ss k).l (aG ss i).a (aG ss i).l=false
 si:∀i k,k<i->i<sn->(aG ss k).id<(aG ss i).id
theorem LP(hrl:rs.length=rn)(hsl:ss.length=sn)(h:bN vid rn rs sn ss=0):RV vid rn rs sn ss:=by
 obtain⟨f1,f2,f3,f4⟩:=jK h;obtain⟨g1,g2,g3⟩:=mF h;unfold yD at g2;unfold wH at g3;rw[zH,cB]at g2 g3;have e1:∀i,i<rn->E5 (rgAt rs i)=true/\anyAt i (JM rs (rgAt rs i).a (rgAt rs i).l)=false:=fun i hi=>by
  have:=g2.1 i hi;unfold vH at this;simpa using this
 have e2:∀i,i<sn->(oY rn rs (aG ss i).id (aG ss i).a (aG ss i).l=true/\anyAt i (AX ss (aG ss i).a (aG ss i).l)=false)/\oZ (aG ss i).a (aG ss i).l (aG ss i).n (aG ss i).fs=true:=fun i hi=>by
  have:=g3.1 i hi;unfold nS at this;simpa using this
 refine⟨f1,f2,g1,fun i hi=>(e1 i hi).1,fun i k hk hi=>gT.1 (e1 i hi).2 k hk,?_,fun i hi=>(e2 i hi).1.1,f3,f4,fun i hi=>(e2 i hi).2,fun i k hk hi=>gT.1 (e2 i hi).1.2 k hk,?_⟩
 ·refine zW (f:=fun i=>(rgAt rs i).a) (fun i hi=>?_);have h2:=g2.2;unfold xZ at h2;have h3:=cB.1 h2 (i+1) (by omega);unfold rQ at h3;simpa using h3
 ·refine zW (f:=fun i=>(aG ss i).id) (fun i hi=>?_);have h2:=g3.2;unfold nO at h2;have h3:=cB.1 h2 (i+1) (by omega);unfold oO at h3;simpa using h3
structure aDb(sn:Nat)(ss:List Sb):Prop where
 subs:ss.length=sn
 fcs:∀i,i<sn->(aG ss i).fs.length=(aG ss i).n
 ads:∀i,i<sn->∀j,j<(aG ss i).n->(fcAt (aG ss i).fs j).ns.length=(fcAt (aG ss i).fs j).n
theorem Vp.lens{rc sc:Nat}(h:Vp w rx rn rc rs sx sn sc ss):aDb sn ss:=
 ⟨h.subs.len,fun i hi=>(h.subs.faces i hi).2.2.len,fun i hi j hj=>((h.subs.faces i hi).2.2.addrs j hj).2.2.len⟩
open Go.RowKit Go.Maps
abbrev LQ(p a l:Int):Value:= .agg #[.int .i64 p, .int .i64 a, .int .i64 l]
def dN(p a l:Int):Lit:= .string (keyBytes [.int .i64 p, .int .i64 a, .int .i64 l])
theorem ON:laidOutB Tryz.prog=true:=by kernel_rfl
theorem OO:(match Tryz.prog.underlying 126 with |some (.array _ _)|some (.struct _)=>true|_=>false)=true:=by kernel_rfl
theorem S3:(126:TypeId)<Tryz.prog.types.size:=of_decide_eq_true (by kernel_rfl)
theorem OP:Tryz.prog.keyTypeAt 3 126=true:=by kernel_rfl
theorem lF:Keyed Tryz.prog 126:=Keyed.of_law (deep_law_laid ON (m:=3) (by omega) S3 OP OO)
theorem OQ:∃m,Tryz.prog.types.size=m+3:=⟨Tryz.prog.types.size- 3,by kernel_rfl⟩
theorem zX:Tryz.prog.cellsOf 126=3:=by kernel_rfl
theorem vL:Tryz.prog.cellsOf 53=2:=by kernel_rfl
theorem vM:Tryz.prog.cellsOf 3=1:=by kernel_rfl
theorem OR:Tryz.prog.keyType 126=true:=by kernel_rfl
theorem S4(ha:(Lit.int .i64 a).wf=true)(hl:(Lit.int .i64 l).wf=true):Tryz.prog.keyLits (m+2) 53 [.int .i64 a, .int .i64 l]=some [.int .i64 a, .int .i64 l]:=by
 unfold Program.keyLits;simp only[Tryz.underlying53];rw[if_pos ⟨by rw[vL];rfl,by kernel_rfl⟩];simp[vM,Program.keyLits,Tryz.underlying3,ha,hl]
theorem OS(hp:(Lit.int .i64 p).wf=true)(ha:(Lit.int .i64 a).wf=true)(hl:(Lit.int .i64 l).wf=true):Tryz.prog.keyLits (m+3) 126 [.int .i64 p, .int .i64 a, .int .i64 l]=some [.int .i64 p, .int .i64 a, .int .i64 l]:=by
 unfold Program.keyLits;simp only[Tryz.underlying126];rw[if_pos ⟨by rw[zX];rfl,by kernel_rfl⟩];have h1:Tryz.prog.keyLits (m+2) 3 [.int .i64 p]=some [.int .i64 p]:=by simp[Program.keyLits,Tryz.underlying3,hp]
 have h2:=S4 (m:=m) ha hl;simp[vM,vL,h1,h2]
theorem oE(hp:(Lit.int .i64 p).wf=true)(ha:(Lit.int .i64 a).wf=true)(hl:(Lit.int .i64 l).wf=true):keyOf Tryz.prog 126 (LQ p a l)=some (dN p a l):=by
 obtain⟨m,hm⟩:=OQ;have h1:=OS (m:=m+1) hp ha hl;have h2:(LQ p a l).formed Tryz.prog 126=true:=by simp[Value.formed,Tryz.underlying126,zX]
 unfold keyOf dN;simp only[Tryz.underlying126];rw[if_pos (by rw[OR,h2];rfl),hm];show Option.map _ (Tryz.prog.keyLits (m+1+3) 126 [.int .i64 p, .int .i64 a, .int .i64 l])=_;rw[h1];rfl
theorem oF{q b m:Int}(hp:(Lit.int .i64 p).wf=true)(ha:(Lit.int .i64 a).wf=true)(hl:(Lit.int .i64 l).wf=true)(hq:(Lit.int .i64 q).wf=true)(hb:(Lit.int .i64 b).wf=true)(hm:(Lit.int .i64 m).wf=true)(h:dN p a l=dN q b m):p=q/\a=b/\l=m:=by
 have h1:=oE hp ha hl;have h2:=oE hq hb hm;rw[<-h]at h2;have:=lF.inj h1 h2;simpa using this
open Go.RowKit Go.Shelf Go.Maps
def keyB(p a l:Int)(x:(Int×Int×Int)×Int):Bool:=decide (x.1=(p,a,l))
def mZ(L:List ((Int×Int×Int)×Int))(p a l:Int):Int:=match L.find? (keyB p a l)with |some x=>x.2|none=>0
def LR(p a l:Int):Prop:=(Lit.int .i64 p).wf=true/\(Lit.int .i64 a).wf=true/\(Lit.int .i64 l).wf=true
structure ID(D:DataW Unit)(L:List ((Int×Int×Int)×Int)):Prop where
 isMap:IsMap D
 at_:∀p a l,LR p a l->D.atKey (dN p a l) (.lit (.int .i64 0))= .lit (.int .i64 (mZ L p a l))
 has_:∀p a l,LR p a l->has D (dN p a l)=L.any (keyB p a l)
 only:∀kl,has D kl=true->∃x∈L,kl=dN x.1.1 x.1.2.1 x.1.2.2
 wfs:∀x∈L,LR x.1.1 x.1.2.1 x.1.2.2
theorem ID.empty:ID (.map []) []:=⟨isMap_empty,fun _ _ _ _=>rfl,fun _ _ _ _=>rfl,(fun _ h=>by cases h),(fun _ h=>by cases h)⟩
theorem ID.put{D:DataW Unit}(h:ID D L){p a l:Int}(o:Int)(hw:LR p a l):ID (D.put (dN p a l) (.lit (.int .i64 o))) (((p,a,l),o)::L) where
 isMap:=h.isMap.put _ _
 at_:=fun q b m hq=>by
  by_cases e:p=q/\a=b/\l=m
  ·obtain⟨rfl,rfl,rfl⟩:=e;rw[atKey_put_same h.isMap (by trivial)];simp[mZ,keyB]
  ·have hne:dN q b m≠dN p a l:=fun e2=>by
    obtain⟨h1,h2,h3⟩:=oF hq.1 hq.2.1 hq.2.2 hw.1 hw.2.1 hw.2.2 e2;exact e ⟨h1.symm,h2.symm,h3.symm⟩
   rw[atKey_put_other hne,h.at_ q b m hq];have hk:keyB q b m ((p,a,l),o)=false:=by
    unfold keyB;rw[decide_eq_false];intro e3;simp only[Prod.mk.injEq]at e3;exact e e3
   simp[mZ,hk]
 has_:=fun q b m hq=>by
  by_cases e:p=q/\a=b/\l=m
  ·obtain⟨rfl,rfl,rfl⟩:=e;rw[has_put_same h.isMap (by trivial)];simp[keyB]
  ·have hne:dN q b m≠dN p a l:=fun e2=>by
    obtain⟨h1,h2,h3⟩:=oF hq.1 hq.2.1 hq.2.2 hw.1 hw.2.1 hw.2.2 e2;exact e ⟨h1.symm,h2.symm,h3.symm⟩
   rw[has_put_other hne,h.has_ q b m hq];have hk:keyB q b m ((p,a,l),o)=false:=by
    unfold keyB;rw[decide_eq_false];intro e3;simp only[Prod.mk.injEq]at e3;exact e e3
   simp[hk]
 only:=fun kl h1=>by
  by_cases e:kl=dN p a l
  ·exact⟨_,List.mem_cons_self,e⟩
  ·rw[has_put_other e]at h1;obtain⟨x,hx,h2⟩:=h.only kl h1;exact⟨x,List.mem_cons_of_mem _ hx,h2⟩
 wfs:=fun x hx=>by
  rcases List.mem_cons.1 hx with rfl|hx
  ·exact hw
  ·exact h.wfs x hx
def fP(id:Int)(ls:List Le):List ((Int×Int×Int)×Int):=((ls.filter fun e=>e.kd==1).map fun e=>((id,e.a,e.l),e.ow)).reverse
def bL(ps:List Po):List ((Int×Int×Int)×Int):=ps.reverse.flatMap fun p=>fP p.id p.ls
theorem OT{ls:List Le}(h:i<ls.length):leAt ls i=ls[i]:=by unfold leAt;rw[zF,List.getElem?_eq_getElem h];rfl
theorem KA{id:Int}{ls:List Le}(h:q<ls.length):fP id (ls.take (q+1))=if(leAt ls q).kd=1 then((id,(leAt ls q).a,(leAt ls q).l),(leAt ls q).ow)::fP id (ls.take q)else fP id (ls.take q):=by
 unfold fP;rw[List.take_add_one,List.getElem?_eq_getElem h,OT h,Option.toList_some,List.filter_append];by_cases c:ls[q].kd=1
 ·rw[if_pos c];simp[c]
 ·rw[if_neg c];simp[c]
theorem KB(h:k<ps.length):bL (ps.take (k+1))=fP (poAt ps k).id (poAt ps k).ls++bL (ps.take k):=by
 unfold bL;rw[List.take_add_one,List.getElem?_eq_getElem h,bJ h,Option.toList_some,List.reverse_append];simp
theorem CQ{id:Int}{ls:List Le}:(fP id ls).length<=ls.length:=by
 unfold fP;rw[List.length_reverse,List.length_map];exact List.length_filter_le _ _
theorem mK:Tryz.prog.underlying 123=some (.map 126 3):=by kernel_rfl
theorem kL(t:Int)(x:Option Addr)(n c:Nat)(ps:List Po)(w:World)(hp:kS w x n ps)(hn:n<=64)(hm:∀k,k<n->(poAt ps k).n<=64)
 (hW:∀k,k<n->∀q,q<(poAt ps k).n->LR (poAt ps k).id (leAt (poAt ps k).ls q).a (leAt (poAt ps k).ls q).l/\(Lit.int .i64 (leAt (poAt ps k).ls q).ow).wf=true):
  Calls Tryz.prog 54 #[.agg #[.int .i64 t, .slice x n c]] w fun e w'=>∃bm D,e= .returned (.map (some bm))/\w.heap.size<=bm/\w'.ownsMap Tryz.prog 126 (plainElem Tryz.prog 3) bm (bL ps).length D/\ID D (bL ps)/\Below w.heap.size w w':=by
 have hmm:= @run_makeMap Tryz.prog;have hpl:Hid (ps.length=n):=hp.len;go_enter Tryz.func54,Tryz.ntmps54;go_wp2;go_loopw [12] (fun i wr=>∃(k:Nat) (D:DataW Unit),k<=n/\i= .int .i64 k/\Below w.heap.size w wr/\wr.ownsMap Tryz.prog 126 (plainElem Tryz.prog 3) (w.heap.size+1) (bL (ps.take k)).length D/\ID D (bL (ps.take k))/\(bL (ps.take k)).length<=k*64) (fun i _=>n- (intOf i).toNat)
 case atStart=>
  refine⟨0, .map [],by omega,rfl,?_,?_,?_,?_⟩
  ·exact bP w _ _
  ·have:=World.ownsMap_made (H:=Unit) (w.alloc (QJ t x n c)) Tryz.prog 126 (plainElem Tryz.prog 3);simpa[bL]using this
  ·exact ID.empty
  ·simp[bL]
 case round=>
  obtain⟨k,D,hk,rfl,hB,hO,hC,hL⟩:=hrel
  by_cases hlt:k<n
  ·have hlt':Hid (k<n):=hlt;have hpr:=hp.later hB;obtain⟨b,o,rfl,c0,c1,c2,c3,c4,c5,c6,c7,c8⟩:=hpr.cells k hlt;have hI:=(hp.leases k hlt).2.2;have hm1:=hm k hlt;have hW1:=hW k hlt;have hsz:=hB.size;have hst:Hid (bL (ps.take (k+1))=fP (poAt ps k).id (poAt ps k).ls++bL (ps.take k)):=KB (by rw[hpl.out];exact hlt);generalize hf:poAt ps k=f at*;clear hf;go_wp2;obtain⟨wo,rfl⟩:∃wo,wo=wr:=⟨_,rfl⟩;clear c0 c1 c2 c3 c4 c5 c6 c7 c8;have hol:Hid (w.heap.size+1<wo.heap.size):=hO.lt;go_loopw [19] (fun i wr=>∃(q:Nat) (D:DataW Unit),q<=f.n/\i= .int .i64 q/\Below w.heap.size w wr/\wr.heap[wo.heap.size]?=some (oL f)/\wr.ownsMap Tryz.prog 126 (plainElem Tryz.prog 3) (w.heap.size+1) (fP f.id (f.ls.take q)++bL (ps.take k)).length D/\ID D (fP f.id (f.ls.take q)++bL (ps.take k))) (fun i _=>f.n- (intOf i).toNat)
   case atStart=>exact⟨0,D,by omega,rfl,hB.trans ((bl1 wo _).mono hsz),aB _ rfl,by simpa[fP]using hO.alloc _,by simpa[fP]using hC⟩
   case round=>
    obtain⟨q,D2,hq,rfl,hB2,hbx,hO2,hC2⟩:=hrel
    by_cases hq2:q<f.n
    ·have hq':Hid (q<f.n):=hq2;obtain⟨b2,o2,hx2,d0,d1,d2,d3,d4⟩:=(hI.later hB2).cells q hq2;have hst2:=KA (id:=f.id) (ls:=f.ls) (q:=q) (by rw[hI.len];exact hq2);have hL2:Hid ((fP f.id (f.ls.take q)++bL (ps.take k)).length<=k*64+64):=by
      show _<=_;rw[List.length_append];have:=CQ (id:=f.id) (ls:=f.ls.take q);rw[List.length_take]at this;omega
     obtain⟨hw3,hwo⟩:=hW1 q hq2;have hkey:keyOf Tryz.prog 126 (LQ f.id (leAt f.ls q).a (leAt f.ls q).l)=some (dN f.id (leAt f.ls q).a (leAt f.ls q).l):=oE hw3.1 hw3.2.1 hw3.2.2;generalize hLd:fP f.id (f.ls.take q)++bL (ps.take k)=L at*;have hmx:L.length<maxLen:=by have:=hL2.out;unfold maxLen;omega
     rw[hx2];generalize leAt f.ls q=e at*;obtain⟨ea,el,ek,eo,eu⟩:=e;simp only at*;have hbx2:=aH (tC ⟨ea,el,ek,eo,eu⟩) hbx;have hO3:=hO2.alloc (tC ⟨ea,el,ek,eo,eu⟩);have hB3:=hB2.alloc hB2.size (tC ⟨ea,el,ek,eo,eu⟩);obtain⟨kb, -⟩:=aD hbx2;have kb0:=kb 0;by_cases hkd:ek=1
     ·subst hkd;rw[if_pos rfl]at hst2;go_wp2_with (first
       |(at_mapUpdate;refine wpList_mapUpdate_own _ rfl _ _ _ 123 rfl 126 3 lF mK _ (w.heap.size+1) _ _ rfl hO3 hmx _ _ _ rfl rfl hkey _ [] (plainElem_int under_int hwo) ?_;intro w1 hown1 hgrow1)
       |go_in)
      have hP:=hC2.put eo hw3;have hsz3:=hB3.size;go_roundw
      case rel=>
       refine⟨q+1,D2.put (dN f.id ea el) (.lit (.int .i64 eo)),hq'.out,by go_num,hB3.grown hgrow1 hB3.size (fun j hj=>by cases hj;omega),eX hgrow1 hbx2 (by have:=hol.out;omega),?_,?_⟩
       ·rw[hst2,List.cons_append,hLd];exact hown1
       ·rw[hst2,List.cons_append,hLd];exact hP
      case measure=>simp[intOf];have:=hq'.out;omega
     ·rw[if_neg hkd]at hst2;have hkd':(ek==1)=false:=by simpa using hkd
      go_wp2;go_roundw
      case rel=>exact⟨q+1,D2,hq'.out,by go_num,hB3,hbx2,by rw[hst2,hLd];exact hO3,by rw[hst2,hLd];exact hC2⟩
      case measure=>simp[intOf];have:=hq'.out;omega
    ·obtain rfl:q=f.n:=by omega
     have e:f.ls.take f.n=f.ls:=by rw[<-hI.len,List.take_length]
     rw[e,<-hst.out]at hO2 hC2;go_wp2;go_roundw
     case rel=>
      refine⟨k+1,D2,hlt'.out,by go_num,hB2,hO2,hC2,?_⟩
      rw[hst.out,List.length_append]
      have:=CQ (id:=f.id) (ls:=f.ls)
      rw[hI.len]at this
      omega
     case measure=>simp[intOf];have:=hlt'.out;omega
  ·obtain rfl:k=n:=by omega
   have e:ps.take k=ps:=by rw[<-hpl.out,List.take_length]
   rw[e]at hO hC;go_wp2;go_ret;exact⟨_,D,rfl,by omega,hO,hC,hB⟩
def uE(L:List ((Int×Int×Int)×Int))(id:Int):Bool:=L.any fun x=>decide (mZ L x.1.1 x.1.2.1 x.1.2.2=id)
theorem CR(bm m:Nat)(D:DataW Unit)(L:List ((Int×Int×Int)×Int))(id:Int)(w:World)(hO:w.ownsMap Tryz.prog 126 (plainElem Tryz.prog 3) bm m D)(hC:ID D L):
  Calls Tryz.prog 55 #[.map (some bm), .int .i64 id] w fun e w'=>e= .returned (.bool (uE L id))/\Below w.heap.size w w':=by
 have hDb:Hid (ID D L):=hC;go_enter Tryz.func55,Tryz.ntmps55;go_wp2_with (first|(at_range;refine wpList_range_own _ rfl _ 123 rfl 126 3 lF mK _ bm m D rfl hO ?_;intro w0 hrg0 hg0 hs0)|go_in)
 go_frame;go_loopw [] (fun wr=>∃left cnt,wr.ranges Tryz.prog 126 (plainElem Tryz.prog 3) bm w.heap.size m D left cnt/\Below w.heap.size w wr/\(∀x∈L,left (dN x.1.1 x.1.2.1 x.1.2.2)=true\/mZ L x.1.1 x.1.2.1 x.1.2.2≠id)) (fun wr=>wr.rangeLeft bm w.heap.size)
 case atStart=>exact⟨_,_,hrg0,(zD).grown hg0 (zE) (fun j hj=>by cases hj),fun x hx=> .inl (by rw[hDb.out.has_ _ _ _ (hDb.out.wfs x hx)];exact List.any_eq_true.2 ⟨x,hx,by unfold keyB;simp⟩)⟩
 case round=>
  obtain⟨left,cnt,hrg,hB,hall⟩:=hrel
  go_wp2_with (first
   |(at_next;refine wpList_next_ranges (α:=Value) (β:=Int) _ rfl _ rfl 126 lF (plainElem Tryz.prog 3) (fun x=>x) (fun c=> .int .i64 c) (fun key _ _=>⟨key,rfl⟩) (fun v y h=>(plainElem_int_inv under_int h).imp fun _ h=>h.1) bm w.heap.size m _ _ _ rfl hrg ?_ ?_)
   |go_in)
  ·intro hc0 hl0;go_wp2;go_ret;refine⟨aI ?_,hB⟩;symm;unfold uE;rw[List.any_eq_false];intro x hx;rcases hall x hx with h|h
   ·rw[hl0]at h;cases h
   ·simpa using h
  ·intro x c kl y yp w1 cnt1 hkx hlx hvc hat hrg1 hlt hg1 hs1 hen;have hB1:Below w.heap.size w w1:=hB.grown hg1 hB.size (fun j hj=>by cases hj;omega);obtain⟨z,hz,hkl⟩:=hDb.out.only kl (has_true_of_atKey hat);have hcx:mZ L z.1.1 z.1.2.1 z.1.2.2=c:=by
    have h1:=hat (.lit (.int .i64 0));rw[hkl,hDb.out.at_ _ _ _ (hDb.out.wfs z hz)]at h1;obtain⟨c',e1,e2, -⟩:=plainElem_int_inv under_int hvc
    cases e1
    cases e2
    cases h1;rfl
   by_cases hgt:c=id
   ·go_wp2;go_ret;exact⟨aI (List.any_eq_true.2 ⟨z,hz,by rw[hcx,hgt];simp⟩).symm,hB1⟩
   ·go_wp2;go_roundw
    case rel=>exact⟨_,cnt1,hrg1,hB1,fun u hu=>by
     by_cases e:dN u.1.1 u.1.2.1 u.1.2.2=kl
     ·refine .inr ?_;obtain⟨e1,e2,e3⟩:=oF (hDb.out.wfs u hu).1 (hDb.out.wfs u hu).2.1 (hDb.out.wfs u hu).2.2 (hDb.out.wfs z hz).1 (hDb.out.wfs z hz).2.1 (hDb.out.wfs z hz).2.2 (e.trans hkl);rw[e1,e2,e3,hcx];exact hgt
     ·rcases hall u hu with h|h
      ·refine .inl ?_;rw[h,sameKey_ne e];rfl
      ·exact .inr h⟩
    case measure=>rw[hrg1.left_eq,hrg.left_eq];omega
theorem eO:keyB p a l x=true↔x.1=(p,a,l):=by unfold keyB;simp
def KC(id:Int):List ((Int×Int×Int)×Int)->List (Int×Int×Int)->Option (List ((Int×Int×Int)×Int))
 |L,[]=>some L
 |L,k::ks=>if mZ L k.1 k.2.1 k.2.2=id then KC id (L.filter fun x=>!keyB k.1 k.2.1 k.2.2 x) ks else none
def AZ:List ((Int×Int×Int)×Int)->List (Int×List (Int×Int×Int))->Bool
 |_,[]=>true
 |L,v::vs=>match KC v.1 L v.2 with
  |none=>false
  |some M=>!uE M v.1&&AZ M vs
structure zY(L:List ((Int×Int×Int)×Int)):Prop where
 one:L.Pairwise fun x y=>x.1≠y.1
 pos:∀x∈L,x.2≠0
theorem zY.eq(h:zY L){x y:(Int×Int×Int)×Int}(hx:x∈L)(hy:y∈L)(e:x.1=y.1):x=y:=by
 obtain⟨i,hi,rfl⟩:=List.mem_iff_getElem.1 hx;obtain⟨j,hj,rfl⟩:=List.mem_iff_getElem.1 hy;have h1:=h.one;rw[List.pairwise_iff_getElem]at h1;rcases Nat.lt_trichotomy i j with c|c|c
 ·exact absurd e (h1 i j hi hj c)
 ·subst c;rfl
 ·exact absurd e.symm (h1 j i hj hi c)
theorem zY.filter(h:zY L)(f:(Int×Int×Int)×Int->Bool):zY (L.filter f):=⟨h.one.filter f,fun x hx=>h.pos x (List.mem_filter.1 hx).1⟩
theorem wW(h:zY L){k:Int×Int×Int}{o:Int}(ho:o≠0):mZ L k.1 k.2.1 k.2.2=o↔(k,o)∈L:=by
 unfold mZ;constructor
 ·intro g
  cases hf:L.find? (keyB k.1 k.2.1 k.2.2)with
  |none=>rw[hf]at g;exact absurd g.symm ho
  |some x=>
   rw[hf]at g
   have h1:=List.find?_some hf
   have h2:=List.mem_of_find?_eq_some hf
   rw[eO]at h1
   simp only at g
   have:x=(k,o):=by
    obtain⟨x1,x2⟩:=x;simp only at h1 g;rw[h1,g]
   rw[<-this]
   exact h2
 ·intro g
  cases hf:L.find? (keyB k.1 k.2.1 k.2.2)with
  |none=>
   have:=List.find?_eq_none.1 hf (k,o) g
   exact absurd (eO.2 rfl) this
  |some x=>
   have h1:=List.find?_some hf
   have h2:=List.mem_of_find?_eq_some hf
   rw[eO]at h1
   rw[h.eq h2 g h1]
theorem S5(h:zY L){id:Int}(hid:id≠0):uE L id=true↔∃k,(k,id)∈L:=by
 unfold uE;rw[List.any_eq_true];constructor
 ·rintro⟨x,hx,h1⟩;exact⟨x.1,(wW h hid).1 (by simpa using h1)⟩
 ·rintro⟨k,hk⟩;exact⟨(k,id),hk,by simpa using(wW h hid).2 hk⟩
theorem LT{id:Int}(hid:id≠0):∀(ks:List (Int×Int×Int)) (L:List ((Int×Int×Int)×Int)),zY L->ks.Nodup->((∃M,KC id L ks=some M)↔∀k∈ks,(k,id)∈L)/\∀M,KC id L ks=some M->zY M/\∀x,x∈M↔x∈L/\x.1∉ks
 |[],L,h,_=>⟨⟨fun _ k hk=>(by cases hk),fun _=>⟨L,rfl⟩⟩,fun M e=>by
  cases e;exact⟨h,fun x=>by simp⟩⟩
 |k::ks,L,h,hn=>by
  obtain⟨hk,hn'⟩:=List.nodup_cons.1 hn;obtain⟨g1,g2⟩:=LT hid ks (L.filter fun x=>!keyB k.1 k.2.1 k.2.2 x) (h.filter _) hn';have hmem:∀x,x∈(L.filter fun x=>!keyB k.1 k.2.1 k.2.2 x)↔x∈L/\x.1≠k:=fun x=>by
   rw[List.mem_filter];have:(!keyB k.1 k.2.1 k.2.2 x)=true↔x.1≠k:=by
    cases e:keyB k.1 k.2.1 k.2.2 x
    ·simp only[Bool.not_false,true_iff];intro e2;rw[eO.2 e2]at e
     cases e
    ·simp[eO.1 e]
   rw[this]
  unfold KC;by_cases c:mZ L k.1 k.2.1 k.2.2=id
  ·rw[if_pos c];have hkL:=(wW h hid).1 c;refine⟨?_,fun M e=>?_⟩
   ·rw[g1];constructor
    ·intro a j hj;rcases List.mem_cons.1 hj with rfl|hj
     ·exact hkL
     ·exact((hmem _).1 (a j hj)).1
    ·intro a j hj;exact(hmem _).2 ⟨a j (List.mem_cons_of_mem _ hj),fun e=>hk (e▸hj)⟩
   ·obtain⟨a1,a2⟩:=g2 M e;refine⟨a1,fun x=>?_⟩;rw[a2,hmem,List.mem_cons,not_or];exact⟨fun⟨⟨b1,b2⟩,b3⟩=>⟨b1,b2,b3⟩,fun⟨b1,b2,b3⟩=>⟨⟨b1,b2⟩,b3⟩⟩
  ·rw[if_neg c];refine⟨⟨fun⟨M,e⟩=>(by cases e),fun a=>?_⟩,fun M e=>(by cases e)⟩;exact absurd ((wW h hid).2 (a k List.mem_cons_self)) c
theorem LU:∀(vs:List (Int×List (Int×Int×Int))) (L:List ((Int×Int×Int)×Int)),zY L->(∀v∈vs,v.1≠0/\v.2.Nodup)->(vs.Pairwise fun u v=>u.1≠v.1)->(AZ L vs=true↔∀v∈vs,∀k,(k,v.1)∈L↔k∈v.2)
 |[],L,_,_,_=>⟨fun _ v hv=>(by cases hv),fun _=>rfl⟩
 |v::vs,L,h,hv,hp=>by
  obtain⟨p1,p2⟩:=List.pairwise_cons.1 hp;obtain⟨v0,vn⟩:=hv v List.mem_cons_self;obtain⟨g1,g2⟩:=LT v0 v.2 L h vn;unfold AZ
  cases hr:KC v.1 L v.2 with
  |none=>
   refine⟨fun a=>(by cases a),fun a=>?_⟩
   obtain⟨M,e⟩:=g1.2 (fun k hk=>(a v List.mem_cons_self k).2 hk)
   rw[hr]at e
   cases e
  |some M=>
   obtain⟨a1,a2⟩:=g2 M hr
   have a3:=g1.1 ⟨M,hr⟩
   have ih:=LU vs M a1 (fun u hu=>hv u (List.mem_cons_of_mem _ hu)) p2
   have hrest:∀u∈vs,∀k,(k,u.1)∈M↔(k,u.1)∈L:=fun u hu k=>by
    rw[a2];refine⟨fun b=>b.1,fun b=>⟨b,fun hk=>?_⟩⟩;have:=h.eq b (a3 k hk) rfl;simp only[Prod.mk.injEq,true_and]at this;exact p1 u hu this.symm
   simp only[zH,ih]
   have hany:(!uE M v.1)=true↔∀k,(k,v.1)∈L->k∈v.2:=by
    have hA:=S5 a1 v0;constructor
    ·intro b k hk;refine Classical.byContradiction fun c=>?_;rw[hA.2 ⟨k,(a2 _).2 ⟨hk,c⟩⟩]at b
     cases b
    ·intro b
     cases e:uE M v.1
     ·rfl
     ·obtain⟨k,hk⟩:=hA.1 e;obtain⟨c1,c2⟩:=(a2 _).1 hk;exact absurd (b k c1) c2
   rw[hany]
   constructor
   ·rintro⟨b1,b2⟩ u hu k;rcases List.mem_cons.1 hu with rfl|hu
    ·exact⟨b1 k,a3 k⟩
    ·rw[<-hrest u hu];exact b2 u hu k
   ·intro b;exact⟨fun k hk=>(b v List.mem_cons_self k).1 hk,fun u hu k=>by rw[hrest u hu];exact b u (List.mem_cons_of_mem _ hu) k⟩
theorem OU{q b m:Int}(e:¬(p=q/\a=b/\l=m)):(L.filter fun x=>!keyB p a l x).find? (keyB q b m)=L.find? (keyB q b m):=
 find_filter_keep (fun x hx=>by
  rw[eO]at hx
  cases c:keyB p a l x
  ·rfl
  ·rw[eO,hx]at c;simp only[Prod.mk.injEq]at c;exact absurd ⟨c.1.symm,c.2.1.symm,c.2.2.symm⟩ e) L
theorem OV:(L.filter fun x=>!keyB p a l x).find? (keyB p a l)=none:=by
 rw[List.find?_eq_none];intro x hx h;have:=(List.mem_filter.1 hx).2;rw[h]at this
 cases this
theorem ID.del{D:DataW Unit}(h:ID D L){p a l:Int}(hw:LR p a l):ID (D.del (dN p a l)) (L.filter fun x=>!keyB p a l x) where
 isMap:=h.isMap.del _
 at_:=fun q b m hq=>by
  by_cases e:p=q/\a=b/\l=m
  ·obtain⟨rfl,rfl,rfl⟩:=e;rw[atKey_del_same];unfold mZ;rw[OV]
  ·have hne:dN q b m≠dN p a l:=fun e2=>by
    obtain⟨h1,h2,h3⟩:=oF hq.1 hq.2.1 hq.2.2 hw.1 hw.2.1 hw.2.2 e2;exact e ⟨h1.symm,h2.symm,h3.symm⟩
   rw[atKey_del_other hne,h.at_ q b m hq];unfold mZ;rw[OU e]
 has_:=fun q b m hq=>by
  by_cases e:p=q/\a=b/\l=m
  ·obtain⟨rfl,rfl,rfl⟩:=e;rw[has_del_same];symm;rw[List.any_eq_false];intro x hx h2;have:=(List.mem_filter.1 hx).2;rw[h2]at this
   cases this
  ·have hne:dN q b m≠dN p a l:=fun e2=>by
    obtain⟨h1,h2,h3⟩:=oF hq.1 hq.2.1 hq.2.2 hw.1 hw.2.1 hw.2.2 e2;exact e ⟨h1.symm,h2.symm,h3.symm⟩
   rw[has_del_other hne,h.has_ q b m hq];symm;exact any_filter_keep (fun x hx=>by
    rw[eO]at hx
    cases c:keyB p a l x
    ·rfl
    ·rw[eO,hx]at c;simp only[Prod.mk.injEq]at c;exact absurd ⟨c.1.symm,c.2.1.symm,c.2.2.symm⟩ e) L
 only:=fun kl h1=>by
  by_cases e:kl=dN p a l
  ·rw[e,has_del_same]at h1
   cases h1
  ·rw[has_del_other e]at h1;obtain⟨x,hx,h2⟩:=h.only kl h1;refine⟨x,List.mem_filter.2 ⟨hx,?_⟩,h2⟩
   cases c:keyB p a l x
   ·rfl
   ·rw[eO]at c;rw[c]at h2;exact absurd h2 e
 wfs:=fun x hx=>h.wfs x (List.mem_filter.1 hx).1
theorem S6(w:World):(zeroValue 3).run Tryz.prog w= .ok (.int .i64 0) w:=by kernel_rfl
theorem mL{Q:Act->Prop}{o:Oper}(x y:Operand)(b n:Nat)(D:DataW Unit)(p a l c:Int)(hop:o.op= .lookup 123 x y false)(hg:Region.wanted o (yielded ops A.tmps)=true)
 (hx:A.eval x= .map (some b))(hy:A.eval y=LQ p a l)(hC:∀w,C w->w.ownsMap Tryz.prog 126 (plainElem Tryz.prog 3) b n D)(hw:LR p a l)(hat:D.atKey (dN p a l) (.lit (.int .i64 0))= .lit (.int .i64 c))
 (h:wpQuiet Tryz.prog ops C Q rest (A.put o.dst (.int .i64 c))):wpQuiet Tryz.prog ops C Q (o::rest) A:=by
 unfold wpQuiet;rw[if_pos hg];refine⟨_,fun w hw'=>?_,h⟩;obtain⟨c',hrun,hat', -⟩:=(hC w hw').lookup_int lF mK under_int (S6 w) (oE hw.1 hw.2.1 hw.2.2);have e:c'=c:=by
  rw[hat]at hat'
  cases hat';rfl
 subst e;unfold Oper.quietAt execOp;rw[hop];simp only[hx,hy,Sem.run_bind,hrun,Result.andThen_ok,Sem.run_pure];exact⟨rfl,rfl⟩
def UL(ps:List Po)(i a l o:Int):Prop:=∃p∈ps,p.id=i/\∃e∈p.ls,e.kd=1/\e.a=a/\e.l=l/\e.ow=o
theorem lG{id:Int}{ls:List Le}:x∈fP id ls↔∃e∈ls,e.kd=1/\x=((id,e.a,e.l),e.ow):=by
 unfold fP;rw[List.mem_reverse,List.mem_map];constructor
 ·rintro⟨e,he,rfl⟩;obtain⟨h1,h2⟩:=List.mem_filter.1 he;exact⟨e,h1,by simpa using h2,rfl⟩
 ·rintro⟨e,he,h1,rfl⟩;exact⟨e,List.mem_filter.2 ⟨he,by simpa using h1⟩,rfl⟩
theorem oT{i o:Int}:((i,a,l),o)∈bL ps↔UL ps i a l o:=by
 unfold bL UL;rw[List.mem_flatMap];constructor
 ·rintro⟨p,hp,hx⟩;obtain⟨e,he,h1,h2⟩:=lG.1 hx;simp only[Prod.mk.injEq]at h2;exact⟨p,List.mem_reverse.1 hp,h2.1.1.symm,e,he,h1,h2.1.2.1.symm,h2.1.2.2.symm,h2.2.symm⟩
 ·rintro⟨p,hp,rfl,e,he,h1,rfl,rfl,rfl⟩;exact⟨p,List.mem_reverse.2 hp,lG.2 ⟨e,he,h1,rfl⟩⟩
theorem OW{id:Int}{ls:List Le}(h:MJ (lp ls) a l):(fP id ls).Pairwise fun x y=>x.1≠y.1:=by
 have hr:=h.rise;unfold lp at hr;rw[List.pairwise_map]at hr;unfold fP;rw[List.pairwise_reverse,List.pairwise_map];refine(hr.filter _).imp fun{x y} hxy e=>?_;simp only[Prod.mk.injEq]at e;have:=dR x.l;simp only at hxy;omega
theorem HK(h:RB t ps):zY (bL ps):=by
 refine⟨?_,fun x hx=>?_⟩
 ·unfold bL;rw[List.pairwise_flatMap];refine⟨fun p hp=>OW (h.used p (List.mem_reverse.1 hp)),?_⟩;rw[List.pairwise_reverse];refine h.rise.imp fun{p q} hpq x hx y hy e=>?_;obtain⟨e1, -, -,rfl⟩:=lG.1 hx;obtain⟨e2, -, -,rfl⟩:=lG.1 hy;simp only[Prod.mk.injEq]at e;omega
 ·unfold bL at hx;obtain⟨p,hp,hx⟩:=List.mem_flatMap.1 hx;obtain⟨e,he,h1,rfl⟩:=lG.1 hx;intro e0;simp only at e0;rcases h.les p (List.mem_reverse.1 hp) e he with g|g|g
  ·have:=g.2.1;rw[e0]at this;exact absurd this (by decide)
  ·omega
  ·omega
def Agr(ps:List Po)(vs:List (Int×List (Int×Int×Int))):Prop:=∀v∈vs,∀i a l,UL ps i a l v.1↔(i,a,l)∈v.2
theorem WE{vs:List (Int×List (Int×Int×Int))}(h:RB t ps)(hv:∀v∈vs,v.1≠0/\v.2.Nodup)(hp:vs.Pairwise fun u v=>u.1≠v.1):AZ (bL ps) vs=true↔Agr ps vs:=by
 rw[LU vs _ (HK h) hv hp];constructor
 ·intro g v hv i a l;rw[<-oT];exact g v hv (i,a,l)
 ·rintro g v hv ⟨i,a,l⟩;rw[oT];exact g v hv i a l
theorem ZT(h:RB t ps){i a l o u:Int}(h1:UL ps i a l o)(h2:UL ps i a l u):o=u:=by
 have:=(HK h).eq (oT.2 h1) (oT.2 h2) rfl;simpa using this
def E7(r:Rg):Int×Int×Int:=(r.p,r.a,r.l)
def gV(vs:List Vn):List (Int×List (Int×Int×Int)):=vs.map fun v=>(v.id,v.rs.map E7)
theorem OX(h:k<vs.length):gV (vs.drop k)=((vnAt vs k).id,(vnAt vs k).rs.map E7)::gV (vs.drop (k+1)):=by
 have e:vnAt vs k=vs[k]:=by simp[vnAt,List.getD_eq_getElem?_getD,h]
 unfold gV;rw[List.drop_eq_getElem_cons h,zK,e]
theorem S7(h:q<rs.length):(rs.drop q).map E7=E7 (rgAt rs q)::(rs.drop (q+1)).map E7:=by
 have e:rgAt rs q=rs[q]:=by simp[rgAt,List.getD_eq_getElem?_getD,h]
 rw[List.drop_eq_getElem_cons h,zK,e]
theorem HL{id:Int}:KC id L ((p,a,l)::ks)=if mZ L p a l=id then KC id (L.filter fun x=>!keyB p a l x) ks else none:=rfl
theorem S8{id:Int}{vs:List (Int×List (Int×Int×Int))}(h:KC id L ks=none):AZ L ((id,ks)::vs)=false:=by
 unfold AZ;simp only[h]
theorem HM{id:Int}{vs:List (Int×List (Int×Int×Int))}(h:KC id L ks=some M):AZ L ((id,ks)::vs)=(!uE M id&&AZ M vs):=by
 conv=>lhs;unfold AZ
 simp only[h]
theorem iV{k:TypeId}{D:DataW Unit}{R:Value->Option (DataW Unit×List MemPlace)}(h:w.ownsMap Tryz.prog k R b n D)(hb:Below w.heap.size w w'):w'.ownsMap Tryz.prog k R b n D:=by
 obtain⟨es,clock,h1,h2⟩:=h;exact⟨es,clock,aA hb h1,h2⟩
theorem OY(t:Int)(x:Option Addr)(n c:Nat)(ps:List Po)(vx:Option Addr)(vn vc:Nat)(vs:List Vn)(lx:Option Addr)(ln lc:Nat)(w:World)(hp:kS w x n ps)(hn:n<=64)(hm:∀k,k<n->(poAt ps k).n<=64)
 (hW:∀k,k<n->∀q,q<(poAt ps k).n->LR (poAt ps k).id (leAt (poAt ps k).ls q).a (leAt (poAt ps k).ls q).l/\(Lit.int .i64 (leAt (poAt ps k).ls q).ow).wf=true)
 (hv:VS w vx vn vs)(hvn:vn<=64)(hrn:∀k,k<vn->(vnAt vs k).rn<=64)(hR:∀k,k<vn->∀q,q<(vnAt vs k).rn->LR (rgAt (vnAt vs k).rs q).p (rgAt (vnAt vs k).rs q).a (rgAt (vnAt vs k).rs q).l):
  Calls Tryz.prog 25 #[.agg #[.int .i64 t, .slice x n c, .slice vx vn vc, .slice lx ln lc]] w fun e w'=>e= .returned (.bool (AZ (bL ps) (gV vs)))/\Below w.heap.size w w':=by
 have hvl:Hid (vs.length=vn):=hv.len;go_enter Tryz.func25,Tryz.ntmps25;go_upto_region 1 with fail
 obtain⟨w0,hw0⟩:∃w0,w0=w.alloc (.cells #[.int .i64 t, .slice x n c, .slice vx vn vc, .slice lx ln lc] 30):=⟨_,rfl⟩;rw[<-hw0];have hB0:Below w.heap.size w w0:=by rw[hw0];exact bl1 w _
 have hb0:w0.heap[w.heap.size]?=some (.cells #[.int .i64 t, .slice x n c, .slice vx vn vc, .slice lx ln lc] 30):=by rw[hw0];exact aB _ rfl
 clear hw0;obtain⟨kb, -⟩:=aD hb0;have kb0:=kb 0;have kb1:=kb 1;go_wp2_with fail;refine(kL t x n c ps _ (hp.later hB0) hn hm hW).mono ?_;rintro e w1 ⟨bm,D0,rfl,hbm,hO0,hH0,hb1⟩;have hB1:=hB0.trans (hb1.mono hB0.size);have hb1b:=aA hb1 hb0;have hs0:=hB0.size;clear hb1 hb0 kb kb0 kb1;obtain⟨kb, -⟩:=aD hb1b;have kb2:=kb 2;go_wp2;go_loopw [16] (fun i wr=>∃(k:Nat) (L:List ((Int×Int×Int)×Int)) (D:DataW Unit),k<=vn/\i= .int .i64 k/\Below w.heap.size w wr/\wr.ownsMap Tryz.prog 126 (plainElem Tryz.prog 3) bm (bL ps).length D/\ID D L/\Hid (AZ (bL ps) (gV vs)=AZ L (gV (vs.drop k)))) (fun i _=>vn- (intOf i).toNat)
 case atStart=>exact⟨0,_,D0,by omega,rfl,hB1,hO0,hH0,rfl⟩
 case round=>
  obtain⟨k,L,D,hk,rfl,hB,hO,hH,hag⟩:=hrel
  clear hb1b hO0 hH0 kb kb2
  by_cases hlt:k<vn
  ·have hlt':Hid (k<vn):=hlt;have hvr:=hv.later hB;obtain⟨b,o,rfl,c0,c1,c2⟩:=hvr.cells k hlt;have hRS:=(hv.vps k hlt).2.2.2.ranges;have hR1:=hR k hlt;have hr1:=hrn k hlt;have hst:Hid (gV (vs.drop k)=((vnAt vs k).id,(vnAt vs k).rs.map E7)::gV (vs.drop (k+1))):=OX (by rw[hvl.out];exact hlt);have hsz:=hB.size;have hol:Hid (bm<wr.heap.size):=hO.lt;generalize vnAt vs k=v at*;obtain⟨vid,rx,rn,rc,rs,sx,sn,sc,ss⟩:=v;simp only at*;go_wp2;obtain⟨wo,rfl⟩:∃wo,wo=wr:=⟨_,rfl⟩;clear c0 c1 c2;go_loopw [23] (fun i wr=>∃(q:Nat) (M:List ((Int×Int×Int)×Int)) (D:DataW Unit),q<=rn/\i= .int .i64 q/\Below w.heap.size w wr/\wr.heap[wo.heap.size]?=some (.cells #[.int .i64 vid, .slice rx rn rc, .slice sx sn sc] 51)/\wr.ownsMap Tryz.prog 126 (plainElem Tryz.prog 3) bm (bL ps).length D/\ID D M/\Hid (KC vid L (rs.map E7)=KC vid M ((rs.drop q).map E7))) (fun i _=>rn- (intOf i).toNat)
   case atStart=>exact⟨0,L,D,by omega,rfl,hB.trans ((bl1 wo _).mono hsz),aB _ rfl,hO.alloc _,hH,rfl⟩
   case round=>
    obtain⟨q,M,D2,hq,rfl,hB2,hbx,hO2,hH2,har⟩:=hrel
    by_cases hq2:q<rn
    ·have hq':Hid (q<rn):=hq2;obtain⟨b2,o2,hx2,d0,d1,d2⟩:=(hRS.later hB2).cells q hq2;have hw3:=hR1 q hq2;have hst2:Hid ((rs.drop q).map E7=E7 (rgAt rs q)::(rs.drop (q+1)).map E7):=S7 (by rw[hRS.len];exact hq2);subst hx2;generalize rgAt rs q=e at*;obtain⟨ea,el,ep⟩:=e;simp only at*;go_upto_region 9 with fail
     obtain⟨w3,hw3'⟩:∃w3,w3=(wr.alloc (.cells #[.int .i64 ea, .int .i64 el, .int .i64 ep] 59)).alloc (.cells #[.int .i64 ep, .int .i64 ea, .int .i64 el] 126):=⟨_,rfl⟩;rw[<-hw3'];have hb23:Below wr.heap.size wr w3:=by rw[hw3'];exact bP wr _ _
     have hB3:Below w.heap.size w w3:=hB2.trans (hb23.mono hB2.size);have hbx3:=aA hb23 hbx;have hO3:=iV hO2 hb23;have hpb:w3.heap[wr.heap.size+1]?=some (.cells #[.int .i64 ep, .int .i64 ea, .int .i64 el] 126):=by rw[hw3'];exact aB _ (by simp)
     clear hw3' hb23 hbx hO2 hB2 d0 d1 d2;obtain⟨kv, -⟩:=aD hbx3;obtain⟨kp, -⟩:=aD hpb;have e0:=Ws.here (kv 0);have e1:=Ws.here (kp 0);have e2:=Ws.here (kp 1);have e3:=Ws.here (kp 2);have hat:=hH2.at_ ep ea el hw3;by_cases hown:mZ M ep ea el=vid
     ·rw[hown]at hat;refine aE w3.heap.size (by kernel_rfl) (by kernel_rfl) ?_;repeat(go_big_quiet_step (fail))
      refine mL _ _ bm _ D2 ep ea el vid rfl (by rfl) rfl rfl (fun u hu=>by obtain⟨u',rfl⟩:=hu;exact iV hO3 u'.property) hw3 hat ?_;simp only[Act.put,List.setIfInBounds_toArray,List.set_cons_zero,List.set_cons_succ];repeat(go_big_quiet_step (fail))
      refine wpQuiet_nil ?_;rintro _ ⟨u,rfl⟩;have hBu:=hB3.trans (u.property.mono hB3.size);have hOu:=iV hO3 u.property;have hbu:=aA u.property hbx3;have hpu:=aA u.property hpb;generalize u.val=wu at hBu hOu hbu hpu⊢;clear u e0 e1 e2 e3 kv kp;obtain⟨kp, -⟩:=aD hpu;have f0:=kp 0;have f1:=kp 1;have f2:=kp 2;have hkey:=oE hw3.1 hw3.2.1 hw3.2.2;go_wp2_with (first
       |(at_delete;refine wpList_delete_own _ rfl _ _ 123 126 rfl 3 lF mK _ bm _ D2 rfl hOu _ _ rfl hkey ?_;intro w1' hown1 hturn1)
       |go_in)
      go_roundw
      case rel=>
       refine⟨q+1,M.filter fun x=>!keyB ep ea el x,D2.del (dN ep ea el),hq'.out,by go_num,hBu.grown hturn1.grown hBu.size (fun j hj=>by cases hj;omega),eX hturn1.grown hbu (by have:=hol.out;omega),hown1,hH2.del hw3,?_⟩
       show _=_
       rw[har.out,hst2.out]
       show KC vid M ((ep,ea,el)::_)=_
       rw[HL,if_pos hown]
      case measure=>simp[intOf];have:=hq'.out;omega
     ·have hneb:(mZ M ep ea el==vid)=false:=by simpa using hown
      refine aE w3.heap.size (by kernel_rfl) (by kernel_rfl) ?_;repeat(go_big_quiet_step (fail))
      refine mL _ _ bm _ D2 ep ea el _ rfl (by rfl) rfl rfl (fun u hu=>by obtain⟨u',rfl⟩:=hu;exact iV hO3 u'.property) hw3 hat ?_;simp only[Act.put,List.setIfInBounds_toArray,List.set_cons_zero,List.set_cons_succ];repeat(go_big_quiet_step (fail))
      refine wpQuiet_nil ?_;rintro _ ⟨u,rfl⟩;have hBu:=hB3.trans (u.property.mono hB3.size);generalize u.val=wu at hBu⊢;clear u e0 e1 e2 e3 kv kp;go_wp2;go_ret;refine⟨aI ?_,hBu⟩;rw[hag.out,hst.out,S8];rw[har.out,hst2.out];show KC vid M ((ep,ea,el)::_)=none;rw[HL,if_neg hown]
    ·obtain rfl:q=rn:=by omega
     have e:rs.drop q=[]:=by rw[<-hRS.len];exact List.drop_length
     have hsome:KC vid L (rs.map E7)=some M:=by
      rw[har.out,e];rfl
     obtain⟨kv, -⟩:=aD hbx;have e0:=kv 0;go_wp2_with fail;refine(CR bm _ D2 M vid _ hO2 hH2).mono ?_;rintro r w4 ⟨rfl,hb4⟩;have hB4:=hB2.trans (hb4.mono hB2.size);have hO4:=iV hO2 hb4;clear kv e0 hbx
     cases hany:uE M vid
     ·go_wp2;go_roundw
      case rel=>exact⟨k+1,M,D2,hlt'.out,by go_num,hB4,hO4,hH2,by show _=_;rw[hag.out,hst.out,HM hsome,hany];rfl⟩
      case measure=>simp[intOf];have:=hlt'.out;omega
     ·go_wp2;go_ret;exact⟨aI (by rw[hag.out,hst.out,HM hsome,hany];rfl),hB4⟩
  ·obtain rfl:k=vn:=by omega
   have e:vs.drop k=[]:=by rw[<-hvl.out];exact List.drop_length
   go_wp2;go_ret;refine⟨aI ?_,hB⟩;rw[hag.out,e];rfl
structure Si(w:World)(x:Option Addr)(n c:Nat)(ps:List Po)(vx:Option Addr)(vn vc:Nat)(vs:List Vn)(lx:Option Addr)(ln:Nat)(ls:List (Int×Int)):Prop where
 bk:Bk w x n c ps
 vps:VS w vx vn vs
 vnc:vn<=vc
 v63:vn<=9223372036854775807
 lk:PS w lx ln ls
 l63:ln<=9223372036854775807
theorem Si.later{x:Option Addr}{vn:Nat}(h:Si w x n c ps vx vn vc vs lx ln ls)(hb:Below w.heap.size w w'):Si w' x n c ps vx vn vc vs lx ln ls:=
 ⟨h.bk.later hb,h.vps.later hb,h.vnc,h.v63,h.lk.later hb,h.l63⟩
def hZ(t:Int)(ps:List Po)(vn:Nat)(vs:List Vn)(ln:Nat)(ls:List (Int×Int)):Int:=if aX t ps≠0 then aX t ps else if bQ vn vs ln ls≠0 then bQ vn vs ln ls else if AZ (bL ps) (gV vs)=true then 0 else 1
theorem EI{v b:Int}(h:bV v a b=true)(ha:0<=a)(hb:b<=1000000):(Lit.int .i64 v).wf=true:=by
 unfold bV at h;simp only[zH,decide_eq_true_eq]at h;exact fJ (by omega) (by omega)
theorem S9(h:rt a l=true):(Lit.int .i64 a).wf=true/\(Lit.int .i64 l).wf=true:=by
 obtain⟨h0,h1,h2,h3, -⟩:=bC h;exact⟨fJ h2 (by omega),fJ h0 (by omega)⟩
theorem LV(h:RB t ps){p:Po}(hp:p∈ps){e:Le}(he:e∈p.ls):LR p.id e.a e.l/\(Lit.int .i64 e.ow).wf=true:=by
 have h1:=(h.used p hp).inn (e.a,e.l) (by unfold lp;exact List.mem_map.2 ⟨e,he,rfl⟩);obtain⟨w1,w2⟩:=S9 (gN h1).1;refine⟨⟨EI (h.idw p hp) (by decide) (by decide),w1,w2⟩,?_⟩;rcases h.les p hp e he with g|⟨-, -,q,hq,g, -⟩|g
 ·exact EI g.2.1 (by decide) (by decide)
 ·rw[<-g];exact EI (h.idw q hq) (by decide) (by decide)
 ·rw[g.2.1];rfl
theorem oU(h:bQ n vs ln ls=0):n<=6/\ln<=12/\cX vs=true/\∀i,i<n->bN (vnAt vs i).id (vnAt vs i).rn (vnAt vs i).rs (vnAt vs i).sn (vnAt vs i).ss=0:=by
 unfold bQ at h;split at h
 ·omega
 ·rename_i hm;simp only[Bool.or_eq_true,decide_eq_true_eq]at hm;split at h
  ·rename_i hw;simp only[zH]at hw;have hv:=hw.1.1;unfold dV at hv;rw[zH]at hv;refine⟨by omega,by omega,hv.1,fun i hi=>?_⟩;have hb:gS (vnAt vs i)=false:=by
    cases e:gS (vnAt vs i)
    ·rfl
    ·rw[aW (f:=fun i=>gS (vnAt vs i)) hi e]at hv;exact absurd hv.2 (by simp)
   unfold gS at hb;simpa using hb
  ·omega
theorem TA(h:bN vid rn rs sn ss=0):rn<=4/\∀q,q<rn->LR (rgAt rs q).p (rgAt rs q).a (rgAt rs q).l:=by
 unfold bN at h;split at h
 ·omega
 ·rename_i hm;split at h
  ·rename_i hw;simp only[zH]at hw;refine⟨(few (by simpa using hm)).1,fun q hq=>?_⟩;have hr:=hw.1.2;unfold yD at hr;rw[zH,List.all_eq_true]at hr;have h1:=hr.1 q (by simpa using hq);unfold vH at h1;rw[zH]at h1;have h2:=h1.1;unfold E5 at h2;rw[zH]at h2;exact⟨EI h2.2 (by decide) (by decide),(S9 h2.1).1,(S9 h2.1).2⟩
  ·omega
theorem zZ(t:Int)(x:Option Addr)(n c:Nat)(ps:List Po)(vx:Option Addr)(vn vc:Nat)(vs:List Vn)(lx:Option Addr)(ln lc:Nat)(ls:List (Int×Int))(w:World)(hs:Si w x n c ps vx vn vc vs lx ln ls):
  Calls Tryz.prog 8 #[.agg #[.int .i64 t, .slice x n c, .slice vx vn vc, .slice lx ln lc]] w fun e w'=>e= .returned (.int .i64 (hZ t ps vn vs ln ls))/\Below w.heap.size w w':=by
 have hbd:Hid (hZ t ps vn vs ln ls=if aX t ps≠0 then aX t ps else if bQ vn vs ln ls≠0 then bQ vn vs ln ls else if AZ (bL ps) (gV vs)=true then 0 else 1):=rfl;go_enter Tryz.func8,Tryz.ntmps8;go_upto_region 1 with fail
 obtain⟨w0,hw0⟩:∃w0,w0=w.alloc (.cells #[.int .i64 t, .slice x n c, .slice vx vn vc, .slice lx ln lc] 30):=⟨_,rfl⟩;rw[<-hw0];have hB0:Below w.heap.size w w0:=by rw[hw0];exact bl1 w _
 have hb0:w0.heap[w.heap.size]?=some (.cells #[.int .i64 t, .slice x n c, .slice vx vn vc, .slice lx ln lc] 30):=by rw[hw0];exact aB _ rfl
 clear hw0;obtain⟨kb, -⟩:=aD hb0;have kb0:=kb 0;have kb1:=kb 1;go_wp2_with fail;refine(mA t x n c ps _ (hs.bk.later hB0)).mono ?_;rintro e w1 ⟨rfl,hb1⟩;have hB1:=hB0.trans (hb1.mono hB0.size);have hb1b:=aA hb1 hb0;clear hb1 hb0 hB0 kb kb0 kb1;by_cases c0:aX t ps=0
 ·obtain⟨kb, -⟩:=aD hb1b;have kb2:=kb 2;have kb3:=kb 3;have hbd2:Hid (hZ t ps vn vs ln ls=if bQ vn vs ln ls≠0 then bQ vn vs ln ls else if AZ (bL ps) (gV vs)=true then 0 else 1):=by
   show _=_;rw[hbd.out,if_neg (by simp[c0])]
  have hRB:Hid (RB t ps):=vC hs.bk.full c0;rw[c0];clear hbd c0;go_wp2_with fail;refine(yO vx vn vc vs lx ln lc ls _ (hs.vps.later hB1) hs.v63 hs.vnc (hs.lk.later hB1) hs.l63).mono ?_;rintro e w2 ⟨rfl,hb2⟩;have hB2:=hB1.trans (hb2.mono hB1.size);have hb2b:=aA hb2 hb1b;clear hb2 hb1b hB1 kb kb2 kb3;by_cases c1:bQ vn vs ln ls=0
  ·obtain⟨kb, -⟩:=aD hb2b;have kb0:=kb 0;have kb1:=kb 1;have kb2:=kb 2;have kb3:=kb 3;obtain⟨n6, -, -,hcv⟩:=oU c1;have hbd3:Hid (hZ t ps vn vs ln ls=if AZ (bL ps) (gV vs)=true then 0 else 1):=by
    show _=_;rw[hbd2.out,if_neg (by simp[c1])]
   have hpl:=hs.bk.ps.len;have hn8:=hRB.out.few;have hag:=OY t x n c ps vx vn vc vs lx ln lc w2 (hs.bk.ps.later hB2) (by omega) (fun k hk=>by
    have:=hRB.out.n32 _ (cZ (i:=k) (by omega));rw[hs.bk.full k (by omega)]at this;omega) (fun k hk q hq=>LV hRB.out (cZ (i:=k) (by omega)) (fH (by rw[hs.bk.full k (by omega)];exact hq))) (hs.vps.later hB2) (by omega) (fun k hk=>by
    have:=(TA (hcv k hk)).1;omega) (fun k hk=>(TA (hcv k hk)).2)
   rw[c1];clear hbd2 c1 hcv
   cases hab:AZ (bL ps) (gV vs)
   ·rw[hab]at hag;go_wp2_with fail;refine hag.mono ?_;rintro e w3 ⟨rfl,hb3⟩;go_wp2;go_ret;exact⟨aP (by rw[hbd3.out,hab];rfl),hB2.trans (hb3.mono hB2.size)⟩
   ·rw[hab]at hag;go_wp2_with fail;refine hag.mono ?_;rintro e w3 ⟨rfl,hb3⟩;go_wp2;go_ret;exact⟨aP (by rw[hbd3.out,hab];rfl),hB2.trans (hb3.mono hB2.size)⟩
  ·have hne:(bQ vn vs ln ls==0)=false:=by simpa using c1
   go_wp2;go_ret;exact⟨aP (by rw[hbd2.out,if_pos c1]),hB2⟩
 ·have hne:(aX t ps==0)=false:=by simpa using c0
  go_wp2;go_ret;exact⟨aP (by rw[hbd.out,if_pos c0]),hB1⟩
theorem HN(id:Int)(p:Vn)(b:Nat)(w:World)(h0:w.cell? ⟨b,0,none⟩=some (.int .i64 id)):
  Calls Tryz.prog 238 #[.agg #[.int .i64 p.id, .slice p.rx p.rn p.rc, .slice p.sx p.sn p.sc], .pointer (some ⟨b,0,none⟩)] w fun e w'=>e= .returned (.bool (p.id==id))/\Below w.heap.size w w':=by
 have k0:∀q,(w.alloc q).cell? ⟨b,0,none⟩=some (.int .i64 id):=fun q=>cell_later (bl1 w q) h0;go_enter Tryz.func238,Tryz.ntmps238;go_wp2;go_ret;exact⟨rfl,bl1 w _⟩
theorem EJ(args:Array Value)(W:World):(callFunc 238 args).run Tryz.prog W= .ok (.enter 238 args) W:=by simp[go_sem]
theorem qO(id:Int)(x:Option Addr)(n c:Nat)(vs:List Vn)(lx:Option Addr)(ln lc:Nat)(w:World)(hp:VS w x n vs)(hn:n<=1048576):
  Calls Tryz.prog 192 #[.agg #[.slice x n c, .slice lx ln lc], .int .i64 id] w fun e w'=>e= .returned (.int .i64 (aM n vs id))/\Below w.heap.size w w':=by
 go_enter Tryz.func192,Tryz.ntmps192;go_wp2_with fail;refine(gY 238 #[.pointer (some ⟨w.heap.size+1,0,none⟩)] x n c vs (fun i=>(vnAt vs i).id==id) _ (hp.later (bP w _ _)) hn (fun i _ W hW=>HN id (vnAt vs i) (w.heap.size+1) W (cell_later hW (by simp))) EJ).mono ?_;rintro e w1 ⟨⟨r,rfl,hr⟩,hb1⟩;have hrv:r=aM n vs id:=by
  rcases hr with ⟨i,hi,hf,hno,rfl⟩|⟨hno,rfl⟩
  ·exact(mD hi hf hno).symm
  ·exact(tQ hno).symm
 subst hrv;go_wp2;go_ret;exact⟨rfl,(bP w _ _).trans (hb1.mono (by simp;omega))⟩
theorem uF(id:Int)(x:Option Addr)(n c:Nat)(vs:List Vn)(lx:Option Addr)(ln lc:Nat)(t:Int)(h:aM n vs id=t)(w:World)(hp:VS w x n vs)(hn:n<=1048576):
  Calls Tryz.prog 192 #[.agg #[.slice x n c, .slice lx ln lc], .int .i64 id] w fun e w'=>e= .returned (.int .i64 t)/\Below w.heap.size w w':=by
 subst h;exact qO id x n c vs lx ln lc w hp hn
abbrev lH(t:Int)(vB vV vK:Value):Obj:= .cells #[.int .i64 t,vB,vV,vK] 30
abbrev IE(t:Int)(vB vV vK:Value):Value:= .agg #[.int .i64 t,vB,vV,vK]
structure Cd where
 op:Int
 A:Int
 B:Int
 C:Int
 a:Int
 l:Int
 mn:Int
 mx:Int
 us:Int
 co:Int
abbrev cmL(c:Cd):Array Value:=#[.int .i64 c.op, .int .i64 c.A, .int .i64 c.B, .int .i64 c.C, .int .i64 c.a, .int .i64 c.l, .int .i64 c.mn, .int .i64 c.mx, .int .i64 c.us, .int .i64 c.co]
abbrev AA(c:Cd):Obj:= .cells (cmL c) 85
abbrev WF(c:Cd):Value:= .agg (cmL c)
abbrev pfO(a l:Int):Obj:= .cells #[.int .i64 a, .int .i64 l] 53
abbrev nwV(u:Vn):Value:= .agg #[.int .i64 u.id, .slice u.rx u.rn u.rc, .slice u.sx u.sn u.sc]
def oV(w:World)(base:Nat)(u:Vn):Prop:=bT w base (.slice u.rx u.rn u.rc) u.rs/\dC w base (.slice u.sx u.sn u.sc) u.ss/\E6 w base u.ss
theorem oB.vty(h:oB w base u):oV w base u:=⟨h.1,h.2.row,h.2.ofa⟩
theorem oV.later(h:oV w base u)(hb:Below w.heap.size w w'):oV w' base u:=⟨bT.later h.1 hb,dC.later h.2.1 hb,fun s hs=>(h.2.2 s hs).later hb⟩
theorem oV.low(h:oV w base u)(hb:base'<=base):oV w base' u:=⟨h.1.low hb,h.2.1.low hb,h.2.2.low hb⟩
theorem oV.kept{t:TypeId}(h:oV w base u)(hg:w.grownBy w' (some g))(hb:w.heap[g]?=some (.cells cs t))(h0:t≠59)(h1:t≠72)(h2:t≠75)(h3:t≠3):oV w' base u:=
 ⟨h.1.kept hg (fun _ hk e=>by subst e;exact h.1.ne hb h0 hk),h.2.1.kept hg (fun _ hk e=>by subst e;exact h.2.1.ne hb h1 hk),h.2.2.keptOf hg hb h2 h3⟩
theorem oV.ok(h:oV w base u):mI w u:=by
 obtain⟨x1,c1,e1,h1,h2,h3⟩:=h.1.rs;obtain⟨x2,c2,e2,g1,g2, -,g4⟩:=h.2.1.mem;simp only[Value.slice.injEq]at e1 e2;obtain⟨rfl,hrn,rfl⟩:=e1;obtain⟨rfl,hsn,rfl⟩:=e2;unfold mI;rw[hrn,hsn];exact⟨by omega,by omega,h3,⟨h2,g1,h1,⟨rfl,g4,fun i hi=>h.2.2.fcb _ (R5 hi)⟩⟩⟩
theorem PU.vn(h:PU w base vid V rs ss):∃u:Vn,V=nwV u/\u.id=vid/\u.rs=rs/\u.rn=rs.length/\u.ss=ss/\u.sn=ss.length/\oV w base u:=by
 obtain⟨vR,vS,rfl,h1,h2,h3⟩:=h;obtain⟨x1,c1,rfl, -⟩:=h1.rs;obtain⟨x2,c2,rfl, -⟩:=h2.mem;exact⟨⟨vid,x1,rs.length,c1,rs,x2,ss.length,c2,ss⟩,rfl,rfl,rfl,rfl,rfl,rfl,h1,h2,h3⟩
structure SO(w:World)(base:Nat)(ps:List Po)(vs:List Vn)(ls:List (Int×Int))(vB vV vK:Value):Prop where
 bk:eT w base vB ps ps.length
 row:cD w base vV vs
 net:∀u∈vs,oV w base u
 lks:cJ w base vK ls
def pC(w:World)(b:Nat)(ty:TypeId):Prop:=∃cs,w.heap[b]?=some (.cells cs ty)
def YF(ty:TypeId):Bool:=decide (ty≠64/\ty≠55/\ty≠51/\ty≠59/\ty≠72/\ty≠75/\ty≠3/\ty≠77)
theorem pC.put{b':Nat}(h:pC w b ty):pC (w.setCell ⟨b',o,none⟩ v) b ty:=by
 obtain⟨cs,h⟩:=h;by_cases e:b=b'
 ·subst e;exact⟨_,heap_setCell_same w b _ _ _ _ h⟩
 ·exact⟨cs,(zB e).trans h⟩
theorem SO.later(h:SO w base ps vs ls vB vV vK)(hb:Below w.heap.size w w'):SO w' base ps vs ls vB vV vK:=
 ⟨h.bk.later hb,h.row.later hb,fun u hu=>(h.net u hu).later hb,h.lks.later hb⟩
theorem SO.low(h:SO w base ps vs ls vB vV vK)(hb:base'<=base):SO w base' ps vs ls vB vV vK:=
 ⟨h.bk.low hb,h.row.low hb,fun u hu=>(h.net u hu).low hb,h.lks.low hb⟩
theorem SO.put(h:SO w base ps vs ls vB vV vK)(hb:pC w b ty)(ha:YF ty=true):SO (w.setCell ⟨b,o,none⟩ v) base ps vs ls vB vV vK:=by
 obtain⟨cs,hb⟩:=hb;obtain⟨h1,h2,h3,h4,h5,h6,h7,h8⟩:=of_decide_eq_true ha;exact⟨h.bk.putBox hb h1 h2,h.row.putBox hb h3,fun u hu=>(h.net u hu).kept (aN _ _ _ _) hb h4 h5 h6 h7,h.lks.putBox hb h8⟩
structure lI(w:World)(base bs:Nat)(t:Int)(ps:List Po)(vs:List Vn)(ls:List (Int×Int))(vB vV vK:Value):Prop where
 box:w.heap[bs]?=some (lH t vB vV vK)
 low:base<=bs
 own:SO w base ps vs ls vB vV vK
theorem lI.later(h:lI w base bs t ps vs ls vB vV vK)(hb:Below w.heap.size w w'):lI w' base bs t ps vs ls vB vV vK:=⟨aA hb h.box,h.low,h.own.later hb⟩
theorem lI.put(h:lI w base bs t ps vs ls vB vV vK)(hb:pC w b ty)(ha:YF ty=true)(hne:bs≠b):lI (w.setCell ⟨b,o,none⟩ v) base bs t ps vs ls vB vV vK:=
 ⟨(zB hne).trans h.box,h.low,h.own.put hb ha⟩
theorem lI.putB{rs:List Po}(h:lI w base bs t ps vs ls vB vV vK)(hv:eT w base v rs rs.length):lI ((w.setCell ⟨bs,0,none⟩ (.int .i64 t')).setCell ⟨bs,1,none⟩ v) base bs t' rs vs ls v vV vK:=
 have hb:pC w bs 30:=⟨_,h.box⟩
 ⟨heap_setCell_same _ bs _ _ _ _ (heap_setCell_same w bs _ _ _ _ h.box),h.low,((SO.mk hv h.own.row h.own.net h.own.lks).put hb (by decide)).put hb.put (by decide)⟩
theorem lI.putN{k:Value}(h:lI w base bs t ps vs ls vB vV vK)(hv:cD w base v us)(hu:∀u∈us,oV w base u)(hk:cJ w base k ms):lI ((w.setCell ⟨bs,2,none⟩ v).setCell ⟨bs,3,none⟩ k) base bs t ps us ms vB v k:=
 have hb:pC w bs 30:=⟨_,h.box⟩
 ⟨heap_setCell_same _ bs _ _ _ _ (heap_setCell_same w bs _ _ _ _ h.box),h.low,((SO.mk h.own.bk hv hu hk).put hb (by decide)).put hb.put (by decide)⟩
theorem lI.setV{cap:Nat}(h:lI w base bs t ps vs ls vB (.slice (some ⟨g,0,none⟩) n cap) vK)(hi:i<vs.length)(hu:oV w base u):lI (iI w g i u) base bs t ps (vs.set i u) ls vB (.slice (some ⟨g,0,none⟩) n cap) vK:=by
 obtain⟨hgb,cur,hcur⟩:=h.own.row.block;have hne:bs≠g:=fun e=>by rw[<-e,h.box]at hcur;simp at hcur
 have hV:∀v,oV w base v->oV (iI w g i u) base v:=fun v hv=>by
  have b1:∀(W:World),pC W g 51->oV W base v->∀o x,oV (W.setCell ⟨g,o,none⟩ x) base v:=fun W hW hv o x=>by
   obtain⟨cs,hW⟩:=hW;exact hv.kept (aN _ _ _ _) hW (by decide) (by decide) (by decide) (by decide)
  have g0:pC w g 51:=⟨_,hcur⟩;exact b1 _ g0.put.put (b1 _ g0.put (b1 _ g0 hv _ _) _ _) _ _
 have hB:∀(W:World),pC W g 51->eT W base vB ps ps.length->∀o x,eT (W.setCell ⟨g,o,none⟩ x) base vB ps ps.length:=fun W hW hv o x=>by
  obtain⟨cs,hW⟩:=hW;exact hv.putBox hW (by decide) (by decide)
 have g0:pC w g 51:=⟨_,hcur⟩;refine⟨(fO hne).trans h.box,h.low,hB _ g0.put.put (hB _ g0.put (hB _ g0 h.own.bk _ _) _ _) _ _,h.own.row.setE i hi u,fun v hv=>?_,h.own.lks.setN h.own.row⟩;rcases List.mem_or_eq_of_mem_set hv with hv|rfl
 ·exact hV v (h.own.net v hv)
 ·exact hV _ hu
structure iA(base bs:Nat)(w w':World):Prop where
 below:Below base w w'
 box:∀k cs ty,k≠bs->ty≠51->w.heap[k]?=some (.cells cs ty)->w'.heap[k]?=some (.cells cs ty)
theorem iA.of(h:Below w.heap.size w w')(hb:base<=w.heap.size):iA base bs w w':=⟨h.mono hb,fun _ _ _ _ _ g=>aA h g⟩
theorem iA.trans{w'':World}(h:iA base bs w w')(g:iA base bs w' w''):iA base bs w w'':=⟨h.below.trans g.below,fun k cs ty h1 h2 h3=>g.box k cs ty h1 h2 (h.box k cs ty h1 h2 h3)⟩
theorem iA.set(h:iA base bs w w')(hb:base<=bs):iA base bs w (w'.setCell ⟨bs,o,none⟩ v):=
 ⟨h.below.setCell (p:=⟨bs,o,none⟩) hb _,fun k cs ty h1 h2 h3=>(zB h1).trans (h.box k cs ty h1 h2 h3)⟩
theorem iA.put(h:iA base bs w w')(hb:base<=b)(hw:w.heap.size<=b):iA base bs w (w'.setCell ⟨b,o,none⟩ v):=
 ⟨h.below.setCell (p:=⟨b,o,none⟩) hb _,fun k cs ty h1 h2 h3=>(zB (fun e:k=b=>by have:=(zG h3);omega)).trans (h.box k cs ty h1 h2 h3)⟩
theorem KD{vn:Nat}(h:hZ t ps vn vs ln ls=0):aX t ps=0/\bQ vn vs ln ls=0/\AZ (bL ps) (gV vs)=true:=by
 unfold hZ at h;split at h
 ·rename_i g;exact absurd h g
 ·rename_i g;split at h
  ·rename_i g2;exact absurd h g2
  ·rename_i g2;split at h
   ·rename_i g3;exact⟨by simpa using g,by simpa using g2,g3⟩
   ·cases h
theorem lI.see(h:lI w base bs t ps vs ls vB vV vK)(hB:aX t ps=0):
  ∃x c X C Y D,vB= .slice x ps.length c/\vV= .slice X vs.length C/\vK= .slice Y ls.length D/\Bk w x ps.length c ps/\VS w X vs.length vs/\vs.length<=C/\vs.length<=9223372036854775807/\PS w Y ls.length ls/\ls.length<=9223372036854775807:=by
 have hR:=vC h.own.bk.full hB;obtain⟨x,c,rfl,h1⟩:=h.own.bk.bk (fun i hi=>by
  have:=hR.n32 _ (cZ hi);rw[h.own.bk.full i hi]at this;omega)
 obtain⟨X,C,rfl,h2,h3,h4, -⟩:=h.own.row.vs (fun u hu=>(h.own.net u hu).ok);obtain⟨Y,D,rfl,h5,h6,h7, -⟩:=h.own.lks.ps;exact⟨x,c,X,C,Y,D,rfl,rfl,rfl,h1,h2,h3,Nat.le_trans h3 h4,h5,Nat.le_trans h6 h7⟩
def EK(ps:List Po)(id z ow a l:Int)(rs:List Po):Prop:=(a,l)=jY (poAt ps (aS ps id).toNat) (pJ (poAt ps (aS ps id).toNat) z)/\
 ∃qs x' c' ls',eC ps qs/\rK ⟨a,l,1,ow,0⟩ (poAt ps (aS ps id).toNat).ls ls'/\rs=qs.set (aS ps id).toNat (bM (poAt qs (aS ps id).toNat) x' ls'.length c' ls')
def tkE(t:Int)(ps:List Po)(vs:List Vn)(A B C:Int):Int:=if 0<=aM vs.length vs C then 6 else dU t ps A B C
def ZU(ps:List Po)(vs:List Vn)(ls:List (Int×Int))(A:Int):Int:=if uE (bL ps) A=true then 6 else jM vs.length vs ls.length ls A
def ZV(E:Int)(R:List Vn->List (Int×Int)->Prop)(base bs:Nat)(t:Int)(ps:List Po)(w:World)(e:Ending)(w':World):Prop:=
 e= .returned (.int .i64 E)/\iA base bs w w'/\(E=0->∃us ms vB vV vK,lI w' base bs t ps us ms vB vV vK/\R us ms)
theorem uG{R:List Vn->List (Int×Int)->Prop}(h0:E≠0->V= .agg #[.slice none 0 0, .slice none 0 0])(h1:E=0->∃us ms,NO w base V us ms/\R us ms):∃x1 n1 c1 x2 n2 c2,V= .agg #[.slice x1 n1 c1, .slice x2 n2 c2]:=by
 by_cases h:E=0
 ·obtain⟨us,ms,⟨v,k,e,g1, -,g2⟩, -⟩:=h1 h;obtain⟨x1,c1,rfl, -⟩:=g1.mem;obtain⟨x2,c2,rfl, -⟩:=g2.mem;exact⟨_,_,_,_,_,_,e⟩
 ·exact⟨_,_,_,_,_,_,h0 h⟩
theorem LW(hF:kH ps)(hB:aX t ps=0):ps.length<=8/\(∀k,k<ps.length->(poAt ps k).n<=64)/\∀k,k<ps.length->∀q,q<(poAt ps k).n->LR (poAt ps k).id (leAt (poAt ps k).ls q).a (leAt (poAt ps k).ls q).l/\(Lit.int .i64 (leAt (poAt ps k).ls q).ow).wf=true:=by
 have hR:=vC hF hB;refine⟨hR.few,fun k hk=>?_,fun k hk q hq=>LV hR (cZ hk) (fH (by rw[hF k hk];exact hq))⟩;have:=hR.n32 _ (cZ hk);rw[hF k hk]at this;omega
theorem KE(base bs:Nat)(t:Int)(ps:List Po)(vs:List Vn)(ls:List (Int×Int))(vB vV vK:Value)(cd:Cd)(w:World)(hS:lI w base bs t ps vs ls vB vV vK)(hB:aX t ps=0):
  Calls Tryz.prog 147 #[.pointer (some ⟨bs,0,none⟩),WF cd] w (ZV (ZU ps vs ls cd.A) (HE vs ls cd.A) base bs t ps w):=by
 have hbl:bs<w.heap.size:=(zG hS.box);have hlow:=hS.low;obtain⟨x,c,X,C,Y,D,rfl,rfl,rfl,hk,hvs,hvc,hv63,hps,hl63⟩:=hS.see hB;obtain⟨hn8,hn64,hwf⟩:=LW hS.own.bk.full hB;go_enter Tryz.func147,Tryz.ntmps147;go_upto_region 1 with fail
 obtain⟨w0,hw0⟩:∃w0,w0=w.alloc (AA cd):=⟨_,rfl⟩;rw[<-hw0];have hB0:Below w.heap.size w w0:=by rw[hw0];exact bl1 w _
 have hq0:w0.heap[w.heap.size]?=some (AA cd):=by rw[hw0];exact aB _ rfl
 have hS0:=hS.later hB0;clear hw0;have s0:=Ws.here (aO hS0.box 0 rfl);have s1:=Ws.here (aO hS0.box 1 rfl);have k1:=Ws.here (aO hq0 1 rfl);refine bK [0,1,2,3,5,6] 4 [] [7] (by kernel_rfl) (by kernel_rfl) (fun d _ _ _ _ h=>by cases d<;>exact h) ?_;simp only[zK,zM,zI,zJ];repeat(go_big_quiet_step (fail))
 refine wpQuiet_nil ?_;clear s0 s1 k1;intro K hK;go_wp2_with fail;refine(kL t x ps.length c ps w0.drew ((hk.later hB0).later (zD).drew).ps (by omega) hn64 hwf).mono ?_;rintro e w1 ⟨bm,Dm,rfl,hbm,hOm,hHm,hb1⟩;have hB1:Below w0.heap.size w0 w1:=⟨hb1.os,hb1.tape,hb1.output,hb1.size,hb1.block⟩;go_wp2_with fail;refine aC (hK.out _ _ hB1 ?_);clear hK K;refine wpQuiet_nil ?_;have hS1:=hS0.later hB1;have hc1:=aA hB1 hq0;have hBw1:=hB0.trans (hB1.mono hB0.size);clear hS0 hq0 hb1 hB1;obtain⟨ta,hta⟩:∃b,uE (bL ps) cd.A=b:=⟨_,rfl⟩;have hany:=CR bm _ Dm _ cd.A w1 hOm hHm;rw[hta]at hany
 cases ta
 ·have hE:Hid (ZU ps vs ls cd.A=jM vs.length vs ls.length ls cd.A):=if_neg (by rw[hta];decide);clear hta;go_wp2_with fail;refine hany.mono ?_;rintro e w2 ⟨rfl,hb2⟩;have hS2:=hS1.later hb2;have hc2:=aA hb2 hc1;have hBw2:=hBw1.trans (hb2.mono hBw1.size);clear hS1 hc1 hb2 hany;go_upto_region 3 with fail
  have s2:=Ws.here (aO hS2.box 2 rfl);have s3:=Ws.here (aO hS2.box 3 rfl);have k1:=Ws.here (aO hc2 1 rfl);refine bK [0,1,2,3,4,5,6] 7 [8,9,10,11,12] [13,14] (by kernel_rfl) (by kernel_rfl) (fun d _ _ _ _ h=>by cases d<;>exact h) ?_;simp only[zK,zM,zI,zJ];repeat(go_big_quiet_step (fail))
  refine wpQuiet_nil ?_;clear s2 s3 k1;intro K hK;go_wp2_with fail;refine(SP X vs.length C vs Y ls.length D ls cd.A w2.drew ((hvs.later hBw2).later (zD).drew) hv63 hvc ((hps.later hBw2).later (zD).drew) hl63).mono ?_;rintro e w3 ⟨V,rfl,hb3,hV0,hV1⟩;have hB1:Below w2.heap.size w2 w3:=⟨hb3.os,hb3.tape,hb3.output,hb3.size,hb3.block⟩;have hS3:=hS2.later hB1;have hT3:iA base bs w w3:=iA.of (hBw2.trans (hB1.mono hBw2.size)) (by omega);obtain⟨y1,m1,d1,y2,m2,d2,rfl⟩:=uG hV0 hV1;clear hV0;go_wp2_with fail;refine aC (hK.out _ _ hB1 ?_);clear hK K;repeat(go_big_quiet_step (fail))
  refine wpQuiet_nil ?_;obtain⟨g0,g1,g2,g3⟩:=fW hS3.box rfl rfl rfl rfl;obtain⟨gz0,gz1,gz2,gz3⟩:=pG hS3.box;go_wp2;go_ret;refine⟨by rw[hE.out];rfl,(hT3.set hlow).set hlow,fun h=>?_⟩;rw[hE.out]at h;obtain⟨us,ms,⟨v',k',e',hOV,hVo,hOK⟩,hR⟩:=hV1 h
  cases e';have hlo:base<=w2.drew.heap.size:=Nat.le_trans (by omega) hBw2.size;exact⟨us,ms,_,_,_,hS3.putN (hOV.low hlo) (fun u hu=>((hVo u hu).low hlo).vty) (hOK.low hlo),hR⟩
 ·have hE:ZU ps vs ls cd.A=6:=if_pos hta;clear hta;go_wp2_with fail;refine hany.mono ?_;rintro e w2 ⟨rfl,hb2⟩;go_wp2;go_ret;exact⟨by rw[hE];rfl,iA.of (hBw1.trans (hb2.mono hBw1.size)) (by omega),fun h=>absurd (hE.symm.trans h) (by decide)⟩
def ZW(t:Int)(ps:List Po)(vs:List Vn)(A a l:Int):Int:=if 0<=aM vs.length vs (mZ (bL ps) A a l)then 9 else nN t ps A a l
def ZX(E:Int)(R:Int->List Po->Prop)(base bs:Nat)(vs:List Vn)(ls:List (Int×Int))(w:World)(e:Ending)(w':World):Prop:=
 e= .returned (.int .i64 E)/\iA base bs w w'/\(E=0->∃t' rs vB vV vK,lI w' base bs t' rs vs ls vB vV vK/\R t' rs)
theorem OZ(base bs:Nat)(t:Int)(ps:List Po)(vs:List Vn)(ls:List (Int×Int))(vB vV vK:Value)(cd:Cd)(w:World)(hS:lI w base bs t ps vs ls vB vV vK)(hB:aX t ps=0)(hv6:vs.length<=6)(hcw:LR cd.A cd.a cd.l):
  Calls Tryz.prog 146 #[.pointer (some ⟨bs,0,none⟩),WF cd] w (ZX (ZW t ps vs cd.A cd.a cd.l) (CC t ps cd.A cd.a cd.l) base bs vs ls w):=by
 have hbl:bs<w.heap.size:=(zG hS.box);have hlow:=hS.low;obtain⟨x,c,X,C,Y,D,rfl,rfl,rfl,hk,hvs,hvc,hv63,hps,hl63⟩:=hS.see hB;obtain⟨hn8,hn64,hwf⟩:=LW hS.own.bk.full hB;go_enter Tryz.func146,Tryz.ntmps146;go_upto_region 1 with fail
 obtain⟨w0,hw0⟩:∃w0,w0=w.alloc (AA cd):=⟨_,rfl⟩;rw[<-hw0];have hB0:Below w.heap.size w w0:=by rw[hw0];exact bl1 w _
 have hq0:w0.heap[w.heap.size]?=some (AA cd):=by rw[hw0];exact aB _ rfl
 have hS0:=hS.later hB0;clear hw0;have s0:=Ws.here (aO hS0.box 0 rfl);have s1:=Ws.here (aO hS0.box 1 rfl);have s2:=Ws.here (aO hS0.box 2 rfl);have s3:=Ws.here (aO hS0.box 3 rfl);have k1:=Ws.here (aO hq0 1 rfl);have k4:=Ws.here (aO hq0 4 rfl);have k5:=Ws.here (aO hq0 5 rfl);obtain⟨o,ho⟩:∃o,mZ (bL ps) cd.A cd.a cd.l=o:=⟨_,rfl⟩;refine bG (fun w'=>∃u:Ws w0.heap.size w0,w'=u.val) (fun j=>decide (j<16)) 17 _ (by kernel_rfl) rfl rfl ?_;refine bE 4 [0,1,2,3,4,5,6,7,9,10,11,12,13] rfl _ rfl (by kernel_rfl) (fun d _ _ _ _ h=>by cases d<;>exact h) ⟨⟨_,(zD).drew⟩,rfl⟩ ?_;simp only[zK,zM,zI,zJ];repeat(go_big_quiet_step (fail))
 refine wpQuiet_nil ?_;clear s0 s1 s2 s3 k1 k4 k5;refine aY 8 _ _ (by kernel_rfl) (by kernel_rfl) rfl rfl ?_;intro K hK;simp only[zI,zJ];go_wp2_with fail;refine(kL t x ps.length c ps w0.drew ((hk.later hB0).later (zD).drew).ps (by omega) hn64 hwf).mono ?_;rintro e w1 ⟨bm,Dm,rfl,hbm,hOm,hHm,hb1⟩;have hB1:Below w0.heap.size w0 w1:=⟨hb1.os,hb1.tape,hb1.output,hb1.size,hb1.block⟩;go_wp2_with fail;refine aC (hK.out _ _ ⟨⟨_,hB1⟩,rfl⟩ ?_);clear hK K;refine aY 14 _ _ (by kernel_rfl) (by kernel_rfl) rfl rfl ?_;intro K hK;simp only[zI,zJ];refine eQ (C:=fun w'=>∃u:Ws w1.heap.size w1,w'=u.val) (Q:=fun a=>∀u:Ws w1.heap.size w1,K a u.val) (fun a w hC h=>by obtain⟨u,rfl⟩:=hC;exact aC (h u)) _ _ _ ⟨⟨w1,zD⟩,rfl⟩ ?_;refine mL _ _ bm _ Dm cd.A cd.a cd.l o rfl (by rfl) rfl rfl (fun u hu=>by obtain⟨u',rfl⟩:=hu;exact iV hOm u'.property) hcw (by rw[<-ho];exact hHm.at_ _ _ _ hcw) ?_;refine wpQuiet_nil ?_;intro u;have hB2:Below w0.heap.size w0 u.val:=hB1.trans (u.property.mono hB1.size);refine hK.out _ _ ⟨⟨_,hB2⟩,rfl⟩ ?_;clear hK K;generalize u.val=w2 at hB2⊢;clear u hOm hHm hb1 hB1 hbm;simp only[Act.put,List.setIfInBounds_toArray,List.set_cons_zero,List.set_cons_succ];have hS2:=hS0.later hB2;have hc2:=aA hB2 hq0;have hBw2:=hB0.trans (hB2.mono hB0.size);clear hS0 hq0;obtain⟨tp,htp⟩:∃tp,aM vs.length vs o=tp:=⟨_,rfl⟩;have hpl:=uF o X vs.length C vs Y ls.length D tp htp w2 (hvs.later hBw2) (by omega);refine aY 15 _ _ (by kernel_rfl) (by kernel_rfl) rfl rfl ?_;intro K hK;simp only[zI,zJ];go_wp2_with fail;refine hpl.mono ?_;rintro e w3 ⟨rfl,hb3⟩;go_wp2_with fail;refine aC (hK.out _ _ ⟨⟨_,hB2.trans (hb3.mono hB2.size)⟩,rfl⟩ ?_);clear hK K hpl;have hS3:=hS2.later hb3;have hc3:=aA hb3 hc2;have hBw3:=hBw2.trans (hb3.mono hBw2.size);clear hS2 hc2 hBw2 hB2;refine bB [16] rfl (by kernel_rfl) ?_;simp only[zK,zM,zI,zJ];by_cases h0:0<=tp
 ·have hE:ZW t ps vs cd.A cd.a cd.l=9:=if_pos (by rw[ho,htp];exact h0);have hge:decide (tp≥0)=true:=by simpa using h0
  go_wp2;go_ret;exact⟨by rw[hE];rfl,iA.of hBw3 (by omega),fun h=>absurd (hE.symm.trans h) (by decide)⟩
 ·have hE:Hid (ZW t ps vs cd.A cd.a cd.l=nN t ps cd.A cd.a cd.l):=if_neg (by rw[ho,htp];exact h0);have hge:decide (tp≥0)=false:=by simpa using h0
  clear ho htp;go_upto_region 3 with fail
  clear hge h0;have s0:=Ws.here (aO hS3.box 0 rfl);have s1:=Ws.here (aO hS3.box 1 rfl);have k1:=Ws.here (aO hc3 1 rfl);have k4:=Ws.here (aO hc3 4 rfl);have k5:=Ws.here (aO hc3 5 rfl);refine bK [0,1,2,3,4,5,6,7,8] 9 [10,11,12,13,14] [15,16] (by kernel_rfl) (by kernel_rfl) (fun d _ _ _ _ h=>by cases d<;>exact h) ?_;simp only[zK,zM,zI,zJ];repeat(go_big_quiet_step (fail))
  refine wpQuiet_nil ?_;clear s0 s1 k1 k4 k5;intro K hK;go_wp2_with fail;refine(F8 t x ps.length c ps cd.A cd.a cd.l w3.drew ((hk.later hBw3).later (zD).drew)).mono ?_;rintro e w4 ⟨v,rs,t',rfl,hb4,hO4,hE0,hE2⟩;have hB1:Below w3.heap.size w3 w4:=⟨hb4.os,hb4.tape,hb4.output,hb4.size,hb4.block⟩;go_wp2_with fail;refine aC (hK.out _ _ hB1 ?_);clear hK K;repeat(go_big_quiet_step (fail))
  refine wpQuiet_nil ?_;have hS4:=hS3.later hB1;have hT4:iA base bs w w4:=iA.of (hBw3.trans (hB1.mono hBw3.size)) (by omega);have hO5:eT w4 base v rs rs.length:=hO4.low (Nat.le_trans (by omega) hBw3.size);obtain⟨x1,c1,hv1, -⟩:=hO4.row.mem;subst hv1;clear hb4 hO4 hE0;obtain⟨g0,g1,g2,g3⟩:=fW hS4.box rfl rfl rfl rfl;obtain⟨gz0,gz1,gz2,gz3⟩:=pG hS4.box;go_wp2;go_ret;refine⟨by rw[hE.out];rfl,(hT4.set hlow).set hlow,fun h=>?_⟩;rw[hE.out]at h;exact⟨t',rs,_,_,_,hS4.putB hO5,hE2 h⟩
def gwR(ps:List Po)(B C:Int):Rg:=⟨(jY (poAt ps (aS ps B).toNat) (pJ (poAt ps (aS ps B).toNat) C)).1,(jY (poAt ps (aS ps B).toNat) (pJ (poAt ps (aS ps B).toNat) C)).2,B⟩
def UP(t:Int)(ps:List Po)(vs:List Vn)(ls:List (Int×Int))(A B C:Int):Int:=if aM vs.length vs A<0 then 5 else if dU t ps B C A=0 then jO vs.length vs ls.length ls A (gwR ps B C)else dU t ps B C A
def ZY(base bs:Nat)(t:Int)(ps:List Po)(vs:List Vn)(ls:List (Int×Int))(A B C:Int)(w:World)(e:Ending)(w':World):Prop:=
 ∃a l,e= .returned (.tuple #[.agg #[.int .i64 a, .int .i64 l], .int .i64 (UP t ps vs ls A B C)])/\iA base bs w w'/\
  (UP t ps vs ls A B C=0->∃rs us ms vB vV vK,lI w' base bs t rs us ms vB vV vK/\EK ps B C A a l rs/\uC vs.length vs ls A ⟨a,l,B⟩ us ms)
theorem O0(base bs:Nat)(t:Int)(ps:List Po)(vs:List Vn)(ls:List (Int×Int))(vB vV vK:Value)(cd:Cd)(w:World)(hS:lI w base bs t ps vs ls vB vV vK)(hB:aX t ps=0)(hv6:vs.length<=6):
  Calls Tryz.prog 148 #[.pointer (some ⟨bs,0,none⟩),WF cd] w (ZY base bs t ps vs ls cd.A cd.B cd.C w):=by
 have hbl:bs<w.heap.size:=(zG hS.box);have hlow:=hS.low;obtain⟨x,c,X,C,Y,D,rfl,rfl,rfl,hk,hvs,hvc,hv63,hps,hl63⟩:=hS.see hB;go_enter Tryz.func148,Tryz.ntmps148;go_upto_region 1 with fail
 obtain⟨w0,hw0⟩:∃w0,w0=(w.alloc (AA cd)).alloc (pfO 0 0):=⟨_,rfl⟩;rw[<-hw0];have hB0:Below w.heap.size w w0:=by rw[hw0];exact bP w _ _
 have hq0:w0.heap[w.heap.size]?=some (AA cd):=by rw[hw0];exact aH _ (aB _ rfl)
 have hq1:w0.heap[w.heap.size+1]?=some (pfO 0 0):=by rw[hw0];exact aB _ (by simp)
 have hS0:=hS.later hB0;clear hw0;have s2:=Ws.here (aO hS0.box 2 rfl);have s3:=Ws.here (aO hS0.box 3 rfl);have k1:=Ws.here (aO hq0 1 rfl);by_cases hpl:aM vs.length vs cd.A<0
 ·have hE:UP t ps vs ls cd.A cd.B cd.C=5:=if_pos hpl;have hge:decide (aM vs.length vs cd.A<0)=true:=by simpa using hpl
  refine aE w0.heap.size (by kernel_rfl) (by kernel_rfl) ?_;repeat(go_big_quiet_step (first|(go_at_call 192;exact Calls.in_ws (zE) (qO cd.A X vs.length C vs Y ls.length D _ (hvs.later (hB0.trans ((Ws.property _).mono hB0.size))) (by omega)))))
  refine wpQuiet_nil ?_;rintro _ ⟨u,rfl⟩;have hBu:=hB0.trans (u.property.mono hB0.size);have hpu:=aA u.property hq1;generalize u.val=wu at hBu hpu⊢;clear u;clear s2 s3 k1 hS0 hq0 hq1;obtain⟨q0,q1⟩:=aZ hpu rfl rfl;obtain⟨qz0,qz1⟩:=eA hpu;go_wp2;refine bodyPost_ret (v:= .tuple #[.agg #[.int .i64 0, .int .i64 0], .int .i64 5]) (by simp[results,Tryz.results148,go_sem,q0,q1]) rfl ?_;exact⟨0,0,by rw[hE],((iA.of hBu (by omega)).put (by omega) (by omega)).put (by omega) (by omega),fun h=>absurd (hE.symm.trans h) (by decide)⟩
 ·have hE:Hid (UP t ps vs ls cd.A cd.B cd.C=if dU t ps cd.B cd.C cd.A=0 then jO vs.length vs ls.length ls cd.A (gwR ps cd.B cd.C)else dU t ps cd.B cd.C cd.A):=if_neg hpl;have hge:decide (aM vs.length vs cd.A<0)=false:=by simpa using hpl
  refine aE w0.heap.size (by kernel_rfl) (by kernel_rfl) ?_;repeat(go_big_quiet_step (first|(go_at_call 192;exact Calls.in_ws (zE) (qO cd.A X vs.length C vs Y ls.length D _ (hvs.later (hB0.trans ((Ws.property _).mono hB0.size))) (by omega)))))
  refine wpQuiet_nil ?_;rintro _ ⟨u,rfl⟩;have hBu:=hB0.trans (u.property.mono hB0.size);have hpu:=aA u.property hq1;have hcu:=aA u.property hq0;have hSu:=hS0.later u.property;generalize u.val=wu at hBu hpu hcu hSu⊢;clear u;clear s2 s3 k1 hS0 hq0 hq1 hge hpl;go_upto_region 3 with fail
  have s0:=Ws.here (aO hSu.box 0 rfl);have s1:=Ws.here (aO hSu.box 1 rfl);have k1:=Ws.here (aO hcu 1 rfl);have k2:=Ws.here (aO hcu 2 rfl);have k3:=Ws.here (aO hcu 3 rfl);refine bK [0,1,2,3,4,5,6,7,8,9,10] 11 [12,13,14,15,16,17] [18,19,20] (by kernel_rfl) (by kernel_rfl) (fun d _ _ _ _ h=>by cases d<;>exact h) ?_;simp only[zK,zM,zI,zJ];repeat(go_big_quiet_step (fail))
  refine wpQuiet_nil ?_;clear s0 s1 k1 k2 k3;intro K hK;go_wp2_with fail;refine(QT t x ps.length c ps cd.B cd.C cd.A wu.drew ((hk.later hBu).later (zD).drew)).mono ?_;rintro e w1 ⟨v,rs,t',a',l',rfl,hb1,hO1,hE1,hE2⟩;have hB1:Below wu.heap.size wu w1:=⟨hb1.os,hb1.tape,hb1.output,hb1.size,hb1.block⟩;have hS1:=hSu.later hB1;have hp1:=aA hB1 hpu;have hc1:=aA hB1 hcu;have hBw1:=hBu.trans (hB1.mono hBu.size);have hO2:eT w1 base v rs rs.length:=hO1.low (Nat.le_trans (by omega) hBu.size);obtain⟨x1,c1,hv1, -⟩:=hO1.row.mem;subst hv1;have hbx:pC w1 (w.heap.size+1) 53:=⟨_,hp1⟩;have ne1:bs≠w.heap.size+1:=by omega
  have ne2:w.heap.size≠bs:=by omega
  have ne3:w.heap.size≠w.heap.size+1:=by omega
  have ne4:w.heap.size+1≠bs:=by omega
  clear hb1 hO1;by_cases h0:dU t ps cd.B cd.C cd.A=0
  ·obtain⟨rfl,hal,hqq⟩:=hE2 h0;rw[if_pos h0]at hE;rw[h0];clear hE1 hE2 h0;go_wp2_with fail;refine aC (hK.out _ _ hB1 ?_);clear hK K;repeat(go_big_quiet_step (fail))
   refine wpQuiet_nil ?_;obtain⟨g0,g1,g2,g3⟩:=fW hS1.box rfl rfl rfl rfl;obtain⟨gz0,gz1,gz2,gz3⟩:=pG hS1.box;obtain⟨q0,q1⟩:=aZ hp1 rfl rfl;obtain⟨qz0,qz1⟩:=eA hp1;go_upto_region 6 with fail
   obtain⟨w2,hw2⟩:∃w2,w2=(((w1.setCell ⟨bs,0,none⟩ (.int .i64 t')).setCell ⟨bs,1,none⟩ (.slice x1 rs.length c1)).setCell ⟨w.heap.size+1,0,none⟩ (.int .i64 a')).setCell ⟨w.heap.size+1,1,none⟩ (.int .i64 l'):=⟨_,rfl⟩;rw[<-hw2];have hS2:lI w2 base bs t' rs vs ls (.slice x1 rs.length c1) (.slice X vs.length C) (.slice Y ls.length D):=by rw[hw2];exact((hS1.putB hO2).put hbx.put.put (by decide) ne1).put hbx.put.put.put (by decide) ne1
   have hp2:w2.heap[w.heap.size+1]?=some (pfO a' l'):=by rw[hw2];exact zC (zC ((zB ne4).trans ((zB ne4).trans hp1)))
   have hc2:w2.heap[w.heap.size]?=some (AA cd):=by rw[hw2];exact(zB ne3).trans ((zB ne3).trans ((zB ne2).trans ((zB ne2).trans hc1)))
   have hT2:iA base bs w w2:=by rw[hw2];exact((((iA.of hBw1 (by omega)).set hlow).set hlow).put (by omega) (by omega)).put (by omega) (by omega)
   have hsz2:w.heap.size+1<w2.heap.size:=(zG hp2);clear hw2 hS1 hp1 hc1 hO2 hbx g0 g1 g2 g3 gz0 gz1 gz2 gz3 q0 q1 qz0 qz1;obtain⟨X',C',hv',hvs2,hvc2, -⟩:=hS2.own.row.vs (fun u hu=>(hS2.own.net u hu).ok);simp only[Value.slice.injEq]at hv';obtain⟨rfl, -,rfl⟩:=hv';obtain⟨Y',D',hk',hps2, -⟩:=hS2.own.lks.ps;simp only[Value.slice.injEq]at hk';obtain⟨rfl, -,rfl⟩:=hk';have q0:=Ws.here (aO hp2 0 rfl);have q1:=Ws.here (aO hp2 1 rfl);have s2:=Ws.here (aO hS2.box 2 rfl);have s3:=Ws.here (aO hS2.box 3 rfl);have k1:=Ws.here (aO hc2 1 rfl);have k2:=Ws.here (aO hc2 2 rfl);refine bK [0,1,2,3,4,5,6,7,8,9,10] 11 [12,13,14,15,16] [17,18] (by kernel_rfl) (by kernel_rfl) (fun d _ _ _ _ h=>by cases d<;>exact h) ?_;simp only[zK,zM,zI,zJ];repeat(go_big_quiet_step (fail))
   refine wpQuiet_nil ?_;clear s2 s3 k1 k2 q0 q1;intro K hK;go_wp2_with fail;refine(OI X vs.length C vs Y ls.length D ls cd.A ⟨a',l',cd.B⟩ w2.drew (hvs2.later (zD).drew) hv63 hvc (hps2.later (zD).drew) hl63).mono ?_;rintro e w3 ⟨V,rfl,hb3,hV0,hV1⟩;have hB1:Below w2.heap.size w2 w3:=⟨hb3.os,hb3.tape,hb3.output,hb3.size,hb3.block⟩;have hS3:=hS2.later hB1;have hp3:=aA hB1 hp2;have hT3:iA base bs w w3:=hT2.trans (iA.of hB1 (by omega));have hgr:gwR ps cd.B cd.C=⟨a',l',cd.B⟩:=by unfold gwR;rw[<-hal]
   have hE':Hid (UP t' ps vs ls cd.A cd.B cd.C=jO vs.length vs ls.length ls cd.A ⟨a',l',cd.B⟩):=by show _=_;rw[hE.out,hgr]
   obtain⟨y1,m1,d1,y2,m2,d2,rfl⟩:=uG hV0 hV1;have hbx3:pC w3 (w.heap.size+1) 53:=⟨_,hp3⟩;clear hV0 hb3 hgr;go_wp2_with fail;refine aC (hK.out _ _ hB1 ?_);clear hK K;repeat(go_big_quiet_step (fail))
   refine wpQuiet_nil ?_;obtain⟨g0,g1,g2,g3⟩:=fW hS3.box rfl rfl rfl rfl;obtain⟨gz0,gz1,gz2,gz3⟩:=pG hS3.box;obtain⟨q0,q1⟩:=aZ hp3 rfl rfl;obtain⟨qz0,qz1⟩:=eA hp3;go_wp2;refine bodyPost_ret (v:= .tuple #[.agg #[.int .i64 a', .int .i64 l'], .int .i64 (jO vs.length vs ls.length ls cd.A ⟨a',l',cd.B⟩)]) (by simp[results,Tryz.results148,go_sem,q0,q1]) rfl ?_;refine⟨a',l',by rw[hE'.out],(((hT3.set hlow).set hlow).put (by omega) (by omega)).put (by omega) (by omega),fun h=>?_⟩;rw[hE'.out]at h;obtain⟨us,ms,⟨v',k',e',hOV,hVo,hOK⟩,hR⟩:=hV1 h
   cases e';have hlo:base<=w2.drew.heap.size:=by show base<=w2.heap.size;omega
   exact⟨rs,us,ms,_,_,_,((hS3.putN (hOV.low hlo) (fun u hu=>((hVo u hu).low hlo).vty) (hOK.low hlo)).put hbx3.put.put (by decide) ne1).put hbx3.put.put.put (by decide) ne1,⟨hal,hqq⟩,hR⟩
  ·have hne:(dU t ps cd.B cd.C cd.A !=0)=true:=by simpa using h0
   have hE':Hid (UP t ps vs ls cd.A cd.B cd.C=dU t ps cd.B cd.C cd.A):=by show _=_;rw[hE.out,if_neg h0]
   have h0':Hid (dU t ps cd.B cd.C cd.A≠0):=h0;clear h0 hE hE1 hE2;go_wp2_with fail;refine aC (hK.out _ _ hB1 ?_);clear hK K;repeat(go_big_quiet_step (fail))
   refine wpQuiet_nil ?_;obtain⟨g0,g1,g2,g3⟩:=fW hS1.box rfl rfl rfl rfl;obtain⟨gz0,gz1,gz2,gz3⟩:=pG hS1.box;obtain⟨q0,q1⟩:=aZ hp1 rfl rfl;obtain⟨qz0,qz1⟩:=eA hp1;go_upto_region 4 with fail
   obtain⟨w2,hw2⟩:∃w2,w2=(((w1.setCell ⟨bs,0,none⟩ (.int .i64 t')).setCell ⟨bs,1,none⟩ (.slice x1 rs.length c1)).setCell ⟨w.heap.size+1,0,none⟩ (.int .i64 a')).setCell ⟨w.heap.size+1,1,none⟩ (.int .i64 l'):=⟨_,rfl⟩;rw[<-hw2];have hp2:w2.heap[w.heap.size+1]?=some (pfO a' l'):=by rw[hw2];exact zC (zC ((zB ne4).trans ((zB ne4).trans hp1)))
   have hT2:iA base bs w w2:=by rw[hw2];exact((((iA.of hBw1 (by omega)).set hlow).set hlow).put (by omega) (by omega)).put (by omega) (by omega)
   clear hw2 hS1 hp1 hO2 hbx g0 g1 g2 g3 gz0 gz1 gz2 gz3 q0 q1 qz0 qz1;obtain⟨q0,q1⟩:=aZ hp2 rfl rfl;obtain⟨qz0,qz1⟩:=eA hp2;go_wp2;refine bodyPost_ret (v:= .tuple #[.agg #[.int .i64 0, .int .i64 0], .int .i64 (dU t ps cd.B cd.C cd.A)]) (by simp[results,Tryz.results148,go_sem,q0,q1]) rfl ?_;exact⟨0,0,by rw[hE'.out],(hT2.put (by omega) (by omega)).put (by omega) (by omega),fun h=>absurd (hE'.out.symm.trans h) h0'.out⟩
end Go.Proofs.YtkgeoeglidnnnaaGreatDoor
