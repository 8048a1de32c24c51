/- A part of the proof. -/
import Derived.Test.YtkgeoeglidnnnaaGreatDoorMD13
set_option maxRecDepth 100000
set_option maxHeartbeats 20000000
namespace Go.Proofs.YtkgeoeglidnnnaaGreatDoor
variable {p q : Po} {qs : List Po} {x : Option Addr} {c : Oper} {ls ls' m : List Le} {V vs : List Vn} {L : List (Int × Int)} {s r : fQ} {cd : Cd} {E a n A B C a0 l0 mn mx us co vid : Int} {l ts : List Oper} {e : Le} {k j0 g base b : Nat} {rs : List Rg} {P : Program} {Q : Exit → Act → World → Prop} {w w' w1 u : World} {T : Nat → Bool} {cs : List Value} {v : Value} {ss : List Sb}
open Go.RowKit Go.Shelf
abbrev KG(x:Option Addr)(c:Nat)(ls:List Le):Po:=⟨7,0,256,8,8,16,12,3,x,ls.length,c,ls⟩
structure wX(ls:List Le)(V:List Vn)(L:List (Int×Int))(s:fQ):Prop where
 t0:s.t=0
 ps:∃x c,s.ps=[KG x c ls]
 vs:s.vs.map cY=V
 lk:s.ls=L
theorem uI(h:eC [p] qs):∃q,qs=[q]/\rJ p q:=by
 match qs,h with
 |[],h=>exact absurd h.1 (by simp)
 |[q],h=>exact⟨q,rfl,h.2 0 (by simp)⟩
 |_::_::_,h=>exact absurd h.1 (by simp)
theorem AB{c:Nat}(h:rJ (KG x c ls) q):q=KG q.x q.c ls:=by
 obtain⟨id,up,a,l,mn,mx,us,co,x',n,c',ls'⟩:=q;obtain⟨h1,h2,h3,h4,h5,h6,h7,h8,h9,h10⟩:=h;simp only at h1 h2 h3 h4 h5 h6 h7 h8 h9 h10;subst h1 h2 h3 h4 h5 h6 h7 h8 h9 h10;rfl
theorem wX.same{q:fQ}(h:wX ls V L s)(hq:lJ s q):wX ls V L q:=by
 obtain⟨h1,h2,h3,h4⟩:=hq;obtain⟨x,c,hp⟩:=h.ps;rw[hp]at h2;obtain⟨p,hp',hs⟩:=uI h2;refine⟨h1.trans h.t0,⟨p.x,p.c,by rw[hp',<-AB hs]⟩,by rw[<-h3.can];exact h.vs,h4.trans h.lk⟩
theorem AC{l:Int}(h:EM s cd E a l n r)(hz:∀q E n,lJ s q->pD q cd E n->E=0):E=0/\∃q,lJ s q/\pD q cd 0 n/\uH q cd a l n r:=by
 obtain⟨q,hq,⟨h0,⟨n',hE⟩, -⟩|⟨h0,hE,hR⟩⟩:=h
 ·exact absurd (hz q E n' hq hE) h0
 ·exact⟨h0,q,hq,hE,hR⟩
theorem WO(h:rK e [] ls'):ls'=[e]:=by
 obtain⟨i,hi, -, -,rfl⟩:=h;simp
theorem aDg:pD s ⟨1,A,B,C,a0,l0,mn,mx,us,co⟩ E n↔(E=gQ s.t s.ps A a0 l0 mn mx us co):=by unfold pD;simp
theorem aDh{l:Int}:uH s ⟨1,A,B,C,a0,l0,mn,mx,us,co⟩ a l n r↔(a=0/\l=0/\n=0/\r.t=s.t/\r.vs=s.vs/\r.ls=s.ls/\∃qs,eC s.ps qs/\F5 ⟨A,0,a0,l0,mn,mx,us,co,none,0,0,[]⟩ qs r.ps):=by unfold uH;simp
theorem aDi:pD s ⟨6,A,B,C,a0,l0,mn,mx,us,co⟩ E n↔(E=ZW s.t s.ps s.vs A a0 l0):=by unfold pD;simp
theorem aDj:pD s ⟨7,A,B,C,a0,l0,mn,mx,us,co⟩ E n↔(E=ZU s.ps s.vs s.ls A):=by unfold pD;simp
theorem aDk{l:Int}:uH s ⟨7,A,B,C,a0,l0,mn,mx,us,co⟩ a l n r↔(a=0/\l=0/\n=0/\r.t=s.t/\r.ps=s.ps/\HE s.vs s.ls A r.vs r.ls):=by unfold uH;simp
theorem aDl:pD s ⟨8,A,B,C,a0,l0,mn,mx,us,co⟩ E n↔(E=UP s.t s.ps s.vs s.ls A B C):=by unfold pD;simp
theorem aDm{l:Int}:uH s ⟨8,A,B,C,a0,l0,mn,mx,us,co⟩ a l n r↔(n=0/\r.t=s.t/\EK s.ps B C A a l r.ps/\uC s.vs.length s.vs s.ls A ⟨a,l,B⟩ r.vs r.ls):=by unfold uH;simp
theorem aDn:pD s ⟨9,A,B,C,a0,l0,mn,mx,us,co⟩ E n↔(DpA s.t s.ps s.vs A a0 l0 E):=by unfold pD;simp
theorem aDo{l:Int}:uH s ⟨9,A,B,C,a0,l0,mn,mx,us,co⟩ a l n r↔(a=0/\l=0/\n=0/\r.ls=s.ls/\DpR s.t s.ps s.vs A a0 l0 r.t r.ps r.vs):=by unfold uH;simp
theorem Z9:pD s ⟨15,A,B,C,a0,l0,mn,mx,us,co⟩ E n↔(E=pP s.vs.length s.vs s.ls.length s.ls A B):=by unfold pD;simp
theorem aAa{l:Int}:uH s ⟨15,A,B,C,a0,l0,mn,mx,us,co⟩ a l n r↔(a=0/\l=0/\n=0/\r.t=s.t/\r.ps=s.ps/\LM s.vs s.ls A B r.vs r.ls):=by unfold uH;simp
theorem aAb:pD s ⟨10,A,B,C,a0,l0,mn,mx,us,co⟩ E n↔((aM s.vs.length s.vs A<0/\E=5/\n=0)\/∃k:Nat,k<s.vs.length/\aM s.vs.length s.vs A=k/\IF (vnAt s.vs k) ⟨10,A,B,C,a0,l0,mn,mx,us,co⟩ E n):=by unfold pD;simp
theorem aAc{l:Int}:uH s ⟨10,A,B,C,a0,l0,mn,mx,us,co⟩ a l n r↔(a=0/\l=0/\r.t=s.t/\r.ps=s.ps/\r.ls=s.ls/\∃(k:Nat) (u:Vn),k<s.vs.length/\aM s.vs.length s.vs A=k/\VnR (vnAt s.vs k) ⟨10,A,B,C,a0,l0,mn,mx,us,co⟩ n u/\r.vs=s.vs.set k u):=by unfold uH;simp
theorem aAd:pD s ⟨12,A,B,C,a0,l0,mn,mx,us,co⟩ E n↔((aM s.vs.length s.vs A<0/\E=5/\n=0)\/∃k:Nat,k<s.vs.length/\aM s.vs.length s.vs A=k/\IF (vnAt s.vs k) ⟨12,A,B,C,a0,l0,mn,mx,us,co⟩ E n):=by unfold pD;simp
theorem aAe{l:Int}:uH s ⟨12,A,B,C,a0,l0,mn,mx,us,co⟩ a l n r↔(a=0/\l=0/\r.t=s.t/\r.ps=s.ps/\r.ls=s.ls/\∃(k:Nat) (u:Vn),k<s.vs.length/\aM s.vs.length s.vs A=k/\VnR (vnAt s.vs k) ⟨12,A,B,C,a0,l0,mn,mx,us,co⟩ n u/\r.vs=s.vs.set k u):=by unfold uH;simp
theorem WP{l:Int}(h:EM ⟨0,[],[],[]⟩ ⟨1,7,0,0,256,8,8,16,12,3⟩ E a l n r):E=0/\wX [] [] [] r:=by
 have hz:∀q,lJ ⟨0,[],[],[]⟩ q->q.t=0/\q.ps=[]/\q.vs=[]/\q.ls=[]:=fun q hq=>⟨hq.1,List.eq_nil_of_length_eq_zero hq.2.1.1.symm,List.eq_nil_of_length_eq_zero hq.2.2.1.1.symm,hq.2.2.2⟩;obtain⟨hE0,q,hq, -,hR⟩:=AC h (fun q E n hq hE=>by
  obtain⟨h1,h2,h3,h4⟩:=hz q hq;rw[aDg,h1,h2]at hE;rw[hE];kernel_rfl)
 obtain⟨h1,h2,h3,h4⟩:=hz q hq;rw[aDh,h1,h2,h3,h4]at hR;obtain⟨-, -, -,g1,g2,g3,qs,g4,i,hi, -, -,g5⟩:=hR;obtain rfl:qs=[]:=List.eq_nil_of_length_eq_zero g4.1.symm;refine⟨hE0,g1,⟨none,0,?_⟩,by rw[g2];rfl,g3⟩;rw[g5];simp
theorem dO(h:vs.map cY=V):vs.length=V.length:=by rw[<-h,List.length_map]
theorem LZ{id l:Int}(hS:wX [] V [] s)(hE:jM V.length V 0 [] id=0)(h:EM s ⟨7,id,0,0,0,0,0,0,0,0⟩ E a l n r):E=0/\wX [] (zU id V) [] r:=by
 obtain⟨hE0,q,hq, -,hR⟩:=AC h (fun q E n hq hE'=>by
  have hQ:=hS.same hq;obtain⟨x,c,hp⟩:=hQ.ps;rw[aDj]at hE';unfold ZU at hE';rw[hp,if_neg (by show¬uE (bL [KG x c []]) id=true;rw[show uE (bL [KG x c []]) id=false by rfl];decide),<-OJ,hQ.vs,dO hQ.vs,hQ.lk]at hE';rw[hE'];exact hE)
 have hQ:=hS.same hq;rw[aDk]at hR;obtain⟨-, -, -,g1,g2,g3,g4⟩:=hR;exact⟨hE0,g1.trans hQ.t0,by rw[g2];exact hQ.ps,by rw[g3.can,hQ.vs],g4.trans hQ.lk⟩
theorem at7(x:Option Addr)(c:Nat)(ls:List Le):aS [KG x c ls] 7=0:=kT (i:=0) (by simp) rfl (fun j hj=>absurd hj (Nat.not_lt_zero _))
theorem po7(x:Option Addr)(c:Nat)(ls:List Le):poAt [KG x c ls] (0:Int).toNat=KG x c ls:=rfl
theorem L0{z l:Int}(hS:wX ls V [] s)(htk:∀x c,dU 0 [KG x c ls] 7 z A=0)(hpf:∀x c,jY (KG x c ls) (pJ (KG x c ls) z)=(a0,l0))(hng:jO V.length V 0 [] A ⟨a0,l0,7⟩=0)(hpl:aM V.length V A=k)(hput:∀m,rK ⟨a0,l0,1,A,0⟩ ls m->m=ls')
 (h:EM s ⟨8,A,7,z,0,0,0,0,0,0⟩ E a l n r):(E,a,l,n)=(0,a0,l0,0)/\wX ls' (dY V k ⟨a0,l0,7⟩) [] r:=by
 obtain⟨h0,q,hq, -,hR⟩:=AC h (fun q E n hq hE'=>by
  have hQ:=hS.same hq;obtain⟨x,c,hp⟩:=hQ.ps;rw[aDl]at hE';unfold UP gwR at hE';rw[<-bO,hQ.vs,dO hQ.vs,hpl,if_neg (by omega),hQ.t0,hp,htk,if_pos rfl,at7,po7,hpf,<-J9,hQ.vs,hQ.lk]at hE';rw[hE'];exact hng)
 have hQ:=hS.same hq;obtain⟨x,c,hp⟩:=hQ.ps;rw[aDm]at hR;obtain⟨g1,g2,⟨g3,qs,x',c',m,g4,g5,g6⟩,g7,g8⟩:=hR;rw[hp,at7,po7]at g3 g5;rw[hp]at g4;rw[hpf]at g3;simp only[Prod.mk.injEq]at g3;obtain⟨rfl,rfl⟩:=g3;obtain rfl:=hput m g5;obtain⟨p,rfl,hs⟩:=uI g4;refine⟨by rw[h0,g1],g2.trans hQ.t0,⟨x',c',?_⟩,?_,g8.trans hQ.lk⟩
 ·rw[g6,hp,at7,AB hs];rfl
 ·rw[<-g7.can,zS,hQ.vs,<-bO,hQ.vs,dO hQ.vs,hpl,Int.toNat_natCast]
theorem WQ{l:Int}(hS:wX ls V [] s)(hj:pP V.length V 0 [] A B=0)(h:EM s ⟨15,A,B,0,0,0,0,0,0,0⟩ E a l n r):E=0/\wX ls V (jN (min A B,max A B) []) r:=by
 obtain⟨hE0,q,hq, -,hR⟩:=AC h (fun q E n hq hE'=>by
  have hQ:=hS.same hq;rw[Z9,<-OK,hQ.vs,dO hQ.vs,hQ.lk]at hE';rw[hE'];exact hj)
 have hQ:=hS.same hq;rw[aAa]at hR;obtain⟨-, -, -,g1,g2,g3,g4⟩:=hR;exact⟨hE0,g1.trans hQ.t0,by rw[g2];exact hQ.ps,by rw[<-g3.can];exact hQ.vs,by rw[g4,hQ.lk]⟩
theorem KH(h:vs.map cY=V):cY (vnAt vs k)=vnAt V k:=by rw[<-h,eN]
theorem aAf{id c m:Int}{l:Int}(hS:wX ls V L s)(hpl:aM V.length V A=k)(hv:vnAt V k=⟨vid,none,rs.length,0,rs,none,0,0,[]⟩)(hE:sE vid rs.length rs 0 [] id c m=0)
 (h:EM s ⟨10,A,id,0,c,m,0,0,0,0⟩ E a l n r):E=0/\wX ls (V.set k ⟨vid,none,rs.length,0,rs,none,1,0,[⟨id,c,m,none,0,0,[]⟩]⟩) L r:=by
 have key:∀q,lJ s q->∀k':Nat,aM q.vs.length q.vs A=k'->k'=k/\(vnAt q.vs k).id=vid/\(vnAt q.vs k).rn=rs.length/\(vnAt q.vs k).rs=rs/\(vnAt q.vs k).sn=0/\(vnAt q.vs k).ss=[]:=fun q hq k' hk'=>by
  have hQ:=hS.same hq;rw[<-bO,hQ.vs,dO hQ.vs,hpl]at hk';have hc:=KH (k:=k) hQ.vs;rw[hv]at hc;unfold cY at hc;simp only[Vn.mk.injEq,true_and]at hc;exact⟨by omega,hc.1,hc.2.1,hc.2.2.1,hc.2.2.2.1,by simpa using hc.2.2.2.2⟩
 obtain⟨hE0,q,hq, -,hR⟩:=AC h (fun q E n hq hE'=>by
  have hQ:=hS.same hq;rw[aAb]at hE';rcases hE' with ⟨hn, -⟩|⟨k', -,hk',hW⟩
  ·rw[<-bO,hQ.vs,dO hQ.vs,hpl]at hn;omega
  ·obtain⟨rfl,e1,e2,e3,e4,e5⟩:=key q hq k' hk';unfold IF at hW;rw[if_pos rfl,e1,e2,e3,e4,e5]at hW;rw[hW.1];exact hE)
 have hQ:=hS.same hq;rw[aAc]at hR;obtain⟨-, -,g1,g2,g3,k',u, -,hk',⟨u1,u2,u3,u4,u5⟩,g4⟩:=hR;obtain⟨rfl,e1,e2,e3,e4,e5⟩:=key q hq k' hk';unfold WiR at u4;rw[if_pos rfl,e5]at u4;obtain⟨ts,hts,i,hi, -, -,hus⟩:=u4;obtain rfl:ts=[]:=List.eq_nil_of_length_eq_zero hts.1.symm;have hss:u.ss=[⟨id,c,m,none,0,0,[]⟩]:=by rw[hus];simp
 refine⟨hE0,g1.trans hQ.t0,by rw[g2];exact hQ.ps,?_,g3.trans hQ.lk⟩;rw[g4,List.map_set,hQ.vs];congr 1;unfold cY;rw[u1,u2,u3,u5,hss,e1,e3];rfl
theorem WR{id sub c m y0:Int}{l:Int}(hS:wX ls V L s)(hpl:aM V.length V A=k)(hv:vnAt V k=⟨vid,none,rs.length,0,rs,none,1,0,[⟨sub,c,m,none,0,0,[]⟩]⟩)
 (hch:∀x d,bN vid rs.length rs 1 [⟨sub,c,m,x,0,d,[]⟩]=0)(hf0:∀x d,tW ⟨sub,c,m,x,0,d,[]⟩ id=0)(hL:∀x d,sF ⟨sub,c,m,x,0,d,[]⟩ y0)
 (h:EM s ⟨12,A,sub,id,0,0,0,0,0,0⟩ E a l n r):(E,a,l,n)=(0,0,0,y0)/\wX ls (V.set k ⟨vid,none,rs.length,0,rs,none,1,0,[⟨sub,c,m,none,1,0,[⟨id,none,1,0,[y0]⟩]⟩]⟩) L r:=by
 have key:∀q,lJ s q->∀k':Nat,aM q.vs.length q.vs A=k'->k'=k/\(vnAt q.vs k).id=vid/\(vnAt q.vs k).rn=rs.length/\(vnAt q.vs k).rs=rs/\(vnAt q.vs k).sn=1/\∃x d,(vnAt q.vs k).ss=[⟨sub,c,m,x,0,d,[]⟩]:=fun q hq k' hk'=>by
  have hQ:=hS.same hq;rw[<-bO,hQ.vs,dO hQ.vs,hpl]at hk';have hc:=KH (k:=k) hQ.vs;rw[hv]at hc;unfold cY at hc;simp only[Vn.mk.injEq,true_and]at hc;refine⟨by omega,hc.1,hc.2.1,hc.2.2.1,hc.2.2.2.1,?_⟩;obtain⟨t,ht,e⟩:=List.map_eq_singleton_iff.1 hc.2.2.2.2;obtain⟨i1,i2,i3,i4,i5,i6,i7⟩:=t;unfold mJ at e;simp only[Sb.mk.injEq,true_and,List.map_eq_nil_iff]at e;obtain⟨rfl,rfl,rfl,rfl,rfl⟩:=e;exact⟨i4,i6,ht⟩
 have one:∀q,lJ s q->∀E n,pD q ⟨12,A,sub,id,0,0,0,0,0,0⟩ E n->E=0/\n=y0:=fun q hq E n hE'=>by
  have hQ:=hS.same hq;rw[aAd]at hE';rcases hE' with ⟨hn, -⟩|⟨k', -,hk',hW⟩
  ·rw[<-bO,hQ.vs,dO hQ.vs,hpl]at hn;omega
  ·obtain⟨rfl,e1,e2,e3,e4,x,d,e5⟩:=key q hq k' hk';unfold IF at hW;rw[if_neg (by simp),if_neg (by simp),if_pos rfl,e1,e2,e3,e4,e5]at hW;unfold sH at hW;rw[if_neg (by rw[hch];decide)]at hW;rcases hW with ⟨hn, -⟩|⟨i,hi,hF⟩
   ·exact absurd rfl (hn 0 (by omega))
   ·obtain rfl:i=0:=by have:=hi.isn;omega
    exact(hF.2 (hf0 x d)).one (.inl ⟨rfl,hL x d⟩)
 obtain⟨h0,q,hq,hE,hR⟩:=AC h (fun q E n hq hE'=>(one q hq E n hE').1);have hn:=(one q hq _ _ hE).2;have hQ:=hS.same hq;rw[aAe]at hR;obtain⟨ga,gl,g1,g2,g3,k',u, -,hk',⟨u1,u2,u3,u4,u5⟩,g4⟩:=hR;obtain⟨rfl,e1,e2,e3,e4,x,d,e5⟩:=key q hq k' hk';unfold WiR at u4;rw[if_neg (by simp),if_neg (by simp),if_pos rfl,e4,e5]at u4;obtain⟨ts,i,x',n',c',fx,gs,k1, -,k3,k4,k5,k6⟩:=u4;obtain rfl:i=0:=by have:=k1.isn;omega
 have hts:ts.map mJ=[⟨sub,c,m,none,0,0,[]⟩]:=k3.can.symm;obtain⟨t,rfl,e⟩:=List.map_eq_singleton_iff.1 hts;obtain⟨i1,i2,i3,i4,i5,i6,i7⟩:=t;unfold mJ at e;simp only[Sb.mk.injEq,true_and,List.map_eq_nil_iff]at e;obtain⟨rfl,rfl,rfl,rfl,rfl⟩:=e;obtain⟨p,hp, -, -,hgs⟩:=k4;have hg1:gs=[⟨id,fx,1,1,[n]⟩]:=by rw[hgs];simp[aG]
 subst hg1;subst k5;refine⟨by rw[h0,ga,gl,hn],g1.trans hQ.t0,by rw[g2];exact hQ.ps,?_,g3.trans hQ.lk⟩;rw[g4,List.map_set,hQ.vs];congr 1;unfold cY;rw[u1,u2,u3,u5,k6,e1,e3,hn];rfl
theorem WS{c m:Int}{g:Rg}{l:Int}(hS:wX ls V L s)(hpl:aM V.length V A=k)(hv:vnAt V k=⟨vid,none,1,0,[g],none,0,0,[]⟩)(hd:gU vid 1 [g] 0 [] c m=0)(hg7:g.p=7)
 (hge:∀x d,nN 0 [KG x d ls] 7 g.a g.l=0)(hfi:∀x d,cE (KG x d ls).n (mB ls g.a g.l)=j0)(hcl:∀x d,kA (KG x d ls) j0 0=ls')
 (h:EM s ⟨9,A,0,0,c,m,0,0,0,0⟩ E a l n r):E=0/\wX ls' (V.set k ⟨vid,none,0,0,[],none,0,0,[]⟩) L r:=by
 have key:∀q,lJ s q->∀k':Nat,aM q.vs.length q.vs A=k'->k'=k/\(vnAt q.vs k).id=vid/\(vnAt q.vs k).rn=1/\(vnAt q.vs k).rs=[g]/\(vnAt q.vs k).sn=0/\(vnAt q.vs k).ss=[]:=fun q hq k' hk'=>by
  have hQ:=hS.same hq;rw[<-bO,hQ.vs,dO hQ.vs,hpl]at hk';have hc:=KH (k:=k) hQ.vs;rw[hv]at hc;unfold cY at hc;simp only[Vn.mk.injEq,true_and]at hc;exact⟨by omega,hc.1,hc.2.1,hc.2.2.1,hc.2.2.2.1,by simpa using hc.2.2.2.2⟩
 obtain⟨h0,q,hq, -,hR⟩:=AC h (fun q E n hq hE'=>by
  have hQ:=hS.same hq;obtain⟨x,d,hp⟩:=hQ.ps;rw[aDn]at hE';rcases hE' with ⟨hn, -⟩|⟨k', -,hk',hW⟩
  ·rw[<-bO,hQ.vs,dO hQ.vs,hpl]at hn;omega
  ·obtain⟨rfl,e1,e2,e3,e4,e5⟩:=key q hq k' hk';rw[e1,e2,e3,e4,e5,hd]at hW;rcases hW with ⟨hn, -⟩|⟨-,i,hi,hE⟩
   ·exact absurd rfl hn
   ·have hi1:=hi.lt;rw[e2]at hi1;obtain rfl:i=0:=by omega
    rw[hQ.t0,hp,show(rgAt [g] 0).p=7 from hg7]at hE;rw[hE];exact hge x d)
 have hQ:=hS.same hq;obtain⟨x,d,hp⟩:=hQ.ps;rw[aDo]at hR;obtain⟨-, -, -,g3,k',i,u, -,hk', -,hi,hus,u1,u2,u3,u4,u5,g1,qs,x',c',g4,g6⟩:=hR;obtain⟨rfl,e1,e2,e3,e4,e5⟩:=key q hq k' hk';have hi1:=hi.lt;rw[e2]at hi1;obtain rfl:i=0:=by omega
 rw[e3]at u2 g6;rw[show(rgAt [g] 0).p=7 from hg7,hp,at7,po7,show(rgAt [g] 0)=g from rfl,hfi,Int.toNat_natCast,show(0:Int).toNat=0 from rfl,hQ.t0,hcl]at g6;rw[hp]at g4;obtain⟨p,rfl,hs⟩:=uI g4;have hss:u.ss=[]:=List.eq_nil_of_length_eq_zero (by rw[<-u4.1,e5];rfl);have hrs:u.rs=[]:=by rw[u2];rfl
 refine⟨h0,g1.trans hQ.t0,⟨x',c',?_⟩,?_,g3.trans hQ.lk⟩
 ·rw[g6,AB hs];rfl
 ·rw[hus,List.map_set,hQ.vs];congr 1;unfold cY;rw[u1,u3,u5,hrs,hss,e1];rfl
theorem WT{o l:Int}(hS:wX ls V L s)(ho:∀x c,mZ (bL [KG x c ls]) 7 a0 l0=o)(hpl:0<=aM V.length V o)(h:EM s ⟨6,7,0,0,a0,l0,0,0,0,0⟩ E a l n r):E=9/\wX ls V L r:=by
 have one:∀q,lJ s q->∀E n,pD q ⟨6,7,0,0,a0,l0,0,0,0,0⟩ E n->E=9:=fun q hq E n hE'=>by
  have hQ:=hS.same hq;obtain⟨x,c,hp⟩:=hQ.ps;rw[aDi]at hE';unfold ZW at hE';rw[hp,ho,<-bO,hQ.vs,dO hQ.vs,if_pos hpl]at hE';exact hE'
 obtain⟨q,hq,⟨-,⟨n',hE⟩, -, -, -,hr⟩|⟨-,hE, -⟩⟩:=h
 ·exact⟨one q hq _ _ hE,hS.same hr⟩
 ·exact absurd (one q hq _ _ hE) (by decide)
def planL:List Cd:=[⟨1,7,0,0,256,8,8,16,12,3⟩,⟨7,1,0,0,0,0,0,0,0,0⟩,⟨7,2,0,0,0,0,0,0,0,0⟩,⟨8,1,7,10,0,0,0,0,0,0⟩,⟨8,2,7,0,0,0,0,0,0,0⟩,⟨15,2,1,0,0,0,0,0,0,0⟩,⟨10,1,4,0,256,14,0,0,0,0⟩,⟨12,1,4,9,0,0,0,0,0,0⟩,⟨9,2,0,0,320,12,0,0,0,0⟩,⟨6,7,0,0,256,10,0,0,0,0⟩]
theorem WU(h:rK ⟨320,12,1,2,0⟩ [⟨256,10,1,1,0⟩] m):m=[⟨256,10,1,1,0⟩,⟨320,12,1,2,0⟩]:=by
 obtain⟨i,hi,h1,h2,rfl⟩:=h;have hi':i<=1:=hi;by_cases e:i=0
 ·subst e;exact absurd (h2 (by simp)) (by decide)
 ·obtain rfl:i=1:=by omega
  rfl
theorem AD(w:World):Calls Tryz.prog 20 #[] w fun e w'=>∃b,e= .returned (.slice (some ⟨b,0,none⟩) 10 10)/\YH w' (some ⟨b,0,none⟩) 10 planL/\Below w.heap.size w w':=by
 go_enter Tryz.func20,Tryz.ntmps20;go_wp2_with fail;refine(M2 _).mono ?_;rintro e w1 ⟨rfl,hb1⟩;go_wp2;go_ret;refine⟨w1.heap.size,rfl,⟨rfl,fun i hi=>?_,fun i hi=>⟨w1.heap.size,0,rfl,?_⟩⟩,hb1.trans ((bl1 w1 _).mono hb1.size)⟩
 ·have:i=0\/i=1\/i=2\/i=3\/i=4\/i=5\/i=6\/i=7\/i=8\/i=9:=by omega
  rcases this with rfl|rfl|rfl|rfl|rfl|rfl|rfl|rfl|rfl|rfl<;>exact⟨⟨rfl,rfl,rfl⟩,by decide⟩
 ·have:i=0\/i=1\/i=2\/i=3\/i=4\/i=5\/i=6\/i=7\/i=8\/i=9:=by omega
  rcases this with rfl|rfl|rfl|rfl|rfl|rfl|rfl|rfl|rfl|rfl<;>simp[cdAt,planL]
def aAg(s:fQ)(cd:Cd)(w:World)(e:Ending)(w':World):Prop:=
 ∃E a l n r vB vV vK,e= .returned (.tuple #[IE r.t vB vV vK,Z3 E a l n, .int .i64 0])/\Below w.heap.size w w'/\SO w' w.heap.size r.ps r.vs r.ls vB vV vK/\EM s cd E a l n r
theorem WV(t:Int)(x:Option Addr)(n c:Nat)(ps:List Po)(X:Option Addr)(vn C:Nat)(vs:List Vn)(Y:Option Addr)(ln D:Nat)(ls:List (Int×Int))(cd:Cd)(w:World)(hs:Si w x n c ps X vn C vs Y ln ls)(hB:aX t ps=0)(hN:bQ vn vs ln ls=0)(hT:hZ t ps vn vs ln ls=0)(hcw:CdP cd):
  Calls Tryz.prog 45 #[IE t (.slice x n c) (.slice X vn C) (.slice Y ln D),WF cd] w (aAg ⟨t,ps,vs,ls⟩ cd w):=by
 go_enter Tryz.func45,Tryz.ntmps45;go_upto_region 1 with fail
 obtain⟨w0,hw0⟩:∃w0,w0=(((w.alloc (lH t (.slice x n c) (.slice X vn C) (.slice Y ln D))).alloc (AA cd)).alloc (lH 0 (.slice none 0 0) (.slice none 0 0) (.slice none 0 0))).alloc (TI 0 0 0 0):=⟨_,rfl⟩;rw[<-hw0];have hB0:Below w.heap.size w w0:=by rw[hw0];exact((bP w _ _).alloc (by simp;omega) _).alloc (by simp;omega) _
 have hq0:w0.heap[w.heap.size]?=some (lH t (.slice x n c) (.slice X vn C) (.slice Y ln D)):=by rw[hw0];exact aH _ (aH _ (aH _ (aB _ rfl)))
 have hq1:w0.heap[w.heap.size+1]?=some (AA cd):=by rw[hw0];exact aH _ (aH _ (aB _ (by simp)))
 have hq2:w0.heap[w.heap.size+2]?=some (lH 0 (.slice none 0 0) (.slice none 0 0) (.slice none 0 0)):=by rw[hw0];exact aH _ (aB _ (by simp))
 have hq3:w0.heap[w.heap.size+3]?=some (TI 0 0 0 0):=by rw[hw0];exact aB _ (by simp)
 clear hw0;have hz3:w.heap.size+3<w0.heap.size:=(zG hq3);have hck:=zZ t x n c ps X vn C vs Y ln D ls w0 (hs.later hB0);rw[hT]at hck;obtain⟨s0,s1,s2,s3⟩:=fW hq0 rfl rfl rfl rfl;go_wp2_with fail;refine hck.mono ?_;rintro e w1 ⟨rfl,hb1⟩;clear s0 s1 s2 s3 hck;have hz1:=hb1.size;have hBw1:Below w.heap.size w w1:=hB0.trans (hb1.mono hB0.size);have h10:=aA hb1 hq0;have h11:=aA hb1 hq1;have h12:=aA hb1 hq2;have h13:=aA hb1 hq3;clear hq0 hq1 hq2 hq3;obtain⟨s0,s1,s2,s3⟩:=fW h10 rfl rfl rfl rfl;obtain⟨k0,k1,k2,k3,k4,k5,k6,k7,k8,k9⟩:=DN h11 rfl rfl rfl rfl rfl rfl rfl rfl rfl rfl;go_wp2_with fail;refine(HP t x n c ps X vn C vs Y ln D ls cd w1 (hs.later hBw1) hB hN hcw).mono ?_;rintro e w2 ⟨E,a,l,n',r,vB,vV,vK,rfl,hb2,hO2,hNx⟩;obtain⟨x5,c5,X5,C5,Y5,D5,rfl,rfl,rfl⟩:=hO2.slices;clear s0 s1 s2 s3 k0 k1 k2 k3 k4 k5 k6 k7 k8 k9;have hNx':Hid (EM ⟨t,ps,vs,ls⟩ cd E a l n' r):=hNx;clear hNx;go_upto_region 5 with fail
 obtain⟨w4,hw4⟩:∃w4,w4=(w2.alloc (lH r.t (.slice x5 r.ps.length c5) (.slice X5 r.vs.length C5) (.slice Y5 r.ls.length D5))).alloc (TI E a l n'):=⟨_,rfl⟩;rw[<-hw4];have hb4:Below w2.heap.size w2 w4:=by rw[hw4];exact bP w2 _ _
 have h4s:w4.heap[w2.heap.size]?=some (lH r.t (.slice x5 r.ps.length c5) (.slice X5 r.vs.length C5) (.slice Y5 r.ls.length D5)):=by rw[hw4];exact aH _ (aB _ rfl)
 have h4a:w4.heap[w2.heap.size+1]?=some (TI E a l n'):=by rw[hw4];exact aB _ (by simp)
 clear hw4;have hb24:Below w1.heap.size w1 w4:=hb2.trans (hb4.mono hb2.size);have hBw4:Below w.heap.size w w4:=hBw1.trans (hb24.mono hBw1.size);have h42:=aA hb24 h12;have h43:=aA hb24 h13;have hO5:=(hO2.later hb4).low hBw1.size;have hz2:=hb2.size;have s0:∀u:vO w4 w2.heap.size (w2.heap.size+1),u.val.cell? ⟨w2.heap.size,0,none⟩=some (.int .i64 r.t):=fun u=>(aD (u.p1.trans h4s)).1 0;have s1:∀u:vO w4 w2.heap.size (w2.heap.size+1),u.val.cell? ⟨w2.heap.size,1,none⟩=some (.slice x5 r.ps.length c5):=fun u=>(aD (u.p1.trans h4s)).1 1;have s2:∀u:vO w4 w2.heap.size (w2.heap.size+1),u.val.cell? ⟨w2.heap.size,2,none⟩=some (.slice X5 r.vs.length C5):=fun u=>(aD (u.p1.trans h4s)).1 2;have s3:∀u:vO w4 w2.heap.size (w2.heap.size+1),u.val.cell? ⟨w2.heap.size,3,none⟩=some (.slice Y5 r.ls.length D5):=fun u=>(aD (u.p1.trans h4s)).1 3;have a0:∀u:vO w4 w2.heap.size (w2.heap.size+1),u.val.cell? ⟨w2.heap.size+1,0,none⟩=some (.int .i64 E):=fun u=>(aD (u.p2.trans h4a)).1 0;have a1:∀u:vO w4 w2.heap.size (w2.heap.size+1),u.val.cell? ⟨w2.heap.size+1,1,none⟩=some (.int .i64 a):=fun u=>(aD (u.p2.trans h4a)).1 1;have a2:∀u:vO w4 w2.heap.size (w2.heap.size+1),u.val.cell? ⟨w2.heap.size+1,2,none⟩=some (.int .i64 l):=fun u=>(aD (u.p2.trans h4a)).1 2;have a3:∀u:vO w4 w2.heap.size (w2.heap.size+1),u.val.cell? ⟨w2.heap.size+1,3,none⟩=some (.int .i64 n'):=fun u=>(aD (u.p2.trans h4a)).1 3;refine bG (fun w'=>∃u:vO w4 w2.heap.size (w2.heap.size+1),w'=u.val) (fun j=>decide (j<3)) 5 _ (by kernel_rfl) rfl rfl ?_;refine bE 3 [0,1] rfl _ rfl (by kernel_rfl) (fun d _ _ _ _ h=>by cases d<;>exact h) ⟨⟨w4.drew,rfl,rfl⟩,rfl⟩ ?_;simp only[zK,zM,zI,zJ];repeat(go_big_quiet_step (fail))
 refine wpQuiet_nil ?_;clear s0 s1 s2 s3 a0 a1 a2 a3;have b2:pC w4 (w.heap.size+2) 30:=⟨_,h42⟩;obtain⟨p0,p1,p2,p3⟩:=fW h42 rfl rfl rfl rfl;obtain⟨pz0,pz1,pz2,pz3⟩:=pG h42;refine aY 2 _ _ (by kernel_rfl) (by kernel_rfl) rfl rfl ?_;intro K hK;simp only[zI,zJ];go_wp2_with fail;obtain⟨w6,hw6⟩:∃w6,w6=((((w4.setCell ⟨w.heap.size+2,0,none⟩ (.int .i64 r.t)).setCell ⟨w.heap.size+2,1,none⟩ (.slice x5 r.ps.length c5)).setCell ⟨w.heap.size+2,2,none⟩ (.slice X5 r.vs.length C5)).setCell ⟨w.heap.size+2,3,none⟩ (.slice Y5 r.ls.length D5)).drew:=⟨_,rfl⟩;rw[<-hw6];have hoth:∀k,k≠w.heap.size+2->w6.heap[k]?=w4.heap[k]?:=fun k hk=>by rw[hw6];exact(zB hk).trans ((zB hk).trans ((zB hk).trans (zB hk)))
 have h62:w6.heap[w.heap.size+2]?=some (lH r.t (.slice x5 r.ps.length c5) (.slice X5 r.vs.length C5) (.slice Y5 r.ls.length D5)):=by rw[hw6];exact zC (zC (zC (zC h42)))
 have hB6:Below w.heap.size w w6:=by rw[hw6];exact(((((hBw4).setCell (p:=⟨w.heap.size+2,0,none⟩) (zA) _).setCell (p:=⟨w.heap.size+2,1,none⟩) (zA) _).setCell (p:=⟨w.heap.size+2,2,none⟩) (zA) _).setCell (p:=⟨w.heap.size+2,3,none⟩) (zA) _).drew
 have hO7:SO w6 w.heap.size r.ps r.vs r.ls (.slice x5 r.ps.length c5) (.slice X5 r.vs.length C5) (.slice Y5 r.ls.length D5):=by rw[hw6];exact(((((hO5).put b2 (by decide)).put b2.put (by decide)).put b2.put.put (by decide)).put b2.put.put.put (by decide)).later (zD).drew
 have h63:=(hoth _ (by omega)).trans h43;refine aC (hK.out _ _ ⟨⟨w6,hoth _ (by omega),hoth _ (by omega)⟩,rfl⟩ ?_);clear hK K hw6 p0 p1 p2 p3 pz0 pz1 pz2 pz3 hoth h42 h43 hO5 b2;refine bB [3,4] rfl (by kernel_rfl) ?_;simp only[zK,zM,zI,zJ];have b3:pC w6 (w.heap.size+3) 81:=⟨_,h63⟩;obtain⟨p0,p1,p2,p3⟩:=fW h62 rfl rfl rfl rfl;obtain⟨pz0,pz1,pz2,pz3⟩:=pG h62;obtain⟨q0,q1,q2,q3⟩:=fW h63 rfl rfl rfl rfl;obtain⟨qz0,qz1,qz2,qz3⟩:=pG h63;go_wp2;refine bodyPost_ret (v:= .tuple #[IE r.t (.slice x5 r.ps.length c5) (.slice X5 r.vs.length C5) (.slice Y5 r.ls.length D5),Z3 E a l n', .int .i64 0]) (by simp[results,Tryz.results45,go_sem,p0,p1,p2,p3,q0,q1,q2,q3]) rfl ?_;exact⟨E,a,l,n',r,_,_,_,rfl,((((hB6).setCell (p:=⟨w.heap.size+3,0,none⟩) (zA) _).setCell (p:=⟨w.heap.size+3,1,none⟩) (zA) _).setCell (p:=⟨w.heap.size+3,2,none⟩) (zA) _).setCell (p:=⟨w.heap.size+3,3,none⟩) (zA) _,((((hO7).put b3 (by decide)).put b3.put (by decide)).put b3.put.put (by decide)).put b3.put.put.put (by decide),hNx'.out⟩
open Go.RowKit Go.Shelf Go.Sort Go.Lib
def vP:Go.Shelf.Ren:=⟨fun|156=>30|165=>60|166=>61|169=>62|240=>102|241=>103|276=>135|277=>136|n=>n,fun|31=>38|9=>9|3=>3|4=>4|0=>0|20=>20|72=>132|76=>136|70=>130|37=>108|75=>135|127=>169|164=>198|5=>5|80=>45|n=>n,fun|n=>n⟩
theorem WW:Go.Proofs.Lays.n156 Tryz.prog vP:={
 mixed:=by kernel_rfl
 f156:=Tryz.func30.trans (congrArg some (by kernel_rfl))
 f165:=Tryz.func60.trans (congrArg some (by kernel_rfl))
 f166:=Tryz.func61.trans (congrArg some (by kernel_rfl))
 f169:=Tryz.func62.trans (congrArg some (by kernel_rfl))
 f240:=Tryz.func102.trans (congrArg some (by kernel_rfl))
 f241:=Tryz.func103.trans (congrArg some (by kernel_rfl))
 f276:=Tryz.func135.trans (congrArg some (by kernel_rfl))
 f277:=Tryz.func136.trans (congrArg some (by kernel_rfl))
 t0:=Tryz.underlying0
 a0:=Tryz.isAgg0
 z0:=Tryz.sizeOf0
 v0:=Tryz.zeroValue0
 t3:=Tryz.underlying3
 a3:=Tryz.isAgg3
 z3:=Tryz.sizeOf3
 v3:=Tryz.zeroValue3
 t4:=Tryz.underlying4
 a4:=Tryz.isAgg4
 z4:=Tryz.sizeOf4
 v4:=Tryz.zeroValue4
 t9:=Tryz.underlying9
 a9:=Tryz.isAgg9
 z9:=Tryz.sizeOf9
 v9:=Tryz.zeroValue9
 t20:=Tryz.underlying20
 a20:=Tryz.isAgg20
 z20:=Tryz.sizeOf20
 v20:=Tryz.zeroValue20
 t31:=Tryz.underlying38
 a31:=Tryz.isAgg38
 z31:=Tryz.sizeOf38
 v31:=Tryz.zeroValue38
 t37:=Tryz.underlying108
 a37:=Tryz.isAgg108
 z37:=Tryz.sizeOf108
 v37:=Tryz.zeroValue108
 t70:=Tryz.underlying130
 a70:=Tryz.isAgg130
 z70:=Tryz.sizeOf130
 v70:=Tryz.zeroValue130
 t72:=Tryz.underlying132
 a72:=Tryz.isAgg132
 z72:=Tryz.sizeOf132
 v72:=Tryz.zeroValue132
 t75:=Tryz.underlying135
 a75:=Tryz.isAgg135
 z75:=Tryz.sizeOf135
 v75:=Tryz.zeroValue135
 t76:=Tryz.underlying136
 a76:=Tryz.isAgg136
 z76:=Tryz.sizeOf136
 v76:=Tryz.zeroValue136
 t127:=Tryz.underlying169
 a127:=Tryz.isAgg169
 z127:=Tryz.sizeOf169
 v127:=Tryz.zeroValue169
 t164:=Tryz.underlying198
 a164:=Tryz.isAgg198
 z164:=Tryz.sizeOf198
 v164:=Tryz.zeroValue198}
theorem sP:Builder.Extra Tryz.prog vP:={
 sizeBuilder:=by kernel_rfl
 liesBuilder:=by kernel_rfl
 t5:=Tryz.underlying5
 a5:=Tryz.isAgg5
 z5:=Tryz.sizeOf5
 v5:=Tryz.zeroValue5
 infoByte:=by kernel_rfl
 cellsByte:=by kernel_rfl
 sizeByte:=by kernel_rfl
 neB5:=by decide}
theorem sQ(bk o c:Nat)(xs:List ByteArray)(sep:ByteArray)(w:World)(hcells:∀(j:Nat) x,xs[j]?=some x->w.cell? ⟨bk,o+j,none⟩=some (.string x))(hbk:bk<w.heap.size)(hN:xs.length<=140737488355328)(hcap:xs.length<=c)(hlen:(Lib.join (xs.map (·.data.toList)) sep.data.toList).length<=140737488355328):
  Calls Tryz.prog 30 #[.slice (some ⟨bk,o,none⟩) xs.length c, .string sep] w fun e w'=>e= .returned (.string ⟨(Lib.join (xs.map (·.data.toList)) sep.data.toList).toArray⟩)/\Below w.heap.size w w':=Any.strings_Join WW sP bk o c xs sep w hcells hbk hN hcap hlen
def EN:Go.Shelf.Ren:=⟨fun|171=>56|243=>100|246=>134|283=>173|284=>174|285=>175|286=>176|129=>226|317=>225|318=>227|319=>228|320=>229|337=>263|338=>264|n=>n,fun|3=>3|9=>9|2=>2|4=>4|171=>230|0=>0|53=>231|37=>108|5=>5|173=>234|212=>284|51=>176|20=>20|213=>285|46=>197|232=>336|233=>337|n=>n,fun|17=>1|18=>2|19=>3|n=>n⟩
theorem TR:Go.Proofs.LaysM.n171 Tryz.prog EN:={
 mixed:=by kernel_rfl
 f129:=Tryz.func226.trans (congrArg some (by kernel_rfl))
 f171:=Tryz.func56.trans (congrArg some (by kernel_rfl))
 f243:=Tryz.func100.trans (congrArg some (by kernel_rfl))
 f246:=Tryz.func134.trans (congrArg some (by kernel_rfl))
 f283:=Tryz.func173.trans (congrArg some (by kernel_rfl))
 f284:=Tryz.func174.trans (congrArg some (by kernel_rfl))
 f285:=Tryz.func175.trans (congrArg some (by kernel_rfl))
 f286:=Tryz.func176.trans (congrArg some (by kernel_rfl))
 f317:=Tryz.func225.trans (congrArg some (by kernel_rfl))
 f318:=Tryz.func227.trans (congrArg some (by kernel_rfl))
 f319:=Tryz.func228.trans (congrArg some (by kernel_rfl))
 f320:=Tryz.func229.trans (congrArg some (by kernel_rfl))
 f337:=Tryz.func263.trans (congrArg some (by kernel_rfl))
 f338:=Tryz.func264.trans (congrArg some (by kernel_rfl))
 t0:=Tryz.underlying0
 a0:=Tryz.isAgg0
 z0:=Tryz.sizeOf0
 v0:=Tryz.zeroValue0
 t2:=Tryz.underlying2
 a2:=Tryz.isAgg2
 z2:=Tryz.sizeOf2
 v2:=Tryz.zeroValue2
 t3:=Tryz.underlying3
 a3:=Tryz.isAgg3
 z3:=Tryz.sizeOf3
 v3:=Tryz.zeroValue3
 t4:=Tryz.underlying4
 a4:=Tryz.isAgg4
 z4:=Tryz.sizeOf4
 v4:=Tryz.zeroValue4
 t5:=Tryz.underlying5
 a5:=Tryz.isAgg5
 z5:=Tryz.sizeOf5
 v5:=Tryz.zeroValue5
 t9:=Tryz.underlying9
 a9:=Tryz.isAgg9
 z9:=Tryz.sizeOf9
 v9:=Tryz.zeroValue9
 t20:=Tryz.underlying20
 a20:=Tryz.isAgg20
 z20:=Tryz.sizeOf20
 v20:=Tryz.zeroValue20
 t37:=Tryz.underlying108
 a37:=Tryz.isAgg108
 z37:=Tryz.sizeOf108
 v37:=Tryz.zeroValue108
 t46:=Tryz.underlying197
 a46:=Tryz.isAgg197
 z46:=Tryz.sizeOf197
 v46:=Tryz.zeroValue197
 t51:=Tryz.underlying176
 a51:=Tryz.isAgg176
 z51:=Tryz.sizeOf176
 v51:=Tryz.zeroValue176
 t53:=Tryz.underlying231
 a53:=Tryz.isAgg231
 z53:=Tryz.sizeOf231
 v53:=Tryz.zeroValue231
 t171:=Tryz.underlying230
 a171:=Tryz.isAgg230
 z171:=Tryz.sizeOf230
 v171:=Tryz.zeroValue230
 t173:=Tryz.underlying234
 a173:=Tryz.isAgg234
 z173:=Tryz.sizeOf234
 v173:=Tryz.zeroValue234
 t212:=Tryz.underlying284
 a212:=Tryz.isAgg284
 z212:=Tryz.sizeOf284
 v212:=Tryz.zeroValue284
 t213:=Tryz.underlying285
 a213:=Tryz.isAgg285
 z213:=Tryz.sizeOf285
 t232:=Tryz.underlying336
 a232:=Tryz.isAgg336
 z232:=Tryz.sizeOf336
 v232:=Tryz.zeroValue336
 t233:=Tryz.underlying337
 a233:=Tryz.isAgg337
 z233:=Tryz.sizeOf337
 v233:=Tryz.zeroValue337
 g17:=by kernel_rfl
 g18:=by kernel_rfl
 g19:=by kernel_rfl
 i0:=by kernel_rfl
 i2:=by kernel_rfl
 i3:=by kernel_rfl
 i4:=by kernel_rfl
 i5:=by kernel_rfl
 i9:=by kernel_rfl
 i20:=by kernel_rfl
 i37:=by kernel_rfl
 i46:=by kernel_rfl
 i51:=by kernel_rfl
 i53:=by kernel_rfl
 i171:=by kernel_rfl
 i173:=by kernel_rfl
 i212:=by kernel_rfl
 i232:=by kernel_rfl
 i233:=by kernel_rfl
 m17:=by kernel_rfl
 m18:=by kernel_rfl
 m19:=by kernel_rfl}
theorem EO(n:Int)(h0: -9223372036854775808<=n)(h1:n<=9223372036854775807)(w:World)(htab:Lib.TabIs Tryz.prog w "internal/strconv.uint64pow10" .u64 Lib.pow10Tab):
  Calls Tryz.prog 56 #[.int .i64 n] w fun e w'=>e= .returned (.string ⟨(Lib.itoa n).toArray⟩)/\∃k os,w'=grow (w.drewN k) os:=Any.strconv_Itoa TR n h0 h1 w htab
def EP:Go.Shelf.Ren:=⟨fun|316=>74|n=>n,fun|9=>9|3=>3|4=>4|37=>108|0=>0|127=>169|5=>5|n=>n,fun|n=>n⟩
theorem TS:Go.Proofs.LaysM.n316 Tryz.prog EP:={
 mixed:=by kernel_rfl
 f316:=Tryz.func74.trans (congrArg some (by kernel_rfl))
 t0:=Tryz.underlying0
 a0:=Tryz.isAgg0
 z0:=Tryz.sizeOf0
 v0:=Tryz.zeroValue0
 t3:=Tryz.underlying3
 a3:=Tryz.isAgg3
 z3:=Tryz.sizeOf3
 v3:=Tryz.zeroValue3
 t4:=Tryz.underlying4
 a4:=Tryz.isAgg4
 z4:=Tryz.sizeOf4
 v4:=Tryz.zeroValue4
 t9:=Tryz.underlying9
 a9:=Tryz.isAgg9
 z9:=Tryz.sizeOf9
 v9:=Tryz.zeroValue9
 t37:=Tryz.underlying108
 a37:=Tryz.isAgg108
 z37:=Tryz.sizeOf108
 v37:=Tryz.zeroValue108
 t127:=Tryz.underlying169
 a127:=Tryz.isAgg169
 z127:=Tryz.sizeOf169
 v127:=Tryz.zeroValue169
 t5:=Tryz.underlying5
 a5:=Tryz.isAgg5
 z5:=Tryz.sizeOf5
 v5:=Tryz.zeroValue5
 i0:=by kernel_rfl
 i3:=by kernel_rfl
 i4:=by kernel_rfl
 i5:=by kernel_rfl
 i9:=by kernel_rfl
 i37:=by kernel_rfl
 i127:=by kernel_rfl}
theorem stringslite_Clone(s:ByteArray)(w:World)(hlim:s.size<=281474976710656):
  Calls Tryz.prog 74 #[.string s] w fun e w'=>e= .returned (.string s)/\Below w.heap.size w w':=Any.stringslite_Clone TS s w hlim
end Go.Proofs.YtkgeoeglidnnnaaGreatDoor
namespace Go.Proofs.YtkgeoeglidnnnaaGreatDoor.Z
variable {p q : Po} {qs : List Po} {x : Option Addr} {c : Oper} {ls ls' m : List Le} {V vs : List Vn} {L : List (Int × Int)} {s r : fQ} {cd : Cd} {E a n A B C a0 l0 mn mx us co vid : Int} {l ts : List Oper} {e : Le} {k j0 g base b : Nat} {rs : List Rg} {P : Program} {Q : Exit → Act → World → Prop} {w w' w1 u : World} {T : Nat → Bool} {cs : List Value} {v : Value} {ss : List Sb}
open Go.RowKit
structure Nxq(w:World)(R K:Act->World->Prop):Prop where
 out:∀a' w',Below w.heap.size w w'->R a' w'->K a' w'
def aDp(P:Program)(l:List Oper)(Q:Exit->Act->World->Prop)(w:World)(ts:List Oper):List Oper->Act->World->Prop
 |[],a,w'=>wpList P l.toArray Q ts a w'
 |c::cs,a,w'=>∀K,Nxq w (aDp P l Q w ts cs) K->wpList P l.toArray (mP K Q) [c] a w'
def L1(ops:Array Oper):List Nat->Array Bool->Bool
 |[],_=>true
 |i::is,listed=>decide (Region.ready .any ops listed=[i])&&L1 ops is (listed.setIfInBounds i true)
theorem WX(ts:List Nat)(hts:∀i∈ts,i<l.length/\pZ ts i=false):∀(cs:List Nat) (listed:Array Bool) (a:Act) (w':World),(∀i∈cs,i<l.length)->L1 l.toArray cs listed=true->
  wC l.toArray ts (iC cs listed)=true->aDp P l Q w (ts.map fun i=>l.getD i kM) (cs.map fun i=>l.getD i kM) a w'->oX P l.toArray Q (fun w'=>∃u:Ws w.heap.size w,w'=u.val) (pZ ts) (cs.length+ts.length) listed a w'
 |[],listed,a,w',_,_,hs,h=>by
  rw[List.length_nil,Nat.zero_add];exact bB ts _ _ _ hts hs h
 |i::cs,listed,a,w',hc,ho,hs,h=>by
  simp only[L1,zH,decide_eq_true_eq]at ho;rw[List.length_cons,show cs.length+1+ts.length=(cs.length+ts.length)+1 by omega];refine⟨fun e=>(by rw[ho.1]at e;cases e),fun j hj=>?_⟩;rw[ho.1]at hj;obtain rfl:j=i:=by simpa using hj
  refine dT (hc j (by simp)) (h _ ⟨fun a2 w2 hb2 g2=>⟨fun _=>⟨⟨w2,hb2⟩,rfl⟩,?_⟩⟩);exact WX ts hts cs _ a2 w2 (fun k hk=>hc k (by simp[hk])) ho.2 hs g2
def aFu(l:List Oper)(fs hs cs ts:List Nat):Bool:=
 Region.noSelect l.toArray&&uW l.toArray (Array.replicate l.toArray.size false)&&qX l.toArray fs (Array.replicate l.toArray.size false)&&(fs.all fun i=>decide (i<l.length)&&MR (l.getD i kM)&&pZ ts i)&&
 uW l.toArray (iC fs (Array.replicate l.toArray.size false))&&qX l.toArray hs (iC fs (Array.replicate l.toArray.size false))&&(hs.all fun i=>decide (i<l.length)&&MR (l.getD i kM)&&pZ ts i&&(List.range l.toArray.size).all fun j=>pZ ts j||kG l.toArray l.toArray.size j i)&&
 (cs.all fun i=>decide (i<l.length))&&L1 l.toArray cs (iC hs (iC fs (Array.replicate l.toArray.size false)))&&wC l.toArray ts (iC cs (iC hs (iC fs (Array.replicate l.toArray.size false))))&&(ts.all fun i=>decide (i<l.length)&&!(pZ ts i))&&
 decide (fs.length+(hs.length+(cs.length+ts.length))=l.toArray.size)
end Go.Proofs.YtkgeoeglidnnnaaGreatDoor.Z
namespace Go.Proofs.YtkgeoeglidnnnaaGreatDoor
variable {p q : Po} {qs : List Po} {x : Option Addr} {c : Oper} {ls ls' m : List Le} {V vs : List Vn} {L : List (Int × Int)} {s r : fQ} {cd : Cd} {E a n A B C a0 l0 mn mx us co vid : Int} {l ts : List Oper} {e : Le} {k j0 g base b : Nat} {rs : List Rg} {P : Program} {Q : Exit → Act → World → Prop} {w w' w1 u : World} {T : Nat → Bool} {cs : List Value} {v : Value} {ss : List Sb}
open Go.RowKit
theorem HS:∀(fs:List Nat) {listed:Array Bool},Z.J0 T listed->(∀i∈fs,T i=true)->Z.J0 T (iC fs listed)
 |[],_,h,_=>h
 |i::fs,_,h,g=>HS fs (h.set (g i (by simp))) (fun k hk=>g k (by simp[hk]))
theorem aR{id:Nat}{a:Act}(fs hs cs ts:List Nat)(hm:P.follows .mixedOrders=true)(hB:Z.aFu l fs hs cs ts=true)(hQ:∀d v c a w,Q (.panic c) (Act.put a d v) w->Q (.panic c) a w)
 (h:wpQuiet P l.toArray (fun w'=>∃u:Z.Wx,w'=u.val) (fun a1=>wpQuiet P l.toArray (fun w'=>∃u:Ws w.heap.size w,w'=u.val) (fun a'=>Z.aDp P l Q w (ts.map fun i=>l.getD i kM) (cs.map fun i=>l.getD i kM) a' w.drew) (hs.map fun i=>l.getD i kM) a1) (fs.map fun i=>l.getD i kM) a):(Code.region id l.toArray true).wp P Q a w:=by
 simp only[Z.aFu,zH,decide_eq_true_eq,List.all_eq_true,Bool.not_eq_true']at hB;obtain⟨⟨⟨⟨⟨⟨⟨⟨⟨⟨⟨h1,h2⟩,h3⟩,h4⟩,h5⟩,h6⟩,h7⟩,h8⟩,h9⟩,h10⟩,h11⟩,h13⟩:=hB;refine wp_region_any hm (Z.oI (S:=fun w'=>∃u:Ws w.heap.size w,w'=u.val) (T:=Z.pZ ts) _ _ _ _ ?_);have hok:Z.J0 (Z.pZ ts) (Array.replicate l.toArray.size false):=fun j hj=>by
  rw[Array.getD_eq_getD_getElem?,Array.getElem?_replicate]at hj;split at hj<;>cases hj
 have key:∀f,f=fs.length+(hs.length+(cs.length+ts.length))->Z.oX P l.toArray Q (fun w'=>∃u:Ws w.heap.size w,w'=u.val) (Z.pZ ts) f (Array.replicate l.toArray.size false) a w.drew:=?_
 ·exact key _ h13.symm
 intro f hf;subst hf;refine Z.wQ (C:=fun w'=>∃u:Z.Wx,w'=u.val) h1 hQ _ ⟨⟨_,(zD).drew⟩,rfl⟩ fs _ _ (fun i hi=>?_) (gB h2) (.inl hok) h3 rfl ?_
 ·obtain⟨⟨g1,g2⟩,g3⟩:=h4 i hi;exact⟨g1,g2,g3, .inl Z.Wx.any⟩
 refine Z.fC (fun a1 g=>?_) _ _ h;refine Z.wQ (C:=fun w'=>∃u:Ws w.heap.size w,w'=u.val) h1 hQ _ ⟨⟨_,(zD).drew⟩,rfl⟩ hs _ _ (fun i hi=>?_) (gB h5) (.inl (HS fs hok fun i hi=>(h4 i hi).2)) h6 rfl ?_
 ·obtain⟨⟨⟨g1,g2⟩,g3⟩,g4⟩:=h7 i hi;refine⟨g1,g2,g3, .inr ⟨fun _ g=>g,fun j hj hjs=>?_⟩⟩;have:=g4 j (List.mem_range.2 hjs);rw[hj,Bool.false_or]at this;exact this
 exact Z.fC (fun a' g'=>Z.WX ts h11 cs _ _ _ h8 h9 h10 g') _ _ g
theorem aJ{cs:List Oper}{a:Act}(h:∀K,Z.Nxq w (Z.aDp P l Q w ts cs) K->wpList P l.toArray (mP K Q) [c] a w'):Z.aDp P l Q w ts (c::cs) a w':=h
theorem bR{a:Act}(h:wpList P l.toArray Q ts a w'):Z.aDp P l Q w ts [] a w':=h
open Go.RowKit Go.Shelf
structure A0(w:World):Prop where
 tab:Lib.TabIs Tryz.prog w "internal/strconv.uint64pow10" .u64 Lib.pow10Tab
 size:4<=w.heap.size
theorem aDq:Tryz.prog.globalNamed "internal/strconv.uint64pow10" =some 1:=by kernel_rfl
theorem A0.below(h:A0 w){n:Nat}(hn:4<=n)(hb:Below n w w'):A0 w' where
 tab:=var?_below hb aDq (by omega) h.tab
 size:=Nat.le_trans h.size hb.size
theorem A0.later(h:A0 w)(hb:Below w.heap.size w w'):A0 w':=h.below h.size hb
def aQ(n:Int):ByteArray:=⟨(Lib.decDigits n.toNat).toArray⟩
def L2(a l:Int):List UInt8:=Lib.decDigits (a/256).toNat++[46]++Lib.decDigits (a%256).toNat++[47]++Lib.decDigits l.toNat
def lK(a l:Int):ByteArray:=⟨(L2 a l).toArray⟩
theorem AE:∀(m n:Nat),n<=m->(Lib.decDigits n).length<=n+1
 |m,n,h=>by
  rw[Lib.decDigits];split
  ·simp
  ·rename_i c
   cases m with
   |zero=>omega
   |succ m=>
    have:=AE m (n/10) (by omega)
    simp
    omega
theorem eZ(n:Int):(aQ n).size<=n.toNat+1:=by
 have:=AE _ n.toNat (zE);simpa[aQ,ByteArray.size]using this
theorem itoa_any(n:Int)(w:World)(h:A0 w)(h0:0<=n)(h1:n<=2147483647):
  Calls Tryz.prog 56 #[.int .i64 n] w fun e w'=>e= .returned (.string (aQ n))/\Below w.heap.size w w':=by
 refine(EO n (by omega) (by omega) w h.tab).mono ?_;rintro e w' ⟨rfl,k,os,rfl⟩;refine⟨?_,rfl,rfl,rfl,?_,fun j hj=>?_⟩
 ·unfold Lib.itoa aQ;rw[if_neg (by omega)]
 ·show w.heap.size<=(w.heap++os).size;simp
 ·show(w.heap++os)[j]?=w.heap[j]?;rw[Array.getElem?_append_left hj]
theorem bX(n:Int)(w:World)(hE:A0 w)(h0:0<=n)(h1:n<=2147483647):
  Calls Tryz.prog 27 #[.int .i64 n] w fun e w'=>e= .returned (.string (aQ n))/\Below w.heap.size w w':=by
 go_enter Tryz.func27,Tryz.ntmps27;go_wp2_with (go_at_call 56;refine(itoa_any n _ hE h0 h1).mono ?_;rintro e w1 ⟨rfl,hb1⟩);go_ret;exact⟨rfl,hb1⟩
theorem KI(n:Int):bits .and .i64 n 255=n%256:=by
 have h255:(BitVec.ofInt 64 255).toNat=2^8- 1:=by decide
 have key:(BitVec.ofInt 64 n&&&BitVec.ofInt 64 255).toNat=(n%((2^64:Nat):Int)).toNat%2^8:=by
  rw[BitVec.toNat_and,BitVec.toNat_ofInt,h255,Nat.and_two_pow_sub_one_eq_mod]
 show IntKind.i64.wrap ((BitVec.ofInt 64 n&&&BitVec.ofInt 64 255).toNat:Nat)=n%256;rw[key,IntKind.wrap_i64];omega
theorem CV(x y z:List UInt8):(ByteArray.mk x.toArray++ByteArray.mk #[46]++ByteArray.mk y.toArray++ByteArray.mk #[47]++ByteArray.mk z.toArray)=ByteArray.mk (x++[46]++y++[47]++z).toArray:=by
 have h1:ByteArray.mk #[46]=ByteArray.mk ([46]:List UInt8).toArray:=rfl;have h2:ByteArray.mk #[47]=ByteArray.mk ([47]:List UInt8).toArray:=rfl;rw[h1,h2];simp only[ByteArray.mk_append_mk]
theorem HT{a b:ByteArray}(h:a=b):Ending.returned (.tuple #[.string a, .int .i64 n])= .returned (.tuple #[.string b, .int .i64 n]):=by rw[h]
theorem EQ{a b:ByteArray}(h:a=b):Ending.returned (.string a)= .returned (.string b):=by rw[h]
theorem show_ok(a l:Int)(w:World)(hE:A0 w)(h:rt a l=true):
  Calls Tryz.prog 101 #[.agg #[.int .i64 a, .int .i64 l]] w fun e w'=>e= .returned (.tuple #[.string (lK a l), .int .i64 0])/\Below w.heap.size w w':=by
 have hc0:chk a l=0:=by simpa[rt]using h
 have hb2:(chk a l !=0)=false:=by simp[hc0]
 clear hc0;obtain⟨l0,l1,a0,a1, -⟩:=bC h;have hbit:=KI a;have k1:=eZ (a/256);have k2:=eZ (a%256);have k3:=eZ l;have k4:(a/256).toNat<=1000/\(a%256).toNat<=1000/\l.toNat<=1000:=by omega
 go_enter Tryz.func101,Tryz.ntmps101;go_wp2_with (go_at_call 119;refine(check_any a l _).mono ?_;rintro e w1 ⟨rfl,hb1⟩);have e0:w1.cell? ⟨w.heap.size,0,none⟩=some (.int .i64 a):=(hb1.cell (p:=⟨w.heap.size,0,none⟩) (by simp)).trans (by simp);have e1:w1.cell? ⟨w.heap.size,1,none⟩=some (.int .i64 l):=(hb1.cell (p:=⟨w.heap.size,1,none⟩) (by simp)).trans (by simp);have hz:=hb1.size;simp only[World.size_alloc]at hz;have hB:Below w.heap.size w w1:=(bl1 _ _).trans (hb1.mono (by simp));have hE1:A0 w1:=hE.below hE.size hB;have d0:=Ws.cell (n:=w.heap.size+1) (w:=w1) (by omega) e0;have d1:=Ws.cell (n:=w.heap.size+1) (w:=w1) (by omega) e1;have hEu:∀u:Ws (w.heap.size+1) w1,A0 u.val:=fun u=>hE1.below (by have:=hE.size;omega) u.property;clear hb1 e0 e1;refine aE (w.heap.size+1) (by kernel_rfl) (by kernel_rfl) ?_;repeat(go_big_quiet_step ((go_at_call 56;exact Calls.in_ws (by omega) (itoa_any _ _ (hEu _) (by omega) (by omega)))))
 refine wpQuiet_nil ?_;rintro _ ⟨u,rfl⟩;have hu:=hB.trans (u.property.mono (Nat.le_succ _));go_wp2;go_ret2;exact⟨HT (CV _ _ _),hu⟩
theorem iW(a l:Int)(w:World)(hE:A0 w)(h:rt a l=true):
  Calls Tryz.prog 57 #[.agg #[.int .i64 a, .int .i64 l]] w fun e w'=>e= .returned (.string (lK a l))/\Below w.heap.size w w':=by
 go_enter Tryz.func57,Tryz.ntmps57;go_wp2_with (go_at_call 101;refine(show_ok a l _ (hE.later (bl1 _ _)) h).mono ?_;rintro e w1 ⟨rfl,hb1⟩);go_ret;exact⟨rfl,(bl1 _ _).trans (hb1.mono (by simp))⟩
theorem HU(d:Int)(w:World):(convert 108 9 (.slice (some ⟨w.heap.size,0,none⟩) 1 1)).run Tryz.prog (w.alloc (.cells #[.int .u8 d] 5))= .ok (.string ⟨#[UInt8.ofNat d.toNat]⟩) (w.alloc (.cells #[.int .u8 d] 5)):=
 run_convert_bytes_arg _ 108 5 Tryz.underlying108 Tryz.underlying5 w.heap.size 0 1 1 [d] rfl (fun i hi=>by
  obtain rfl:i=0:=by omega
  simp) 9 Tryz.underlying9
def WY(n:Int):ByteArray:=⟨#[UInt8.ofNat (48+n%10).toNat]⟩
theorem O3(n:Int)(h0:0<=n)(h1:n<10):WY n=aQ n:=by
 unfold aQ;rw[Lib.decDigits_one (by omega)];have e:(48+n%10).toNat=48+n.toNat:=by omega
 unfold WY;rw[e]
theorem O4(n:Int)(_h0:0<=n)(h1:¬n<10):aQ (n/10)++WY n=aQ n:=by
 have e:WY n=ByteArray.mk ([UInt8.ofNat (48+n%10).toNat]:List UInt8).toArray:=rfl;unfold aQ;rw[e,ByteArray.mk_append_mk];conv=>rhs;rw[Lib.decDigits,dif_neg (by omega)]
 have e1:(n/10).toNat=n.toNat/10:=by omega
 have e2:(48+n%10).toNat=48+n.toNat%10:=by omega
 rw[e1,e2]
theorem vQ(n:Int)(h0:0<=n)(h1:n<10)(w:World):
  Calls Tryz.prog 18 #[.int .i64 n] w fun e w'=>e= .returned (.string (aQ n))/\Below w.heap.size w w':=by
 rw[<-O3 n h0 h1];have hcv:=HU (48+n%10) w;go_enter Tryz.func18,Tryz.ntmps18;go_wp2;go_ret;exact⟨rfl,bl1 _ _⟩
theorem vT:∀(m:Nat) (n:Int),n.toNat<=m->0<=n->n<=2147483647->∀w:World,
  Calls Tryz.prog 18 #[.int .i64 n] w fun e w'=>e= .returned (.string (aQ n))/\Below w.heap.size w w'
 |0,n,hm,h0,h1,w=>vQ n h0 (by omega) w
 |m+1,n,hm,h0,h1,w=>by
  by_cases c:n<10
  ·exact vQ n h0 c w
  rw[<-O4 n h0 c];have hcv:=HU (48+n%10) w;have HI:Hid (∀w:World,Calls Tryz.prog 18 #[.int .i64 (n/10)] w fun e w'=>e= .returned (.string (aQ (n/10)))/\Below w.heap.size w w'):=vT m (n/10) (by omega) (by omega) (by omega);have k2:=eZ (n/10);have k3:(n/10).toNat<=2147483647:=by omega
  go_enter Tryz.func18,Tryz.ntmps18;go_wp2_with (go_at_call 18;refine(HI.out _).mono ?_;rintro e w2 ⟨rfl,hb2⟩);go_ret;exact⟨EQ rfl,(bl1 _ _).trans (hb2.mono (by simp))⟩
theorem sR(n:Int)(h0:0<=n)(h1:n<=2147483647)(w:World):
  Calls Tryz.prog 18 #[.int .i64 n] w fun e w'=>e= .returned (.string (aQ n))/\Below w.heap.size w w':=vT _ n (zE) h0 h1 w
theorem dF(a l:Int)(w:World)(h:rt a l=true):
  Calls Tryz.prog 19 #[.agg #[.int .i64 a, .int .i64 l]] w fun e w'=>e= .returned (.string (lK a l))/\Below w.heap.size w w':=by
 obtain⟨l0,l1,a0,a1, -⟩:=bC h;have k1:=eZ (a/256);have k2:=eZ (a%256);have k3:=eZ l;have k4:(a/256).toNat<=1000/\(a%256).toNat<=1000/\l.toNat<=1000:=by omega
 have d0:∀u:Ws (w.heap.size+1) (w.alloc (.cells #[.int .i64 a, .int .i64 l] 53)),u.val.cell? ⟨w.heap.size,0,none⟩=some (.int .i64 a):=Ws.cell (by omega) (by simp);have d1:∀u:Ws (w.heap.size+1) (w.alloc (.cells #[.int .i64 a, .int .i64 l] 53)),u.val.cell? ⟨w.heap.size,1,none⟩=some (.int .i64 l):=Ws.cell (by omega) (by simp);go_enter Tryz.func19,Tryz.ntmps19;go_wp2;refine aE (w.heap.size+1) (by kernel_rfl) (by kernel_rfl) ?_;repeat(go_big_quiet_step ((go_at_call 18;exact Calls.in_ws (by simp) (sR _ (by omega) (by omega) _))))
 refine wpQuiet_nil ?_;rintro _ ⟨u,rfl⟩;have hu:=(bl1 w _).trans (u.property.mono (Nat.le_succ _));go_wp2;go_ret;exact⟨EQ (CV _ _ _),hu⟩
theorem aAh:Ty 9 38 1 (.string ⟨#[]⟩) 16:=qY (by kernel_rfl) (by kernel_rfl) rfl (fun u hu=>by simp[Value.cells]at hu;rw[hu];rfl) (by decide) (by decide)
def lnB(ws:List ByteArray):ByteArray:=⟨(Lib.join (ws.map (·.data.toList)) [32]).toArray⟩++⟨#[10]⟩
structure BO(w:World)(base b:Nat)(v:Value)(L:List ByteArray):Prop where
 box:w.heap[b]?=some (.cells #[v] 42)
 row:w.ownsRow base 9 1 v L.length (L.map Value.string)
 low:base<=b
 sz:∀x∈L,x.size<=21474836491
theorem BO.later{L:List ByteArray}(h:BO w base b v L)(hb:Below w.heap.size w w'):BO w' base b v L:=⟨aA hb h.box,cW h.row hb,h.low,h.sz⟩
theorem ER{ty n:Nat}(h:w.ownsRow base ty k v n cs):∀j,v.ownBlock=some j->base<=j:=by
 rcases h.2 with ⟨hv, -⟩|⟨g,cap,cur,hv,h1, -⟩
 ·rw[hv];intro j h;cases h
 ·rw[hv];intro j h;cases h;exact h1
structure jP(base b:Nat)(w w':World):Prop where
 below:Below base w w'
 box:∀k cs ty,k≠b->ty≠9->w.heap[k]?=some (.cells cs ty)->w'.heap[k]?=some (.cells cs ty)
theorem jP.of(h:Below w.heap.size w w')(hb:base<=w.heap.size):jP base b w w':=⟨h.mono hb,fun _ _ _ _ _ hk=>aA h hk⟩
theorem jP.trans{w'':World}(h:jP base b w w')(g:jP base b w' w''):jP base b w w'':=⟨h.below.trans g.below,fun k cs ty h1 h2 hk=>g.box k cs ty h1 h2 (h.box k cs ty h1 h2 hk)⟩
theorem jP.grown{n:Nat}(h:w.ownsRow base 9 k v n cs)(hg:w.grownBy w' v.ownBlock)(hb:base<=w.heap.size):jP base b w w':=
 ⟨⟨hg.os,hg.tape,hg.output,hg.size,fun k hk=>hg.block k (by omega) fun e=>by have:=ER h _ e.symm;omega⟩,fun k cs ty _ h2 hk=>yX hg (jC h hk h2) hk⟩
theorem jP.set{o:Nat}(h:jP base b w w')(hb:base<=b):jP base b w (w'.setCell ⟨b,o,none⟩ v):=
 ⟨h.below.setCell (p:=⟨b,o,none⟩) hb v,fun k cs ty h1 h2 hk=>(zB h1).trans (h.box k cs ty h1 h2 hk)⟩
def mM(base b:Nat)(L:List ByteArray)(w:World)(e:Ending)(w':World):Prop:=e= .returned (.tuple #[])/\(∃v,BO w' base b v L)/\jP base b w w'
theorem HV(base b bk c:Nat)(v:Value)(L ws:List ByteArray)(w:World)(hP:BO w base b v L)(hc:∀(j:Nat) x,ws[j]?=some x->w.cell? ⟨bk,0+j,none⟩=some (.string x))(hbk:bk<w.heap.size)(hn:ws.length<=c)(hw:ws.length<=100000)
 (hlen:(Lib.join (ws.map (·.data.toList)) [32]).length<=21474836490)(hL:L.length<=100000)(hbase:base<=w.heap.size):
  Calls Tryz.prog 26 #[.pointer (some ⟨b,0,none⟩), .slice (some ⟨bk,0,none⟩) ws.length c] w (mM base b (L++[lnB ws]) w):=by
 have hsz:(ByteArray.mk (Lib.join (ws.map (·.data.toList)) [32]).toArray).size<=21474836490:=by simpa[ByteArray.size]using hlen
 have hjoin:=fun W (hW:Below w.heap.size w W)=>sQ bk 0 c ws ⟨#[32]⟩ W (fun j x hx=>cell_later hW (hc j x hx)) (by have:=hW.size;omega) (by omega) hn (by have:=hlen;simp only[]at this⊢;omega);obtain⟨J,hJ⟩:∃J,Hid (J=ByteArray.mk (Lib.join (ws.map (·.data.toList)) [32]).toArray):=⟨_,rfl⟩;have hl:Hid (lnB ws=J++⟨#[10]⟩):=by unfold Hid;rw[hJ.out];rfl
 simp only[]at hjoin;rw[<-hJ.out]at hsz;simp only[<-hJ.out]at hjoin;clear hJ hlen hc;go_enter Tryz.func26,Tryz.ntmps26;have s0:=Ws.here (aO hP.box 0 rfl);refine aR [0,1,2,3,5] [4] [6,7,8] [9,10,11,12] (by kernel_rfl) (by kernel_rfl) (fun d _ _ _ _ h=>by cases d<;>exact h) ?_;simp only[zK,zM,zI,zJ];repeat(go_big_quiet_step (fail))
 refine wpQuiet_nil ?_;repeat(go_big_quiet_step (fail))
 refine wpQuiet_nil ?_;clear s0;refine aJ fun K hK=>?_;go_wp2_with fail;refine(hjoin w.drew (zD).drew).mono ?_;rintro e w1 ⟨rfl,hb1⟩;have hB1:Below w.heap.size w w1:=(zD).drew.trans (hb1.mono (zE));go_wp2_with fail;refine aC (hK.out _ _ hB1 ?_);clear hK K hb1 hjoin;refine aJ fun K hK=>?_;go_wp2_with fail;refine aC (hK.out _ _ hB1 ?_);clear hK K;refine aJ fun K hK=>?_;go_wp2_with fail;obtain⟨w2,hw2⟩:∃w2,w2=w1.alloc (.cells #[.string (J++⟨#[10]⟩)] 9):=⟨_,rfl⟩;rw[<-hw2];have hb2:Below w1.heap.size w1 w2:=hw2▸bl1 _ _;have hB2:Below w.heap.size w w2:=hB1.trans (hb2.mono hB1.size);have hq:w2.heap[w1.heap.size]?=some (.cells #[.string (J++⟨#[10]⟩)] 9):=hw2▸aB _ rfl;clear hw2;refine aC (hK.out _ _ hB2 ?_);clear hK K;refine bR ?_;have hP2:=(hP.later hB1).later hb2;refine cM aAh (ds:=[.string (J++⟨#[10]⟩)]) rfl _ _ rfl base v rfl hP2.row ⟨w1.heap.size,0,none⟩ 1 1 rfl ⟨rfl,fun _=>by simp,fun u hu=>by simp at hu;rw[hu];rfl,fun ad had j u hu=>?_⟩ (by omega) (Nat.le_trans hbase hB2.size) fun v' w' hO hg=>?_
 ·cases had
  cases j with
  |zero=>simp at hu;subst hu;exact(aD hq).1 0
  |succ j=>simp at hu
 have hT:jP base b w w':=(jP.of hB2 hbase).trans (jP.grown hP2.row hg (Nat.le_trans hbase hB2.size));have hbx:=yX hg (jC hP2.row hP2.box (by decide)) hP2.box;clear hg hq hb2 hP2;obtain⟨x',c',rfl, -⟩:=jU hO;have c0:=(aD hbx).1 0;have z0:=(aD hbx).2 0;simp only[List.getElem?_toArray,List.getElem?_cons_zero]at c0;go_wp2;refine bodyPost_end (results_none Tryz.results26 _ _ _) rfl ?_;refine⟨rfl,⟨.slice x' (L.length+1) c',?_,?_,hP.low,fun x hx=>?_⟩,hT.set hP.low⟩
 ·exact zC hbx
 ·rw[hl.out,List.length_append,List.map_append];exact fD hO (aN _ _ _ _) fun k hk e=>jC hO hbx (by decide) (e▸hk)
 ·rcases List.mem_append.1 hx with hx|hx
  ·exact hP.sz x hx
  ·obtain rfl:x=lnB ws:=by simpa using hx
   rw[hl.out,ByteArray.size_append];exact Nat.add_le_add hsz (Nat.le_refl 1)
def TT(ws:List ByteArray):Prop:=ws.length<=10/\∀x∈ws,x.size<=2147483648
theorem AF:∀(ws:List ByteArray),(∀x∈ws,x.size<=2147483648)->(Lib.join (ws.map (·.data.toList)) [32]).length<=ws.length*2147483649
 |[],_=>by simp[Lib.join_nil]
 |x::ws,h=>by
  rw[zK,Lib.join_cons,List.length_append];have h1:x.data.toList.length<=2147483648:=by have:=h x (List.mem_cons_self ..);exact Nat.le_trans (Nat.le_of_eq Array.length_toList) this
  have h2:∀(ys:List ByteArray),(∀x∈ys,x.size<=2147483648)->(Lib.joinTail [32] (ys.map (·.data.toList))).length<=ys.length*2147483649:=by
   intro ys;induction ys with
   |nil=>intro _;simp[Lib.joinTail]
   |cons y ys ih=>
    intro hy
    have h3:=ih fun x hx=>hy x (by simp[hx])
    have h4:y.data.toList.length<=2147483648:=by have:=hy y (List.mem_cons_self ..);exact Nat.le_trans (Nat.le_of_eq Array.length_toList) this
    simp only[Lib.joinTail,zK,List.flatten_cons,List.length_append,List.length_cons,List.length_nil]at h3⊢
    omega
  have h5:=h2 ws fun x hx=>h x (by simp[hx]);simp only[List.length_cons];omega
theorem iK{bk n:Nat}{L ws:List ByteArray}(hP:BO w base b v L)(hB:Below w.heap.size w w1)(hq:w1.heap[bk]?=some (.cells (ws.map Value.string).toArray 9))(hw:TT ws)(hn:ws.length=n)(hL:L.length<=100000)(hbase:base<=w.heap.size):
  Calls Tryz.prog 26 #[.pointer (some ⟨b,0,none⟩), .slice (some ⟨bk,0,none⟩) n n] w1 (mM base b (L++[lnB ws]) w):=by
 subst hn;have h1:=AF ws hw.2;have h2:=hw.1;refine(HV base b bk _ v L ws w1 (hP.later hB) (fun j x hx=>?_) (zG hq) (zE) (by omega) (by omega) hL (Nat.le_trans hbase hB.size)).mono fun e w2 ⟨h3,h4,h5⟩=>⟨h3,h4,(jP.of hB hbase).trans h5⟩;rw[Nat.zero_add,(aD hq).1 j];simp[hx]
def num(n:Int):Prop:=0<=n/\n<=2147483647
theorem num.ok(h:num n):(aQ n).size<=2147483648:=by
 have:=eZ n;have:=h.1;have:=h.2;omega
theorem dP{l:Int}(h:rt a l=true):(lK a l).size<=2147483648:=by
 obtain⟨l0,l1,a0,a1, -⟩:=bC h;have k1:=AE _ (a/256).toNat (zE);have k2:=AE _ (a%256).toNat (zE);have k3:=AE _ l.toNat (zE);have e:(lK a l).size=(L2 a l).length:=by simp[lK,ByteArray.size]
 rw[e];simp only[L2,List.length_append,List.length_cons,List.length_nil];omega
def vU(e:Le):ByteArray:=if e.kd=1 then lnB [⟨#[117,115,101,114]⟩,aQ e.ow,lK e.a e.l]else if e.kd=2 then lnB [⟨#[110,101,115,116]⟩,aQ e.ow,lK e.a e.l]else lnB [⟨#[99,111,111,108]⟩,aQ e.un,lK e.a e.l]
theorem iL{x y z:ByteArray}(hx:x.size<=2147483648)(hy:y.size<=2147483648)(hz:z.size<=2147483648):TT [x,y,z]:=⟨by simp,fun u hu=>by simp at hu;rcases hu with rfl|rfl|rfl<;>assumption⟩
theorem O5(base b:Nat)(v:Value)(L:List ByteArray)(e:Le)(w:World)(hP:BO w base b v L)(hE:A0 w)(hL:L.length<=100000)(hbase:base<=w.heap.size)(hr:rt e.a e.l=true)(ho:num e.ow)(hu:num e.un):
  Calls Tryz.prog 58 #[.pointer (some ⟨b,0,none⟩),LA e] w (mM base b (L++[vU e]) w):=by
 go_enter Tryz.func58,Tryz.ntmps58;go_upto_region 1 with fail
 obtain⟨w0,hw0⟩:∃w0,w0=w.alloc (.cells (cL e).toArray 55):=⟨_,rfl⟩;have hw0':w0=w.alloc (.cells #[.int .i64 e.a, .int .i64 e.l, .int .i64 e.kd, .int .i64 e.ow, .int .i64 e.un] 55):=hw0;rw[<-hw0'];have hB0:Below w.heap.size w w0:=by rw[hw0];exact bl1 w _
 have hq0:w0.heap[w.heap.size]?=some (.cells #[.int .i64 e.a, .int .i64 e.l, .int .i64 e.kd, .int .i64 e.ow, .int .i64 e.un] 55):=by rw[hw0'];exact aB _ rfl
 clear hw0 hw0';have c2:=aO hq0 2 rfl;by_cases h1:e.kd=1
 ·skip;go_upto_region 4 with fail
  have hl:Hid (vU e=lnB [⟨#[117,115,101,114]⟩,aQ e.ow,lK e.a e.l]):=by unfold Hid vU;rw[if_pos h1]
  have s0:=Ws.here (aO hq0 0 rfl);have s1:=Ws.here (aO hq0 1 rfl);have s3:=Ws.here (aO hq0 3 rfl);refine aR [0,1,2,3,6] [4,7] [5,8,9] [10] (by kernel_rfl) (by kernel_rfl) (fun d _ _ _ _ h=>by cases d<;>exact h) ?_;simp only[zK,zM,zI,zJ];repeat(go_big_quiet_step (fail))
  refine wpQuiet_nil ?_;repeat(go_big_quiet_step (fail))
  refine wpQuiet_nil ?_;have hBd:Below w0.heap.size w0 w0.drew:=(zD).drew;refine aJ fun K hK=>?_;go_wp2_with fail;refine(bX e.ow _ ((hE.later hB0).later hBd) ho.1 ho.2).mono ?_;rintro _ y0 ⟨rfl,hb⟩;have hC0:Below w0.heap.size w0 y0:=hBd.trans (hb.mono hBd.size);go_wp2_with fail;refine aC (hK.out _ _ hC0 ?_);clear hK K hb hBd;refine aJ fun K hK=>?_;go_wp2_with fail;refine(iW e.a e.l _ ((hE.later hB0).later hC0) hr).mono ?_;rintro _ y1 ⟨rfl,hb⟩;have hC1:Below w0.heap.size w0 y1:=hC0.trans (hb.mono hC0.size);go_wp2_with fail;refine aC (hK.out _ _ hC1 ?_);clear hK K hb hC0;refine aJ fun K hK=>?_;go_wp2_with fail;refine aC (hK.out _ _ (hC1.trans ((bl1 _ _).mono hC1.size)) ?_);clear hK K;refine bR ?_;clear s0 s1 s3;go_wp2_with fail;refine(iK (ws:=[⟨#[117,115,101,114]⟩,aQ e.ow,lK e.a e.l]) hP (hB0.trans ((hC1.trans ((bl1 _ _).mono hC1.size)).mono hB0.size)) (aB _ rfl) (iL (by decide) ho.ok (dP hr)) rfl hL hbase).mono ?_;rintro _ z ⟨rfl,hz,hT⟩;go_wp2;refine bodyPost_end (results_none Tryz.results58 _ _ _) rfl ?_;rw[hl.out];exact⟨rfl,hz,hT⟩
 by_cases h2:e.kd=2
 ·skip;go_upto_region 6 with fail
  have hl:Hid (vU e=lnB [⟨#[110,101,115,116]⟩,aQ e.ow,lK e.a e.l]):=by unfold Hid vU;rw[if_neg h1,if_pos h2]
  have s0:=Ws.here (aO hq0 0 rfl);have s1:=Ws.here (aO hq0 1 rfl);have s3:=Ws.here (aO hq0 3 rfl);refine aR [0,1,2,3,6] [4,7] [5,8,9] [10] (by kernel_rfl) (by kernel_rfl) (fun d _ _ _ _ h=>by cases d<;>exact h) ?_;simp only[zK,zM,zI,zJ];repeat(go_big_quiet_step (fail))
  refine wpQuiet_nil ?_;repeat(go_big_quiet_step (fail))
  refine wpQuiet_nil ?_;have hBd:Below w0.heap.size w0 w0.drew:=(zD).drew;refine aJ fun K hK=>?_;go_wp2_with fail;refine(bX e.ow _ ((hE.later hB0).later hBd) ho.1 ho.2).mono ?_;rintro _ y0 ⟨rfl,hb⟩;have hC0:Below w0.heap.size w0 y0:=hBd.trans (hb.mono hBd.size);go_wp2_with fail;refine aC (hK.out _ _ hC0 ?_);clear hK K hb hBd;refine aJ fun K hK=>?_;go_wp2_with fail;refine(iW e.a e.l _ ((hE.later hB0).later hC0) hr).mono ?_;rintro _ y1 ⟨rfl,hb⟩;have hC1:Below w0.heap.size w0 y1:=hC0.trans (hb.mono hC0.size);go_wp2_with fail;refine aC (hK.out _ _ hC1 ?_);clear hK K hb hC0;refine aJ fun K hK=>?_;go_wp2_with fail;refine aC (hK.out _ _ (hC1.trans ((bl1 _ _).mono hC1.size)) ?_);clear hK K;refine bR ?_;clear s0 s1 s3;go_wp2_with fail;refine(iK (ws:=[⟨#[110,101,115,116]⟩,aQ e.ow,lK e.a e.l]) hP (hB0.trans ((hC1.trans ((bl1 _ _).mono hC1.size)).mono hB0.size)) (aB _ rfl) (iL (by decide) ho.ok (dP hr)) rfl hL hbase).mono ?_;rintro _ z ⟨rfl,hz,hT⟩;go_wp2;refine bodyPost_end (results_none Tryz.results58 _ _ _) rfl ?_;rw[hl.out];exact⟨rfl,hz,hT⟩
 go_upto_region 2 with fail
 have hl:Hid (vU e=lnB [⟨#[99,111,111,108]⟩,aQ e.un,lK e.a e.l]):=by unfold Hid vU;rw[if_neg h1,if_neg h2]
 have s0:=Ws.here (aO hq0 0 rfl);have s1:=Ws.here (aO hq0 1 rfl);have s3:=Ws.here (aO hq0 4 rfl);refine aR [0,1,2,3,6] [4,7] [5,8,9] [10] (by kernel_rfl) (by kernel_rfl) (fun d _ _ _ _ h=>by cases d<;>exact h) ?_;simp only[zK,zM,zI,zJ];repeat(go_big_quiet_step (fail))
 refine wpQuiet_nil ?_;repeat(go_big_quiet_step (fail))
 refine wpQuiet_nil ?_;have hBd:Below w0.heap.size w0 w0.drew:=(zD).drew;refine aJ fun K hK=>?_;go_wp2_with fail;refine(bX e.un _ ((hE.later hB0).later hBd) hu.1 hu.2).mono ?_;rintro _ y0 ⟨rfl,hb⟩;have hC0:Below w0.heap.size w0 y0:=hBd.trans (hb.mono hBd.size);go_wp2_with fail;refine aC (hK.out _ _ hC0 ?_);clear hK K hb hBd;refine aJ fun K hK=>?_;go_wp2_with fail;refine(iW e.a e.l _ ((hE.later hB0).later hC0) hr).mono ?_;rintro _ y1 ⟨rfl,hb⟩;have hC1:Below w0.heap.size w0 y1:=hC0.trans (hb.mono hC0.size);go_wp2_with fail;refine aC (hK.out _ _ hC1 ?_);clear hK K hb hC0;refine aJ fun K hK=>?_;go_wp2_with fail;refine aC (hK.out _ _ (hC1.trans ((bl1 _ _).mono hC1.size)) ?_);clear hK K;refine bR ?_;clear s0 s1 s3;go_wp2_with fail;refine(iK (ws:=[⟨#[99,111,111,108]⟩,aQ e.un,lK e.a e.l]) hP (hB0.trans ((hC1.trans ((bl1 _ _).mono hC1.size)).mono hB0.size)) (aB _ rfl) (iL (by decide) hu.ok (dP hr)) rfl hL hbase).mono ?_;rintro _ z ⟨rfl,hz,hT⟩;go_wp2;refine bodyPost_end (results_none Tryz.results58 _ _ _) rfl ?_;rw[hl.out];exact⟨rfl,hz,hT⟩
def leW(e:Le):Prop:=rt e.a e.l=true/\num e.ow/\num e.un
def AG(p:Po):List ByteArray:=lnB [⟨#[112,111,111,108]⟩,aQ p.id,⟨#[117,112]⟩,aQ p.up,lK p.a p.l]::p.ls.map vU
structure poW(u:World)(p:Po):Prop where
 ls:LS u p.x p.n p.ls
 n:p.n<=64
 rt:rt p.a p.l=true
 id:num p.id
 up:num p.up
 le:∀e∈p.ls,leW e
theorem eP{E F:Type}(f:E->F)(d:E){l:List E}{k:Nat}(h:k<l.length):(l.take (k+1)).map f=(l.take k).map f++[f (l.getD k d)]:=by
 rw[List.take_add_one,List.map_append,zF,List.getElem?_eq_getElem h];rfl
theorem iX{E F:Type}(f:E->List F)(d:E){l:List E}{k:Nat}(h:k<l.length):(l.take (k+1)).flatMap f=(l.take k).flatMap f++f (l.getD k d):=by
 rw[List.take_add_one,List.flatMap_append,zF,List.getElem?_eq_getElem h];simp
theorem fR{E F:Type}(f:E->List F){m:Nat}:∀l:List E,(∀e∈l,(f e).length<=m)->(l.flatMap f).length<=l.length*m
 |[],_=>by simp
 |e::l,h=>by
  have h1:=fR f l fun x hx=>h x (by simp[hx]);have h2:=h e (by simp);rw[List.flatMap_cons,List.length_append,List.length_cons,Nat.add_mul];omega
theorem KJ{x y:ByteArray}(hx:x.size<=2147483648)(hy:y.size<=2147483648):TT [x,y]:=⟨by simp,fun u hu=>by simp at hu;rcases hu with rfl|rfl<;>assumption⟩
theorem O6(u:World)(b:Nat)(v:Value)(L:List ByteArray)(p:Po)(w:World)(hu:Below u.heap.size u w)(hP:BO w u.heap.size b v L)(hE:A0 u)(hL:L.length<=50000)(hp:poW u p):
  Calls Tryz.prog 28 #[.pointer (some ⟨b,0,none⟩),IZ p] w (mM u.heap.size b (L++AG p) w):=by
 have hbase:=hu.size;have hEw:=hE.later hu;have hbl:b<w.heap.size:=(zG hP.box);go_enter Tryz.func28,Tryz.ntmps28;go_upto_region 1 with fail
 obtain⟨w0,hw0⟩:∃w0,w0=w.alloc (oL p):=⟨_,rfl⟩;have hB0:Below w.heap.size w w0:=by rw[hw0];exact bl1 w _
 have hq0:w0.heap[w.heap.size]?=some (oL p):=by rw[hw0];exact aB _ rfl
 rw[<-hw0];clear hw0;have hP0:=hP.later hB0;have hE0:=hEw.later hB0;have s0:=Ws.here (aO hq0 0 rfl);have s1:=Ws.here (aO hq0 1 rfl);have s2:=Ws.here (aO hq0 2 rfl);have s3:=Ws.here (aO hq0 3 rfl);refine aR [0,1,2,3,6,9] [4,7,10] [5,8,11,12] [13] (by kernel_rfl) (by kernel_rfl) (fun d _ _ _ _ h=>by cases d<;>exact h) ?_;simp only[zK,zM,zI,zJ];repeat(go_big_quiet_step (fail))
 refine wpQuiet_nil ?_;repeat(go_big_quiet_step (fail))
 refine wpQuiet_nil ?_;have hBd:Below w0.heap.size w0 w0.drew:=(zD).drew;refine aJ fun K hK=>?_;go_wp2_with fail;refine(bX p.id _ (hE0.later hBd) hp.id.1 hp.id.2).mono ?_;rintro _ y0 ⟨rfl,hb⟩;have hC0:Below w0.heap.size w0 y0:=hBd.trans (hb.mono hBd.size);go_wp2_with fail;refine aC (hK.out _ _ hC0 ?_);clear hK K hb hBd;refine aJ fun K hK=>?_;go_wp2_with fail;refine(bX p.up _ (hE0.later hC0) hp.up.1 hp.up.2).mono ?_;rintro _ y1 ⟨rfl,hb⟩;have hC1:Below w0.heap.size w0 y1:=hC0.trans (hb.mono hC0.size);go_wp2_with fail;refine aC (hK.out _ _ hC1 ?_);clear hK K hb hC0;refine aJ fun K hK=>?_;go_wp2_with fail;refine(iW p.a p.l _ (hE0.later hC1) hp.rt).mono ?_;rintro _ y2 ⟨rfl,hb⟩;have hC2:Below w0.heap.size w0 y2:=hC1.trans (hb.mono hC1.size);go_wp2_with fail;refine aC (hK.out _ _ hC2 ?_);clear hK K hb hC1;refine aJ fun K hK=>?_;go_wp2_with fail;refine aC (hK.out _ _ (hC2.trans ((bl1 _ _).mono hC2.size)) ?_);clear hK K;refine bR ?_;go_wp2_with fail;clear s0 s1 s2 s3;refine(iK (ws:=[⟨#[112,111,111,108]⟩,aQ p.id,⟨#[117,112]⟩,aQ p.up,lK p.a p.l]) hP0 (hC2.trans ((bl1 _ _).mono hC2.size)) (aB _ rfl) ?_ rfl (by omega) (Nat.le_trans hbase hB0.size)).mono ?_
 ·refine⟨by simp,fun x hx=>?_⟩;simp only[List.mem_cons,List.not_mem_nil,or_false]at hx;rcases hx with rfl|rfl|rfl|rfl|rfl
  ·decide
  ·exact hp.id.ok
  ·decide
  ·exact hp.up.ok
  ·exact dP hp.rt
 rintro _ w2 ⟨rfl,⟨v2,hP2⟩,hT2⟩;have hq2:=hT2.box _ _ _ (by omega) (by decide) hq0;have hT:jP u.heap.size b w w2:=(jP.of hB0 hbase).trans hT2;have hu2:Below u.heap.size u w2:=hu.trans hT.below;clear hT2 hq0 hP0 hB0 hE0 hC2;obtain⟨A,hA⟩:∃A,Hid (A=L++[lnB [⟨#[112,111,111,108]⟩,aQ p.id,⟨#[117,112]⟩,aQ p.up,lK p.a p.l]]):=⟨_,rfl⟩;have hAl:A.length<=L.length+1:=by rw[hA.out];simp
 rw[<-hA.out]at hP2;have c8:=aO hq2 8 rfl;have hll:Hid (p.ls.length=p.n):=hp.ls.len;have hn:=hp.n;go_wp2;clear c8 hq2;go_loopw [23] (fun i wr=>∃k:Nat,i= .int .i64 k/\k<=p.n/\(∃v,BO wr u.heap.size b v (A++(p.ls.take k).map vU))/\jP u.heap.size b w2 wr) (fun i _=>p.n- (intOf i).toNat)
 case atStart=>exact⟨0,rfl,by omega,⟨_,by simpa using hP2⟩,jP.of (zD) hu2.size⟩
 case round=>
  obtain⟨k,rfl,hk,⟨vr,hPr⟩,hTr⟩:=hrel
  have hur:Below u.heap.size u wr:=hu2.trans hTr.below
  by_cases hlt:k<p.n
  ·have hlt':Hid (k<p.n):=hlt;have hkl:k<p.ls.length:=by rw[hll.out];exact hlt
   obtain⟨bb,oo,hx,d0,d1,d2,d3,d4⟩:=(hp.ls.later hur).cells k hlt;have hst:Hid ((p.ls.take (k+1)).map vU=(p.ls.take k).map vU++[vU (leAt p.ls k)]):=eP vU K1 hkl;have hle:leW (leAt p.ls k):=hp.le _ (fH hkl);have hlen:(A++(p.ls.take k).map vU).length<=100000:=by rw[List.length_append,List.length_map,List.length_take];omega
   rw[hx];generalize leAt p.ls k=e at*;go_wp2_with fail;have hB1:Below wr.heap.size wr (wr.alloc (tC e)):=bl1 _ _;refine(O5 u.heap.size b vr _ e (wr.alloc (tC e)) (hPr.later hB1) ((hE.later hur).later hB1) hlen (Nat.le_trans hur.size hB1.size) hle.1 hle.2.1 hle.2.2).mono ?_;rintro _ w3 ⟨rfl,⟨v3,hP3⟩,hT3⟩;go_wp2;go_roundw
   case rel=>exact⟨k+1,by go_num,hlt'.out,⟨v3,by rw[hst.out,<-List.append_assoc];exact hP3⟩,hTr.trans ((jP.of hB1 hur.size).trans hT3)⟩
   case measure=>simp[intOf];have:=hlt'.out;omega
  ·obtain rfl:k=p.n:=by omega
   have e:p.ls.take p.n=p.ls:=by rw[<-hll.out,List.take_length]
   rw[e]at hPr;clear e;go_wp2;refine bodyPost_end (results_none Tryz.results28 _ _ _) rfl ?_;exact⟨rfl,⟨vr,by rw[hA.out,List.append_assoc]at hPr;exact hPr⟩,hT.trans hTr⟩
def bkL(t:Int)(ps:List Po):List ByteArray:=lnB [⟨#[116,105,99,107]⟩,aQ t]::ps.flatMap AG
theorem O7(u:World)(b:Nat)(v:Value)(L:List ByteArray)(t:Int)(x:Option Addr)(n c:Nat)(ps:List Po)(w:World)(hu:Below u.heap.size u w)(hP:BO w u.heap.size b v L)(hE:A0 u)(hL:L.length<=10)(hs:kS u x n ps)(hn:n<=64)(ht:num t)(hps:∀p∈ps,poW u p):
  Calls Tryz.prog 9 #[.pointer (some ⟨b,0,none⟩), .agg #[.int .i64 t, .slice x n c]] w (mM u.heap.size b (L++bkL t ps) w):=by
 have hbase:=hu.size;have hEw:=hE.later hu;have hbl:b<w.heap.size:=(zG hP.box);go_enter Tryz.func9,Tryz.ntmps9;go_upto_region 1 with fail
 obtain⟨w0,hw0⟩:∃w0,w0=w.alloc (lP t (.slice x n c)):=⟨_,rfl⟩;have hB0:Below w.heap.size w w0:=by rw[hw0];exact bl1 w _
 have hq0:w0.heap[w.heap.size]?=some (lP t (.slice x n c)):=by rw[hw0];exact aB _ rfl
 rw[<-hw0];clear hw0;have hP0:=hP.later hB0;have hE0:=hEw.later hB0;have s0:=Ws.here (aO hq0 0 rfl);refine aR [0,1,2,3] [4] [5,6] [7] (by kernel_rfl) (by kernel_rfl) (fun d _ _ _ _ h=>by cases d<;>exact h) ?_;simp only[zK,zM,zI,zJ];repeat(go_big_quiet_step (fail))
 refine wpQuiet_nil ?_;repeat(go_big_quiet_step (fail))
 refine wpQuiet_nil ?_;have hBd:Below w0.heap.size w0 w0.drew:=(zD).drew;refine aJ fun K hK=>?_;go_wp2_with fail;refine(bX t _ (hE0.later hBd) ht.1 ht.2).mono ?_;rintro _ y0 ⟨rfl,hb⟩;have hC0:Below w0.heap.size w0 y0:=hBd.trans (hb.mono hBd.size);go_wp2_with fail;refine aC (hK.out _ _ hC0 ?_);clear hK K hb hBd;refine aJ fun K hK=>?_;go_wp2_with fail;refine aC (hK.out _ _ (hC0.trans ((bl1 _ _).mono hC0.size)) ?_);clear hK K;refine bR ?_;go_wp2_with fail;clear s0;refine(iK (ws:=[⟨#[116,105,99,107]⟩,aQ t]) hP0 (hC0.trans ((bl1 _ _).mono hC0.size)) (aB _ rfl) ?_ rfl (by omega) (Nat.le_trans hbase hB0.size)).mono ?_
 ·exact KJ (by decide) ht.ok
 rintro _ w2 ⟨rfl,⟨v2,hP2⟩,hT2⟩;have hq2:=hT2.box _ _ _ (by omega) (by decide) hq0;have hT:jP u.heap.size b w w2:=(jP.of hB0 hbase).trans hT2;have hu2:Below u.heap.size u w2:=hu.trans hT.below;clear hT2 hq0 hP0 hB0 hE0 hC0;obtain⟨A,hA⟩:∃A,Hid (A=L++[lnB [⟨#[116,105,99,107]⟩,aQ t]]):=⟨_,rfl⟩;have hAl:A.length<=L.length+1:=by rw[hA.out];simp
 rw[<-hA.out]at hP2;have c8:=aO hq2 1 rfl;have hll:Hid (ps.length=n):=hs.len;go_wp2;clear c8 hq2;go_loopw [17] (fun i wr=>∃k:Nat,i= .int .i64 k/\k<=n/\(∃v,BO wr u.heap.size b v (A++(ps.take k).flatMap AG))/\jP u.heap.size b w2 wr) (fun i _=>n- (intOf i).toNat)
 case atStart=>exact⟨0,rfl,by omega,⟨_,by simpa using hP2⟩,jP.of (zD) hu2.size⟩
 case round=>
  obtain⟨k,rfl,hk,⟨vr,hPr⟩,hTr⟩:=hrel
  have hur:Below u.heap.size u wr:=hu2.trans hTr.below
  by_cases hlt:k<n
  ·have hlt':Hid (k<n):=hlt;have hkl:k<ps.length:=by rw[hll.out];exact hlt
   obtain⟨bb,oo,hx,d0,d1,d2,d3,d4,d5,d6,d7,d8⟩:=(hs.later hur).cells k hlt;have hst:Hid ((ps.take (k+1)).flatMap AG=(ps.take k).flatMap AG++AG (poAt ps k)):=iX AG YX hkl;have hpw:poW u (poAt ps k):=hps _ (cZ hkl);have hlen:(A++(ps.take k).flatMap AG).length<=50000:=by
    have h1:=fR AG (m:=65) (ps.take k) fun p hp=>by
     have h2:=hps p (List.mem_of_mem_take hp);have:=h2.ls.len;have:=h2.n;simp[AG];omega
    rw[List.length_take]at h1;rw[List.length_append];omega
   rw[hx];generalize poAt ps k=e at*;go_wp2_with fail;have hB1:Below wr.heap.size wr (wr.alloc (oL e)):=bl1 _ _;refine(O6 u b vr _ e (wr.alloc (oL e)) (hur.trans (hB1.mono hur.size)) (hPr.later hB1) hE hlen hpw).mono ?_;rintro _ w3 ⟨rfl,⟨v3,hP3⟩,hT3⟩;go_wp2;go_roundw
   case rel=>exact⟨k+1,by go_num,hlt'.out,⟨v3,by rw[hst.out,<-List.append_assoc];exact hP3⟩,hTr.trans ((jP.of hB1 hur.size).trans hT3)⟩
   case measure=>simp[intOf];have:=hlt'.out;omega
  ·obtain rfl:k=n:=by omega
   have e:ps.take k=ps:=by rw[<-hll.out,List.take_length]
   rw[e]at hPr;clear e;go_wp2;refine bodyPost_end (results_none Tryz.results9 _ _ _) rfl ?_;exact⟨rfl,⟨vr,by rw[hA.out,List.append_assoc]at hPr;exact hPr⟩,hT.trans hTr⟩
def IG(f:Fc):ByteArray:=lnB (⟨#[102,97,99,101]⟩::aQ f.id::f.ns.map aQ)
def wY(s:Sb):List ByteArray:=lnB [⟨#[115,117,98]⟩,aQ s.id,lK s.a s.l]::s.fs.map IG
def KK(r:Rg):ByteArray:=lnB [⟨#[114,97,110,103,101]⟩,lK r.a r.l,aQ r.p]
def qP(v:Vn):List ByteArray:=lnB [⟨#[110,101,116]⟩,aQ v.id]::(v.rs.map KK++v.ss.flatMap wY)
def O8(l:Int×Int):ByteArray:=lnB [⟨#[108,105,110,107]⟩,aQ l.1,aQ l.2]
def ntL(vs:List Vn)(ls:List (Int×Int)):List ByteArray:=vs.flatMap qP++ls.map O8
def fcN(f:Fc):Prop:=num f.id/\f.n<=4/\∀a∈f.ns,num a
def sbN(s:Sb):Prop:=num s.id/\rt s.a s.l=true/\s.n<=8/\∀f∈s.fs,fcN f
def rgN(r:Rg):Prop:=rt r.a r.l=true/\num r.p
def vnN(v:Vn):Prop:=num v.id/\v.rn<=4/\v.sn<=6/\(∀r∈v.rs,rgN r)/\∀s∈v.ss,sbN s
def pQ(ls:List (Int×Int))(k:Nat):Int×Int:=ls.getD k (0,0)
theorem bS{E:Type}{l:List E}(d:E)(h:k<l.length):l.getD k d∈l:=by
 rw[zF,List.getElem?_eq_getElem h];exact List.getElem_mem h
theorem rw1{s:ByteArray}(h:w.heap[g]?=some (.cells #[.string s] 9)):Rw w (some ⟨g,0,none⟩) 1 1 [.string s]:=
 ⟨rfl,fun _=>by simp,fun u hu=>by simp at hu;rw[hu];rfl,fun ad had j u hu=>by
  cases had
  cases j with
  |zero=>simp at hu;subst hu;exact(aD h).1 0
  |succ j=>simp at hu⟩
theorem TV{B n:Nat}{x:Value}{L ws:List ByteArray}(hP:BO w base b v L)(hB:Below w.heap.size w w1)(hO:w1.ownsRow B 9 1 x n (ws.map Value.string))(hn:ws.length=n)(h0:0<n)(hw:TT ws)(hL:L.length<=100000)(hbase:base<=w.heap.size):
  Calls Tryz.prog 26 #[.pointer (some ⟨b,0,none⟩),x] w1 (mM base b (L++[lnB ws]) w):=by
 subst hn;have h1:=AF ws hw.2;have h2:=hw.1;rcases hO.2 with ⟨-,hv⟩|⟨g,cap,cur,rfl,h3,h4,h5,h6,h7,h8⟩
 ·omega
 have hr:=(DI hO (fun u hu=>by simp only[List.mem_map]at hu;obtain⟨y, -,rfl⟩:=hu;rfl)).2.2.2 _ rfl;refine(HV base b g cap v L ws w1 (hP.later hB) (fun j x hx=>by have:=hr j (.string x) (by simp[hx]);rwa[cA]at this) (zG h4) h5 (by omega) (by omega) hL (Nat.le_trans hbase hB.size)).mono fun e w2 ⟨h3,h4,h5⟩=>⟨h3,h4,(jP.of hB hbase).trans h5⟩
abbrev aEy(s:Sb):Value:= .agg #[.int .i64 s.id, .int .i64 s.a, .int .i64 s.l, .slice s.x s.n s.c]
theorem TW(u:World)(b:Nat)(v:Value)(L:List ByteArray)(s:Sb)(w:World)(hu:Below u.heap.size u w)(hP:BO w u.heap.size b v L)(hE:A0 u)(hL:L.length<=60000)(hf:oW u s.x s.n s.fs)(hs:sbN s):
  Calls Tryz.prog 59 #[.pointer (some ⟨b,0,none⟩),aEy s] w (mM u.heap.size b (L++wY s) w):=by
 have hbase:=hu.size;have hEw:=hE.later hu;have hbl:b<w.heap.size:=(zG hP.box);go_enter Tryz.func59,Tryz.ntmps59;go_upto_region 1 with fail
 obtain⟨w0,hw0⟩:∃w0,w0=w.alloc (NF s):=⟨_,rfl⟩;have hB0:Below w.heap.size w w0:=by rw[hw0];exact bl1 w _
 have hq0:w0.heap[w.heap.size]?=some (NF s):=by rw[hw0];exact aB _ rfl
 rw[<-hw0];clear hw0;have hP0:=hP.later hB0;have hE0:=hEw.later hB0;have s0:=Ws.here (aO hq0 0 rfl);have s1:=Ws.here (aO hq0 1 rfl);have s2:=Ws.here (aO hq0 2 rfl);refine aR [0,1,2,3,6] [4,7] [5,8,9] [10] (by kernel_rfl) (by kernel_rfl) (fun d _ _ _ _ h=>by cases d<;>exact h) ?_;simp only[zK,zM,zI,zJ];repeat(go_big_quiet_step (fail))
 refine wpQuiet_nil ?_;repeat(go_big_quiet_step (fail))
 refine wpQuiet_nil ?_;have hBd:Below w0.heap.size w0 w0.drew:=(zD).drew;refine aJ fun K hK=>?_;go_wp2_with fail;refine(bX s.id _ (hE0.later hBd) hs.1.1 hs.1.2).mono ?_;rintro _ y0 ⟨rfl,hb⟩;have hC0:Below w0.heap.size w0 y0:=hBd.trans (hb.mono hBd.size);go_wp2_with fail;refine aC (hK.out _ _ hC0 ?_);clear hK K hb hBd;refine aJ fun K hK=>?_;go_wp2_with fail;refine(iW s.a s.l _ (hE0.later hC0) hs.2.1).mono ?_;rintro _ y1 ⟨rfl,hb⟩;have hC1:Below w0.heap.size w0 y1:=hC0.trans (hb.mono hC0.size);go_wp2_with fail;refine aC (hK.out _ _ hC1 ?_);clear hK K hb hC0;refine aJ fun K hK=>?_;go_wp2_with fail;refine aC (hK.out _ _ (hC1.trans ((bl1 _ _).mono hC1.size)) ?_);clear hK K;refine bR ?_;go_wp2_with fail;clear s0 s1 s2;refine(iK (ws:=[⟨#[115,117,98]⟩,aQ s.id,lK s.a s.l]) hP0 (hC1.trans ((bl1 _ _).mono hC1.size)) (aB _ rfl) ?_ rfl (by omega) (Nat.le_trans hbase hB0.size)).mono ?_
 ·exact iL (by decide) hs.1.ok (dP hs.2.1)
 rintro _ w2 ⟨rfl,⟨v2,hP2⟩,hT2⟩;have hq2:=hT2.box _ _ _ (by omega) (by decide) hq0;have hT:jP u.heap.size b w w2:=(jP.of hB0 hbase).trans hT2;have hu2:Below u.heap.size u w2:=hu.trans hT.below;clear hT2 hq0 hP0 hB0 hE0 hC1;obtain⟨A,hA⟩:∃A,Hid (A=L++[lnB [⟨#[115,117,98]⟩,aQ s.id,lK s.a s.l]]):=⟨_,rfl⟩;have hAl:A.length<=L.length+1:=by rw[hA.out];simp
 rw[<-hA.out]at hP2;have c8:=aO hq2 3 rfl;have hll:Hid (s.fs.length=s.n):=hf.len;have hn:=hs.2.2.1;go_wp2;clear c8 hq2;go_loopw [23] (fun i wr=>∃k:Nat,i= .int .i64 k/\k<=s.n/\(∃v,BO wr u.heap.size b v (A++(s.fs.take k).map IG))/\jP u.heap.size b w2 wr) (fun i _=>s.n- (intOf i).toNat)
 case atStart=>exact⟨0,rfl,by omega,⟨_,by simpa using hP2⟩,jP.of (zD) hu2.size⟩
 case round=>
  obtain⟨k,rfl,hk,⟨vr,hPr⟩,hTr⟩:=hrel
  have hur:Below u.heap.size u wr:=hu2.trans hTr.below
  by_cases hlt:k<s.n
  ·have hlt':Hid (k<s.n):=hlt;have hkl:k<s.fs.length:=by rw[hll.out];exact hlt
   obtain⟨bb,oo,hx,d0,d1⟩:=(hf.later hur).cells k hlt;have hst:Hid ((s.fs.take (k+1)).map IG=(s.fs.take k).map IG++[IG (fcAt s.fs k)]):=eP IG U1 hkl;have hlen:(A++(s.fs.take k).map IG).length<=100000:=by rw[List.length_append,List.length_map,List.length_take];omega
   have hfn:fcN (fcAt s.fs k):=hs.2.2.2 _ (bS U1 hkl);have hns:=(hf.addrs k hlt).2.2;rw[hx];generalize fcAt s.fs k=e at*;have hnl:Hid (e.ns.length=e.n):=hns.len;have hn4:=hfn.2.1;obtain⟨wo,hwo⟩:∃wo,wo=wr:=⟨_,rfl⟩;rw[<-hwo]at d0 d1 hPr hTr hur⊢;clear hwo;go_upto_region 5 with fail
   obtain⟨w0,hw0⟩:∃w0,w0=wo.alloc (fcO e):=⟨_,rfl⟩;have hB1:Below wo.heap.size wo w0:=by rw[hw0];exact bl1 wo _
   have hq1:w0.heap[wo.heap.size]?=some (fcO e):=by rw[hw0];exact aB _ rfl
   rw[<-hw0];clear hw0 d0 d1;have hE1:=(hE.later hur).later hB1;have c0:=aO hq1 0 rfl;go_wp2_with fail;refine(bX e.id _ hE1 hfn.1.1 hfn.1.2).mono ?_;rintro _ w4 ⟨rfl,hb4⟩;have hq4:=aA hb4 hq1;have c1:=aO hq4 1 rfl;have c1':(w4.alloc (.cells #[.string ⟨#[102,97,99,101]⟩, .string (aQ e.id)] 9)).cell? ⟨wo.heap.size,1,none⟩=some (.slice e.x e.n e.c):=cell_later (bl1 _ _) c1;clear c0 c1;go_wp2;clear c1' hq4 hq1;have hB4:Below w0.heap.size w0 (w4.alloc (.cells #[.string ⟨#[102,97,99,101]⟩, .string (aQ e.id)] 9)):=hb4.trans ((bl1 _ _).mono hb4.size);have hO4:(w4.alloc (.cells #[.string ⟨#[102,97,99,101]⟩, .string (aQ e.id)] 9)).ownsRow w0.heap.size 9 1 (.slice (some ⟨w4.heap.size,0,none⟩) 2 2) 2 [.string ⟨#[102,97,99,101]⟩, .string (aQ e.id)]:=
    ⟨rfl, .inr ⟨w4.heap.size,2,#[.string ⟨#[102,97,99,101]⟩, .string (aQ e.id)],rfl,hb4.size,aB _ rfl,by omega,by unfold maxLen;omega,rfl,rfl⟩⟩
   go_loopw [6,34] (fun ws i wr=>∃q:Nat,i= .int .i64 q/\q<=e.n/\wr.ownsRow w0.heap.size 9 1 ws (2+q) ((⟨#[102,97,99,101]⟩::aQ e.id::(e.ns.take q).map aQ).map Value.string)/\Below w0.heap.size w0 wr) (fun _ i _=>e.n- (intOf i).toNat)
   case atStart=>exact⟨0,rfl,by omega,by simpa using hO4,hB4⟩
   case round=>
    obtain⟨q,rfl,hq,hO,hBr⟩:=hrel
    have huw:Below u.heap.size u wr:=hur.trans ((hB1.trans (hBr.mono hB1.size)).mono hur.size)
    by_cases hlq:q<e.n
    ·have hlq':Hid (q<e.n):=hlq;obtain⟨b2,o2,hx2,f0⟩:=(hns.later huw).cells q hlq;have hq2:Hid ((e.ns.take (q+1)).map aQ=(e.ns.take q).map aQ++[aQ (aU e.ns q)]):=eP aQ 0 (by rw[hnl.out];exact hlq);have hnu:num (aU e.ns q):=hfn.2.2 _ (bS 0 (by rw[hnl.out];exact hlq));rw[hx2];generalize aU e.ns q=y at*;go_wp2_with fail;refine(bX y _ (hE.later huw) hnu.1 hnu.2).mono ?_;rintro _ w5 ⟨rfl,hb5⟩;go_wp2_with (at_builtin;refine Hid.out ?_);unfold Hid;have hb6:Below w5.heap.size w5 (w5.alloc (.cells #[.string (aQ y)] 9)):=bl1 _ _;have hB6:=(hBr.trans (hb5.mono hBr.size)).trans (hb6.mono (Nat.le_trans hBr.size hb5.size));refine cM aAh rfl _ _ rfl w0.heap.size _ rfl (cW (cW hO hb5) hb6) ⟨w5.heap.size,0,none⟩ 1 1 rfl (rw1 (aB _ rfl)) (by omega) hB6.size fun v' w' hO' hg=>?_;have hB7:=dH hB6 hg (ER (cW (cW hO hb5) hb6));go_wp2;go_roundw
     case rel=>exact⟨q+1,by go_num,hlq'.out,by rw[hq2.out,<-Nat.add_assoc];simpa using hO',hB7⟩
     case measure=>simp[intOf];have:=hlq'.out;omega
    ·obtain rfl:q=e.n:=by omega
     have et:e.ns.take e.n=e.ns:=by rw[<-hnl.out,List.take_length]
     rw[et]at hO;clear et;go_wp2_with fail;refine(TV hPr (hB1.trans (hBr.mono hB1.size)) hO (by simp[hnl.out];omega) (by omega) ⟨by simp[hnl.out];omega,fun x hx=>?_⟩ hlen hur.size).mono ?_
     ·simp only[List.mem_cons,List.mem_map]at hx;rcases hx with rfl|rfl|⟨y,hy,rfl⟩
      ·decide
      ·exact hfn.1.ok
      ·exact(hfn.2.2 y hy).ok
     rintro _ w3 ⟨rfl,⟨v3,hP3⟩,hT3⟩;go_wp2;go_roundw
     case rel=>exact⟨k+1,by go_num,hlt'.out,⟨v3,by rw[hst.out,<-List.append_assoc];exact hP3⟩,hTr.trans hT3⟩
     case measure=>simp[intOf];have:=hlt'.out;omega
  ·obtain rfl:k=s.n:=by omega
   have e:s.fs.take s.n=s.fs:=by rw[<-hll.out,List.take_length]
   rw[e]at hPr;clear e;go_wp2;refine bodyPost_end (results_none Tryz.results59 _ _ _) rfl ?_;exact⟨rfl,⟨vr,by rw[hA.out,List.append_assoc]at hPr;exact hPr⟩,hT.trans hTr⟩
abbrev aDt(l:Int×Int):Obj:= .cells #[.int .i64 l.1, .int .i64 l.2] 77
theorem ES{s:Sb}(h:s.fs.length=s.n)(g:sbN s):(wY s).length<=9:=by
 have:=g.2.2.1;simp[wY];omega
abbrev aDu(v:Vn):Value:= .agg #[.int .i64 v.id, .slice v.rx v.rn v.rc, .slice v.sx v.sn v.sc]
theorem KL{n:Nat}(h:SS u x n ss):∀s∈ss,s.fs.length=s.n:=fun s hs=>by
 obtain⟨i,hi,rfl⟩:=List.getElem_of_mem hs;have h1:=(h.faces i (by rw[<-h.len];exact hi)).2.2.len;unfold aG at h1;rwa[zF,List.getElem?_eq_getElem hi]at h1
theorem wZ{v:Vn}(h:Vp u v.rx v.rn v.rc v.rs v.sx v.sn v.sc v.ss)(g:vnN v):(qP v).length<=100:=by
 have h1:=fR wY (m:=9) v.ss fun s hs=>ES (KL h.subs s hs) (g.2.2.2.2 s hs);have:=h.ranges.len;have:=h.subs.len;have:=g.2.1;have:=g.2.2.1;simp only[qP,List.length_cons,List.length_append,List.length_map];omega
theorem TX(u:World)(b:Nat)(v:Value)(L:List ByteArray)(z:Vn)(w:World)(hu:Below u.heap.size u w)(hP:BO w u.heap.size b v L)(hE:A0 u)(hL:L.length<=50000)(hv:Vp u z.rx z.rn z.rc z.rs z.sx z.sn z.sc z.ss)(hz:vnN z):
  Calls Tryz.prog 29 #[.pointer (some ⟨b,0,none⟩),aDu z] w (mM u.heap.size b (L++qP z) w):=by
 have hbase:=hu.size;have hEw:=hE.later hu;have hbl:b<w.heap.size:=(zG hP.box);go_enter Tryz.func29,Tryz.ntmps29;go_upto_region 1 with fail
 obtain⟨w0,hw0⟩:∃w0,w0=w.alloc (D8 z):=⟨_,rfl⟩;have hB0:Below w.heap.size w w0:=by rw[hw0];exact bl1 w _
 have hq0:w0.heap[w.heap.size]?=some (D8 z):=by rw[hw0];exact aB _ rfl
 rw[<-hw0];clear hw0;have hP0:=hP.later hB0;have hE0:=hEw.later hB0;have s0:=Ws.here (aO hq0 0 rfl);refine aR [0,1,2,3] [4] [5,6] [7] (by kernel_rfl) (by kernel_rfl) (fun d _ _ _ _ h=>by cases d<;>exact h) ?_;simp only[zK,zM,zI,zJ];repeat(go_big_quiet_step (fail))
 refine wpQuiet_nil ?_;repeat(go_big_quiet_step (fail))
 refine wpQuiet_nil ?_;have hBd:Below w0.heap.size w0 w0.drew:=(zD).drew;refine aJ fun K hK=>?_;go_wp2_with fail;refine(bX z.id _ (hE0.later hBd) hz.1.1 hz.1.2).mono ?_;rintro _ y0 ⟨rfl,hb⟩;have hC0:Below w0.heap.size w0 y0:=hBd.trans (hb.mono hBd.size);go_wp2_with fail;refine aC (hK.out _ _ hC0 ?_);clear hK K hb hBd;refine aJ fun K hK=>?_;go_wp2_with fail;refine aC (hK.out _ _ (hC0.trans ((bl1 _ _).mono hC0.size)) ?_);clear hK K;refine bR ?_;go_wp2_with fail;clear s0;refine(iK (ws:=[⟨#[110,101,116]⟩,aQ z.id]) hP0 (hC0.trans ((bl1 _ _).mono hC0.size)) (aB _ rfl) ?_ rfl (by omega) (Nat.le_trans hbase hB0.size)).mono ?_
 ·exact KJ (by decide) hz.1.ok
 rintro _ w2 ⟨rfl,⟨v2,hP2⟩,hT2⟩;have hq2:=hT2.box _ _ _ (by omega) (by decide) hq0;have hT:jP u.heap.size b w w2:=(jP.of hB0 hbase).trans hT2;have hu2:Below u.heap.size u w2:=hu.trans hT.below;clear hT2 hq0 hP0 hB0 hE0 hC0;obtain⟨A,hA⟩:∃A,Hid (A=L++[lnB [⟨#[110,101,116]⟩,aQ z.id]]):=⟨_,rfl⟩;have hAl:A.length<=L.length+1:=by rw[hA.out];simp
 rw[<-hA.out]at hP2;have c8:=aO hq2 1 rfl;have hll:Hid (z.rs.length=z.rn):=hv.ranges.len;have hn:=hz.2.1;have hn6:=hz.2.2.1;go_wp2;clear c8;go_loopw [19] (fun i wr=>∃k:Nat,i= .int .i64 k/\k<=z.rn/\(∃v,BO wr u.heap.size b v (A++(z.rs.take k).map KK))/\jP u.heap.size b w2 wr) (fun i _=>z.rn- (intOf i).toNat)
 case atStart=>exact⟨0,rfl,by omega,⟨_,by simpa using hP2⟩,jP.of (zD) hu2.size⟩
 case round=>
  obtain⟨k,rfl,hk,⟨vr,hPr⟩,hTr⟩:=hrel
  have hur:Below u.heap.size u wr:=hu2.trans hTr.below
  by_cases hlt:k<z.rn
  ·have hlt':Hid (k<z.rn):=hlt;have hkl:k<z.rs.length:=by rw[hll.out];exact hlt
   obtain⟨bb,oo,hx,d0,d1,d2⟩:=(hv.ranges.later hur).cells k hlt;have hst:Hid ((z.rs.take (k+1)).map KK=(z.rs.take k).map KK++[KK (rgAt z.rs k)]):=eP KK QD hkl;have hrn:rgN (rgAt z.rs k):=hz.2.2.2.1 _ (bS QD hkl);have hlen:(A++(z.rs.take k).map KK).length<=100000:=by rw[List.length_append,List.length_map,List.length_take];omega
   rw[hx];generalize rgAt z.rs k=e at*;go_upto_region 5 with fail
   obtain⟨w0,hw0⟩:∃w0,w0=wr.alloc (AY e):=⟨_,rfl⟩;have hB1:Below wr.heap.size wr w0:=by rw[hw0];exact bl1 wr _
   have hq1:w0.heap[wr.heap.size]?=some (AY e):=by rw[hw0];exact aB _ rfl
   rw[<-hw0];clear hw0;have hE1:=(hE.later hur).later hB1;have s0:=Ws.here (aO hq1 0 rfl);have s1:=Ws.here (aO hq1 1 rfl);have s2:=Ws.here (aO hq1 2 rfl);refine aR [0,1,2,3,6] [4,7] [5,8,9] [10] (by kernel_rfl) (by kernel_rfl) (fun d _ _ _ _ h=>by cases d<;>exact h) ?_;simp only[zK,zM,zI,zJ];repeat(go_big_quiet_step (fail))
   refine wpQuiet_nil ?_;repeat(go_big_quiet_step (fail))
   refine wpQuiet_nil ?_;have hBd:Below w0.heap.size w0 w0.drew:=(zD).drew;refine aJ fun K hK=>?_;go_wp2_with fail;refine(iW e.a e.l _ (hE1.later hBd) hrn.1).mono ?_;rintro _ y0 ⟨rfl,hb⟩;have hC0:Below w0.heap.size w0 y0:=hBd.trans (hb.mono hBd.size);go_wp2_with fail;refine aC (hK.out _ _ hC0 ?_);clear hK K hb hBd;refine aJ fun K hK=>?_;go_wp2_with fail;refine(bX e.p _ (hE1.later hC0) hrn.2.1 hrn.2.2).mono ?_;rintro _ y1 ⟨rfl,hb⟩;have hC1:Below w0.heap.size w0 y1:=hC0.trans (hb.mono hC0.size);go_wp2_with fail;refine aC (hK.out _ _ hC1 ?_);clear hK K hb hC0;refine aJ fun K hK=>?_;go_wp2_with fail;refine aC (hK.out _ _ (hC1.trans ((bl1 _ _).mono hC1.size)) ?_);clear hK K;refine bR ?_;go_wp2_with fail;clear s0 s1 s2;refine(iK (ws:=[⟨#[114,97,110,103,101]⟩,lK e.a e.l,aQ e.p]) (hPr.later hB1) (hC1.trans ((bl1 _ _).mono hC1.size)) (aB _ rfl) (iL (by decide) (dP hrn.1) hrn.2.ok) rfl (by omega) (Nat.le_trans hur.size hB1.size)).mono ?_;rintro _ w3 ⟨rfl,⟨v3,hP3⟩,hT3⟩;go_wp2;go_roundw
   case rel=>exact⟨k+1,by go_num,hlt'.out,⟨v3,by rw[hst.out,<-List.append_assoc];exact hP3⟩,hTr.trans ((jP.of hB1 hur.size).trans hT3)⟩
   case measure=>simp[intOf];have:=hlt'.out;omega
  ·obtain rfl:k=z.rn:=by omega
   have e:z.rs.take z.rn=z.rs:=by rw[<-hll.out,List.take_length]
   rw[e]at hPr;clear e;obtain⟨w1,hw1⟩:∃w1,w1=wr:=⟨_,rfl⟩;rw[<-hw1]at hPr hTr hur⊢;clear hw1;obtain⟨D,hD⟩:∃D,Hid (D=A++z.rs.map KK):=⟨_,rfl⟩;have hDl:D.length<=A.length+4:=by rw[hD.out,List.length_append,List.length_map,hll.out];omega
   rw[<-hD.out]at hPr;have hP1:=hPr;have hT1:=hTr;have hu1:=hur;have c9:w1.cell? ⟨w.heap.size,2,none⟩=some (.slice z.sx z.sn z.sc):=(aD (hT1.box _ _ _ (by omega) (by decide) hq2)).1 2;clear hPr hTr hur hlt hk hll;have hll:Hid (z.ss.length=z.sn):=hv.subs.len;go_wp2;clear c9;go_loopw [38] (fun i wr=>∃k:Nat,i= .int .i64 k/\k<=z.sn/\(∃v,BO wr u.heap.size b v (D++(z.ss.take k).flatMap wY))/\jP u.heap.size b w1 wr) (fun i _=>z.sn- (intOf i).toNat)
   case atStart=>exact⟨0,rfl,by omega,⟨_,by simpa using hP1⟩,jP.of (zD) hu1.size⟩
   case round=>
    obtain⟨k,rfl,hk,⟨vr,hPr⟩,hTr⟩:=hrel
    have hur:Below u.heap.size u wr:=hu1.trans hTr.below
    by_cases hlt:k<z.sn
    ·have hlt':Hid (k<z.sn):=hlt;have hkl:k<z.ss.length:=by rw[hll.out];exact hlt
     obtain⟨bb,oo,hx,d0,d1,d2,d3⟩:=(hv.subs.later hur).cells k hlt;have hst:Hid ((z.ss.take (k+1)).flatMap wY=(z.ss.take k).flatMap wY++wY (aG z.ss k)):=iX wY U2 hkl;have hfc:=(hv.subs.faces k hlt).2.2;have hsn:sbN (aG z.ss k):=hz.2.2.2.2 _ (bS U2 hkl);have hlen:(D++(z.ss.take k).flatMap wY).length<=60000:=by
       have h1:=fR wY (m:=9) (z.ss.take k) fun s hs=>ES (KL hv.subs s (List.mem_of_mem_take hs)) (hz.2.2.2.2 s (List.mem_of_mem_take hs));rw[List.length_take]at h1;rw[List.length_append];omega
     rw[hx];generalize aG z.ss k=e at*;go_wp2_with fail;have hB1:Below wr.heap.size wr (wr.alloc (NF e)):=bl1 _ _;refine(TW u b vr _ e (wr.alloc (NF e)) (hur.trans (hB1.mono hur.size)) (hPr.later hB1) hE hlen hfc hsn).mono ?_;rintro _ w3 ⟨rfl,⟨v3,hP3⟩,hT3⟩;go_wp2;go_roundw
     case rel=>exact⟨k+1,by go_num,hlt'.out,⟨v3,by rw[hst.out,<-List.append_assoc];exact hP3⟩,hTr.trans ((jP.of hB1 hur.size).trans hT3)⟩
     case measure=>simp[intOf];have:=hlt'.out;omega
    ·obtain rfl:k=z.sn:=by omega
     have e:z.ss.take z.sn=z.ss:=by rw[<-hll.out,List.take_length]
     rw[e]at hPr;clear e;go_wp2;refine bodyPost_end (results_none Tryz.results29 _ _ _) rfl ?_;exact⟨rfl,⟨vr,by rw[hD.out,hA.out]at hPr;simpa[qP]using hPr⟩,(hT.trans hT1).trans hTr⟩
abbrev ntO(x:Option Addr)(n c:Nat)(lx:Option Addr)(ln lc:Nat):Obj:= .cells #[.slice x n c, .slice lx ln lc] 28
theorem TY(u:World)(b:Nat)(v:Value)(L:List ByteArray)(x:Option Addr)(n c:Nat)(vs:List Vn)(lx:Option Addr)(ln lc:Nat)(ls:List (Int×Int))(w:World)(hu:Below u.heap.size u w)(hP:BO w u.heap.size b v L)(hE:A0 u)(hL:L.length<=10000)(hv:VS u x n vs)(hl:PS u lx ln ls)(hn:n<=64)(hln:ln<=64)(hvs:∀z∈vs,vnN z)(hls:∀l∈ls,num l.1/\num l.2):
  Calls Tryz.prog 10 #[.pointer (some ⟨b,0,none⟩), .agg #[.slice x n c, .slice lx ln lc]] w (mM u.heap.size b (L++ntL vs ls) w):=by
 have hbase:=hu.size;have hEw:=hE.later hu;have hbl:b<w.heap.size:=(zG hP.box);go_enter Tryz.func10,Tryz.ntmps10;go_upto_region 1 with fail
 obtain⟨w0,hw0⟩:∃w0,w0=w.alloc (ntO x n c lx ln lc):=⟨_,rfl⟩;have hB0:Below w.heap.size w w0:=by rw[hw0];exact bl1 w _
 have hq0:w0.heap[w.heap.size]?=some (ntO x n c lx ln lc):=by rw[hw0];exact aB _ rfl
 rw[<-hw0];clear hw0;have hP0:=hP.later hB0;have hE0:=hEw.later hB0;have c8:=aO hq0 0 rfl;have hll:Hid (vs.length=n):=hv.len;have hT:jP u.heap.size b w w0:=jP.of hB0 hbase;have hu0:Below u.heap.size u w0:=hu.trans hT.below;go_wp2;clear c8;go_loopw [11] (fun i wr=>∃k:Nat,i= .int .i64 k/\k<=n/\(∃v,BO wr u.heap.size b v (L++(vs.take k).flatMap qP))/\jP u.heap.size b w0 wr) (fun i _=>n- (intOf i).toNat)
 case atStart=>exact⟨0,rfl,by omega,⟨_,by simpa using hP0⟩,jP.of (zD) hu0.size⟩
 case round=>
  obtain⟨k,rfl,hk,⟨vr,hPr⟩,hTr⟩:=hrel
  have hur:Below u.heap.size u wr:=hu0.trans hTr.below
  by_cases hlt:k<n
  ·have hlt':Hid (k<n):=hlt;have hkl:k<vs.length:=by rw[hll.out];exact hlt
   obtain⟨bb,oo,hx,d0,d1,d2⟩:=(hv.later hur).cells k hlt;have hst:Hid ((vs.take (k+1)).flatMap qP=(vs.take k).flatMap qP++qP (vnAt vs k)):=iX qP UM hkl;have hvp:=(hv.vps k hlt).2.2.2;have hvn:vnN (vnAt vs k):=hvs _ (bS UM hkl);have hlen:(L++(vs.take k).flatMap qP).length<=50000:=by
    have h1:=fR qP (m:=100) (vs.take k) fun z hz=>by
     obtain⟨i,hi,rfl⟩:=List.getElem_of_mem (List.mem_of_mem_take hz);have h2:=(hv.vps i (by rw[<-hll.out];exact hi)).2.2.2;unfold vnAt at h2;rw[zF,List.getElem?_eq_getElem hi]at h2;exact wZ h2 (hvs _ (List.getElem_mem hi))
    rw[List.length_take]at h1;rw[List.length_append];omega
   rw[hx];generalize vnAt vs k=e at*;go_wp2_with fail;have hB1:Below wr.heap.size wr (wr.alloc (D8 e)):=bl1 _ _;refine(TX u b vr _ e (wr.alloc (D8 e)) (hur.trans (hB1.mono hur.size)) (hPr.later hB1) hE hlen hvp hvn).mono ?_;rintro _ w3 ⟨rfl,⟨v3,hP3⟩,hT3⟩;go_wp2;go_roundw
   case rel=>exact⟨k+1,by go_num,hlt'.out,⟨v3,by rw[hst.out,<-List.append_assoc];exact hP3⟩,hTr.trans ((jP.of hB1 hur.size).trans hT3)⟩
   case measure=>simp[intOf];have:=hlt'.out;omega
  ·obtain rfl:k=n:=by omega
   have e:vs.take k=vs:=by rw[<-hll.out,List.take_length]
   rw[e]at hPr;clear e;obtain⟨w1,hw1⟩:∃w1,w1=wr:=⟨_,rfl⟩;rw[<-hw1]at hPr hTr hur⊢;clear hw1;obtain⟨D,hD⟩:∃D,Hid (D=L++vs.flatMap qP):=⟨_,rfl⟩;have hDl:D.length<=20000:=by
    have h1:=fR qP (m:=100) vs fun z hz=>by
     obtain⟨i,hi,rfl⟩:=List.getElem_of_mem hz;have h2:=(hv.vps i (by rw[<-hll.out];exact hi)).2.2.2;unfold vnAt at h2;rw[zF,List.getElem?_eq_getElem hi]at h2;exact wZ h2 (hvs _ (List.getElem_mem hi))
    rw[hll.out]at h1;rw[hD.out,List.length_append];omega
   rw[<-hD.out]at hPr;have hP1:=hPr;have hT1:=hTr;have hu1:=hur;have c9:w1.cell? ⟨w.heap.size,1,none⟩=some (.slice lx ln lc):=(aD (hT1.box _ _ _ (by omega) (by decide) hq0)).1 1;clear hPr hTr hur hlt hk hll;have hll:Hid (ls.length=ln):=hl.len;go_wp2;clear c9;go_loopw [22] (fun i wr=>∃k:Nat,i= .int .i64 k/\k<=ln/\(∃v,BO wr u.heap.size b v (D++(ls.take k).map O8))/\jP u.heap.size b w1 wr) (fun i _=>ln- (intOf i).toNat)
   case atStart=>exact⟨0,rfl,by omega,⟨_,by simpa using hP1⟩,jP.of (zD) hu1.size⟩
   case round=>
    obtain⟨k,rfl,hk,⟨vr,hPr⟩,hTr⟩:=hrel
    have hur:Below u.heap.size u wr:=hu1.trans hTr.below
    by_cases hlt:k<ln
    ·have hlt':Hid (k<ln):=hlt;have hkl:k<ls.length:=by rw[hll.out];exact hlt
     obtain⟨bb,oo,hx,d0,d1⟩:=(hl.later hur).cells k hlt;have hst:Hid ((ls.take (k+1)).map O8=(ls.take k).map O8++[O8 (pQ ls k)]):=eP O8 (0,0) hkl;replace d0:wr.cell? ⟨bb,oo+k*2,none⟩=some (.int .i64 (pQ ls k).1):=d0;replace d1:wr.cell? ⟨bb,oo+k*2+1,none⟩=some (.int .i64 (pQ ls k).2):=d1;have hlk:=hls (pQ ls k) (bS (0,0) hkl);have hlen:(D++(ls.take k).map O8).length<=100000:=by rw[List.length_append,List.length_map,List.length_take];omega
     rw[hx];generalize pQ ls k=e at*;go_upto_region 9 with fail
     obtain⟨w0,hw0⟩:∃w0,w0=wr.alloc (aDt e):=⟨_,rfl⟩;have hB1:Below wr.heap.size wr w0:=by rw[hw0];exact bl1 wr _
     have hq1:w0.heap[wr.heap.size]?=some (aDt e):=by rw[hw0];exact aB _ rfl
     rw[<-hw0];clear hw0;have hE1:=(hE.later hur).later hB1;have s0:=Ws.here (aO hq1 0 rfl);have s1:=Ws.here (aO hq1 1 rfl);refine aR [0,1,2,3,6] [4,7] [5,8,9] [10] (by kernel_rfl) (by kernel_rfl) (fun d _ _ _ _ h=>by cases d<;>exact h) ?_;simp only[zK,zM,zI,zJ];repeat(go_big_quiet_step (fail))
     refine wpQuiet_nil ?_;repeat(go_big_quiet_step (fail))
     refine wpQuiet_nil ?_;have hBd:Below w0.heap.size w0 w0.drew:=(zD).drew;refine aJ fun K hK=>?_;go_wp2_with fail;refine(bX e.1 _ (hE1.later hBd) hlk.1.1 hlk.1.2).mono ?_;rintro _ y0 ⟨rfl,hb⟩;have hC0:Below w0.heap.size w0 y0:=hBd.trans (hb.mono hBd.size);go_wp2_with fail;refine aC (hK.out _ _ hC0 ?_);clear hK K hb hBd;refine aJ fun K hK=>?_;go_wp2_with fail;refine(bX e.2 _ (hE1.later hC0) hlk.2.1 hlk.2.2).mono ?_;rintro _ y1 ⟨rfl,hb⟩;have hC1:Below w0.heap.size w0 y1:=hC0.trans (hb.mono hC0.size);go_wp2_with fail;refine aC (hK.out _ _ hC1 ?_);clear hK K hb hC0;refine aJ fun K hK=>?_;go_wp2_with fail;refine aC (hK.out _ _ (hC1.trans ((bl1 _ _).mono hC1.size)) ?_);clear hK K;refine bR ?_;go_wp2_with fail;clear s0 s1;refine(iK (ws:=[⟨#[108,105,110,107]⟩,aQ e.1,aQ e.2]) (hPr.later hB1) (hC1.trans ((bl1 _ _).mono hC1.size)) (aB _ rfl) (iL (by decide) hlk.1.ok hlk.2.ok) rfl (by omega) (Nat.le_trans hur.size hB1.size)).mono ?_;rintro _ w3 ⟨rfl,⟨v3,hP3⟩,hT3⟩;go_wp2;go_roundw
     case rel=>exact⟨k+1,by go_num,hlt'.out,⟨v3,by rw[hst.out,<-List.append_assoc];exact hP3⟩,hTr.trans ((jP.of hB1 hur.size).trans hT3)⟩
     case measure=>simp[intOf];have:=hlt'.out;omega
    ·obtain rfl:k=ln:=by omega
     have e:ls.take k=ls:=by rw[<-hll.out,List.take_length]
     rw[e]at hPr;clear e;go_wp2;refine bodyPost_end (results_none Tryz.results10 _ _ _) rfl ?_;exact⟨rfl,⟨vr,by rw[hD.out]at hPr;simpa[ntL]using hPr⟩,(hT.trans hT1).trans hTr⟩
end Go.Proofs.YtkgeoeglidnnnaaGreatDoor
