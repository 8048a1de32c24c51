/- A part of the proof. -/
import Derived.Test.YtjphnaccgfjnjaaGreatDoorMK07
set_option maxRecDepth 100000
set_option maxHeartbeats 20000000
namespace Go.Proofs.YtjphnaccgfjnjaaGreatDoor
variable {w w' W W1 V w0 w1 w2 W' : World} {ad : Addr} {n i j base g cap c o k base' c' b rn sn rc sc : Nat} {es ns : List Int} {x x' rx sx : Option Addr} {fs gs a : List Fc} {f : Nat → Bool} {v u vR vS : Value} {ss ts : List Sb} {cur cs : Array Value} {t : TypeId} {t' vid r E E' m : Int}
open Go.RowKit Go.Shelf
theorem IS.flat_cells(h:IS w (some ad) n es):∀j u,(flatI es)[j]?=some u->w.cell? (ad.add j)=some u:=by
 intro j u hj;have hj2:j<es.length:=by
  by_cases e:j<es.length
  ·exact e
  ·rw[List.getElem?_eq_none (by rw[vC];omega)]at hj;cases hj
 rw[HR hj2]at hj;obtain⟨b,o,hx,d⟩:=h.cells j (by rw[<-h.len];exact hj2);simp only[Option.some.injEq]at hx;subst hx;rw[jN,d];exact hj
theorem IS.rw(h:IS w x n es):Rw w x n 1 (flatI es):=
 ⟨by rw[vC,h.len];omega,fun h0 e=>(by obtain⟨b,o,hx, -⟩:=h.cells 0 h0;rw[e]at hx;cases hx),vD es,fun ad hx=>by subst hx;exact h.flat_cells⟩
theorem KE(x:Option Addr)(n c:Nat)(es:List Int)(w:World)(hl:IS w x n es)(hn:n<=1048576):
  Calls Tryz.prog 197 #[.slice x n c] w fun e w'=>∃v,e= .returned v/\fV w' w.heap.size v es/\Below w.heap.size w w':=by
 obtain rfl:=hl.len;exact nX.2.2.2.2.2.1 _ _ aBb x _ c _ w hl.rw hn
def withA(f:Fc)(x:Option Addr)(n c:Nat)(ns:List Int):Fc:=⟨f.id,x,n,c,ns⟩
theorem tC{f:Fc}(hi:i<fs.length):fcAt (fs.set i f) j=if i=j then f else fcAt fs j:=by
 unfold fcAt;rw[zF,zF,List.getElem?_set];by_cases h:i=j
 ·subst h;rw[if_pos rfl,if_pos rfl,if_pos hi];rfl
 ·rw[if_neg h,if_neg h]
theorem N9(fs:List Fc)(i:Nat)(x:Option Addr)(n c:Nat)(ns:List Int)(hi:i<fs.length):(flatF fs).set (i*2+1) (.slice x n c)=flatF (fs.set i (withA (fcAt fs i) x n c ns)):=by
 refine List.ext_getElem? fun j=>?_;by_cases hj:j<fs.length*2
 ·have e:j=(j/2)*2+j%2:=by omega
  have hq:j/2<fs.length:=by omega
  rw[e,sV _ _ _ (by rw[List.length_set];exact hq) (by omega),tC hi,List.getElem?_set];by_cases h1:i=j/2
  ·rw[if_pos h1];by_cases h2:j%2=1
   ·rw[if_pos (by omega),if_pos (by rw[gP];omega),h2];rfl
   ·rw[if_neg (by omega),sV _ _ _ hq (by omega),h1];have h3:j%2<1:=by omega
    generalize j%2=r at h3;rcases r with _|r
    all_goals first|rfl|omega
  ·rw[if_neg h1,if_neg (by omega),sV _ _ _ hq (by omega)]
 ·rw[List.getElem?_eq_none (by rw[List.length_set,gP];omega),List.getElem?_eq_none (by rw[gP,List.length_set];omega)]
theorem eB.set(h:eB w base (.slice (some ⟨g,0,none⟩) n cap) fs)(i:Nat)(hi:i<fs.length)(x:Option Addr)(m c:Nat)(ns:List Int):
  eB (w.setCell ⟨g,i*2+1,none⟩ (.slice x m c)) base (.slice (some ⟨g,0,none⟩) n cap) (fs.set i (withA (fcAt fs i) x m c ns)):=by
 rcases h.2 with ⟨hv, -⟩|⟨g',cap',cur,hv,h1,h2,h3,h4,h5,h6⟩
 ·simp at hv
 ·simp only[Value.slice.injEq,Option.some.injEq,Addr.mk.injEq]at hv;obtain⟨⟨rfl, -⟩,rfl,rfl⟩:=hv;refine⟨gP _, .inr ⟨g,cap,cur.setIfInBounds (i*2+1) (.slice x m c),by rw[List.length_set],h1,heap_setCell_same w g _ _ _ _ h2,by rw[List.length_set];exact h3,h4,by simpa using h5,?_⟩⟩;rw[List.length_set,Array.toList_setIfInBounds,List.take_set,h6,N9 fs i x m c ns hi]
theorem eB.frozen(h:eB w base (.slice (some ⟨g,0,none⟩) n cap) fs)(i:Nat):w.frozen? ⟨g,i,none⟩=false:=mG h i
theorem eB.block(h:eB w base (.slice (some ⟨g,0,none⟩) n cap) fs):base<=g/\∃cur,w.heap[g]?=some (.cells cur 133):=pI h
theorem fV.is(h:fV w base (.slice x n c) es):IS w x n es/\es.length=n/\n<=c/\c<=9223372036854775807:=by
 obtain⟨x',c',hv,h1,h2, -,h4⟩:=h.mem;simp only[Value.slice.injEq]at hv;obtain⟨rfl,rfl,rfl⟩:=hv;exact⟨h4,rfl,h1,h2⟩
theorem IS.set(h:IS w x n ns)(hx:∀q,x=some q->0<n->q.block≠g):IS (w.setCell ⟨g,o,none⟩ v) x n ns where
 len:=h.len
 cells:=fun i hi=>by
  obtain⟨b,of,he,c0⟩:=h.cells i hi;exact⟨b,of,he,(aY (hx _ he (by omega))).trans c0⟩
structure mM(w:World)(base:Nat)(v:Value)(fs:List Fc)(k:Nat):Prop where
 row:eB w base v fs
 own:∀i,i<k->fV w base (.slice (fcAt fs i).x (fcAt fs i).n (fcAt fs i).c) (fcAt fs i).ns
 rest:∀i,k<=i->i<fs.length->IS w (fcAt fs i).x (fcAt fs i).n (fcAt fs i).ns/\(fcAt fs i).n<=(fcAt fs i).c/\(fcAt fs i).n<=64/\(∀q,(fcAt fs i).x=some q->0<(fcAt fs i).n->q.block<base)
def LW(f g:Fc):Prop:=f.id=g.id/\f.n=g.n/\f.ns=g.ns
def eC(fs gs:List Fc):Prop:=fs.length=gs.length/\∀i,i<fs.length->LW (fcAt fs i) (fcAt gs i)
theorem LW.refl(f:Fc):LW f f:=⟨rfl,rfl,rfl⟩
theorem eC.refl(fs:List Fc):eC fs fs:=⟨rfl,fun _ _=>LW.refl _⟩
theorem mM.later(h:mM w base v fs k)(hb:Below w.heap.size w w'):mM w' base v fs k:=
 ⟨h.row.later hb,fun i hi=>(h.own i hi).later hb,fun i hi hi2=>by
  obtain⟨g1,g2⟩:=h.rest i hi hi2;exact⟨g1.later hb,g2⟩⟩
theorem mM.low(h:mM w base v fs fs.length)(hb:base'<=base):mM w base' v fs fs.length:=
 ⟨h.row.low hb,fun i hi=>(h.own i hi).low hb,fun i hi hi2=>by omega⟩
theorem mM.kept(h:mM w base v fs fs.length)(hg:w.grownBy w' (some g))(hr:∀k,v.ownBlock=some k->k≠g)(ho:∀i,i<fs.length->∀k,(Value.slice (fcAt fs i).x (fcAt fs i).n (fcAt fs i).c).ownBlock=some k->k≠g):mM w' base v fs fs.length:=
 ⟨h.row.kept hg hr,fun i hi=>(h.own i hi).kept hg (ho i hi),fun i hi hi2=>by omega⟩
theorem mM.start(hk:sD w x n fs)(hm:∀i,i<n->(fcAt fs i).n<=64)(hb:Below w.heap.size w w')(h:eB w' base v fs)(hw2:w.heap.size<=base):mM w' base v fs 0 where
 row:=h
 own:=fun i hi=>by omega
 rest:=fun i _ hi=>by
  have hin:i<n:=by rw[<-hk.len];exact hi
  obtain⟨g1,g2,g3⟩:=hk.addrs i hin;refine⟨g3.later hb,g1,hm i hin,fun q hq h0=>?_⟩;obtain⟨b,o,hx,c0⟩:=g3.cells 0 h0;rw[hq]at hx
  cases hx;exact Nat.lt_of_lt_of_le (block_lt_of_cell c0) hw2
theorem mM.step(h:mM W base (.slice (some ⟨g,0,none⟩) n cap) fs k)(hk:k<fs.length)(hb:Below W.heap.size W W1)(ho:fV W1 W.heap.size (.slice x' (fcAt fs k).ns.length c') (fcAt fs k).ns)(hwb:base<=W.heap.size):
  mM (W1.setCell ⟨g,k*2+1,none⟩ (.slice x' (fcAt fs k).ns.length c')) base (.slice (some ⟨g,0,none⟩) n cap) (fs.set k (withA (fcAt fs k) x' (fcAt fs k).ns.length c' (fcAt fs k).ns)) (k+1):=by
 have hr:=h.row.later hb;obtain⟨hbg,cur,hg⟩:=hr.block;have hall:∀i,i<k+1->fV W1 base (.slice (fcAt (fs.set k (withA (fcAt fs k) x' (fcAt fs k).ns.length c' (fcAt fs k).ns)) i).x (fcAt (fs.set k (withA (fcAt fs k) x' (fcAt fs k).ns.length c' (fcAt fs k).ns)) i).n (fcAt (fs.set k (withA (fcAt fs k) x' (fcAt fs k).ns.length c' (fcAt fs k).ns)) i).c) (fcAt (fs.set k (withA (fcAt fs k) x' (fcAt fs k).ns.length c' (fcAt fs k).ns)) i).ns:=fun i hi=>by
  rw[tC hk];by_cases e:k=i
  ·rw[if_pos e];exact ho.low hwb
  ·rw[if_neg e];exact(h.own i (by omega)).later hb
 refine⟨hr.set k hk x' _ c' _,fun i hi=>(hall i hi).kept (aI _ _ _ _) (fun q hq e=>by subst e;exact(hall i hi).ne hg (by decide) hq),fun i hi hi2=>?_⟩;rw[List.length_set]at hi2;rw[tC hk,if_neg (by omega)];obtain⟨g1,g2,g3,g4⟩:=h.rest i (by omega) hi2;exact⟨(g1.later hb).set (fun q hq h0=>by have:=g4 q hq h0;omega),g2,g3,g4⟩
theorem eC.set(h:eC fs gs)(hk:k<gs.length)(hn:(fcAt gs k).ns.length=(fcAt gs k).n):eC fs (gs.set k (withA (fcAt gs k) x (fcAt gs k).ns.length c (fcAt gs k).ns)):=by
 refine⟨by rw[List.length_set];exact h.1,fun i hi=>?_⟩;have hs:=h.2 i hi;rw[tC hk];by_cases e:k=i
 ·subst e;rw[if_pos rfl];obtain⟨a1,a2,a3⟩:=hs;exact⟨a1,a2.trans hn.symm,a3⟩
 ·rw[if_neg e];exact hs
theorem AJ(x:Option Addr)(n c:Nat)(fs:List Fc)(w:World)(hp:sD w x n fs)(hn:n<=64)(hm:∀i,i<n->(fcAt fs i).n<=64):
  Calls Tryz.prog 141 #[.slice x n c] w fun e w'=>∃v gs,e= .returned v/\eC fs gs/\mM w' w.heap.size v gs gs.length/\Below w.heap.size w w':=by
 have hfl:Hid (fs.length=n):=hp.len;go_enter Tryz.func141,Tryz.ntmps141;go_wp2_with fail;refine(J4 x n c fs w hp (by omega)).mono ?_;rintro e w1 ⟨v,rfl,hO,hb1⟩;have hk0:mM w1 w.heap.size v fs 0:=mM.start hp hm hb1 hO (zE);obtain⟨xv,cv,rfl,hv1,hv2,hv3,hv4⟩:=hO.mem;go_wp2;go_loopw [9] (fun i wr=>∃(q:Nat) (gs:List Fc),q<=fs.length/\i= .int .i64 q/\eC fs gs/\mM wr w.heap.size (.slice xv fs.length cv) gs q/\Below w.heap.size w wr) (fun i _=>fs.length- (intOf i).toNat)
 case atStart=>exact⟨0,fs,by omega,rfl,eC.refl _,hk0,hb1⟩
 case round=>
  obtain⟨q,gs,hq,rfl,hs,hQ,hBr⟩:=hrel
  by_cases hlt:q<fs.length
  ·have hlq:q<gs.length:=by rw[<-hs.1];exact hlt
   have hlt':Hid (q<fs.length):=hlt;obtain⟨x2,c2,he2, -, -, -,hm2⟩:=hQ.row.mem;simp only[Value.slice.injEq]at he2;obtain⟨rfl, -,rfl⟩:=he2;obtain⟨b2,o2,he3, -,c1⟩:=hm2 q hlq;rcases hQ.row.2 with ⟨hv, -⟩|⟨g,cap,cur,hv,hg1,hg2, -⟩
   ·rw[he3]at hv;simp at hv
   simp only[Value.slice.injEq]at hv;obtain⟨hx3, -,rfl⟩:=hv;rw[hx3]at he3;simp only[Option.some.injEq,Addr.mk.injEq]at he3;obtain⟨rfl,rfl, -⟩:=he3;subst hx3;obtain⟨hIS,hnc,hn64, -⟩:=hQ.rest q (zE) hlq;have hbs:Hid (w.heap.size<=wr.heap.size):=hBr.size;have c1':wr.cell? ⟨g,q*2+1,none⟩=some (.slice (fcAt gs q).x (fcAt gs q).n (fcAt gs q).c):=by simpa using c1
   clear c1;go_wp2_with fail;refine(KE (fcAt gs q).x (fcAt gs q).n (fcAt gs q).c (fcAt gs q).ns wr hIS (by omega)).mono ?_;rintro e w2 ⟨v1,rfl,hO1,hb2⟩;obtain⟨x1,c1,rfl, -⟩:=hO1.mem;have d1:=aF hb2 c1';have df:w2.frozen? ⟨g,q*2+1,none⟩=false:=(hQ.row.later hb2).frozen _;have hst:=hQ.step (x':=x1) (c':=c1) hlq hb2 hO1 hbs.out;have hB3:=(hBr.trans (hb2.mono hBr.size)).setCell (p:=⟨g,q*2+1,none⟩) hg1 (.slice x1 (fcAt gs q).ns.length c1);have hs':=hs.set (x:=x1) (c:=c1) hlq hIS.len;clear c1' hO1;go_wp2;go_roundw
   case rel=>exact⟨q+1,_,hlt'.out,by go_num,hs',hst,hB3⟩
   case measure=>simp[intOf];have:=hlt'.out;omega
  ·obtain rfl:q=fs.length:=by omega
   go_wp2;go_ret;exact⟨_,gs,rfl,hs,by rw[<-hs.1];exact hQ,hBr⟩
def cX(s:Sb)(x:Option Addr)(n c:Nat)(fs:List Fc):Sb:=⟨s.id,s.a,s.l,x,n,c,fs⟩
theorem oP{f:Sb}(hi:i<ss.length):sbAt (ss.set i f) j=if i=j then f else sbAt ss j:=by
 unfold sbAt;rw[zF,zF,List.getElem?_set];by_cases h:i=j
 ·subst h;rw[if_pos rfl,if_pos rfl,if_pos hi];rfl
 ·rw[if_neg h,if_neg h]
theorem DD(ss:List Sb)(i:Nat)(x:Option Addr)(n c:Nat)(fs:List Fc)(hi:i<ss.length):(flatS ss).set (i*4+3) (.slice x n c)=flatS (ss.set i (cX (sbAt ss i) x n c fs)):=by
 refine List.ext_getElem? fun j=>?_;by_cases hj:j<ss.length*4
 ·have e:j=(j/4)*4+j%4:=by omega
  have hq:j/4<ss.length:=by omega
  rw[e,oK _ _ _ (by rw[List.length_set];exact hq) (by omega),oP hi,List.getElem?_set];by_cases h1:i=j/4
  ·rw[if_pos h1];by_cases h2:j%4=3
   ·rw[if_pos (by omega),if_pos (by rw[fH];omega),h2];rfl
   ·rw[if_neg (by omega),oK _ _ _ hq (by omega),h1];have h3:j%4<3:=by omega
    generalize j%4=r at h3;rcases r with _|_|_|r
    all_goals first|rfl|omega
  ·rw[if_neg h1,if_neg (by omega),oK _ _ _ hq (by omega)]
 ·rw[List.getElem?_eq_none (by rw[List.length_set,fH];omega),List.getElem?_eq_none (by rw[fH,List.length_set];omega)]
theorem cA.set(h:cA w base (.slice (some ⟨g,0,none⟩) n cap) ss)(i:Nat)(hi:i<ss.length)(x:Option Addr)(m c:Nat)(fs:List Fc):
  cA (w.setCell ⟨g,i*4+3,none⟩ (.slice x m c)) base (.slice (some ⟨g,0,none⟩) n cap) (ss.set i (cX (sbAt ss i) x m c fs)):=by
 rcases h.2 with ⟨hv, -⟩|⟨g',cap',cur,hv,h1,h2,h3,h4,h5,h6⟩
 ·simp at hv
 ·simp only[Value.slice.injEq,Option.some.injEq,Addr.mk.injEq]at hv;obtain⟨⟨rfl, -⟩,rfl,rfl⟩:=hv;refine⟨fH _, .inr ⟨g,cap,cur.setIfInBounds (i*4+3) (.slice x m c),by rw[List.length_set],h1,heap_setCell_same w g _ _ _ _ h2,by rw[List.length_set];exact h3,h4,by simpa using h5,?_⟩⟩;rw[List.length_set,Array.toList_setIfInBounds,List.take_set,h6,DD ss i x m c fs hi]
theorem cA.frozen(h:cA w base (.slice (some ⟨g,0,none⟩) n cap) ss)(i:Nat):w.frozen? ⟨g,i,none⟩=false:=mG h i
theorem cA.block(h:cA w base (.slice (some ⟨g,0,none⟩) n cap) ss):base<=g/\∃cur,w.heap[g]?=some (.cells cur 130):=pI h
structure iR(w:World)(base:Nat)(v:Value)(ss:List Sb)(k:Nat):Prop where
 row:cA w base v ss
 own:∀i,i<k->mM w base (.slice (sbAt ss i).x (sbAt ss i).n (sbAt ss i).c) (sbAt ss i).fs (sbAt ss i).fs.length
 apart:∀i j,i<k->j<k->i≠j->∀b,(Value.slice (sbAt ss i).x (sbAt ss i).n (sbAt ss i).c).ownBlock=some b->(Value.slice (sbAt ss j).x (sbAt ss j).n (sbAt ss j).c).ownBlock≠some b
def LY(s t:Sb):Prop:=s.id=t.id/\s.a=t.a/\s.l=t.l/\s.n=t.n/\eC s.fs t.fs
def bQ(ss ts:List Sb):Prop:=ss.length=ts.length/\∀i,i<ss.length->LY (sbAt ss i) (sbAt ts i)
theorem LY.refl(s:Sb):LY s s:=⟨rfl,rfl,rfl,rfl,eC.refl _⟩
theorem bQ.refl(ss:List Sb):bQ ss ss:=⟨rfl,fun _ _=>LY.refl _⟩
theorem iR.later(h:iR w base v ss k)(hb:Below w.heap.size w w'):iR w' base v ss k:=
 ⟨h.row.later hb,fun i hi=>(h.own i hi).later hb,h.apart⟩
theorem iR.low(h:iR w base v ss k)(hb:base'<=base):iR w base' v ss k:=
 ⟨h.row.low hb,fun i hi=>(h.own i hi).low hb,h.apart⟩
theorem mM.kept_of(h:mM w base v fs fs.length)(hg:w.grownBy w' (some g))(hb:w.heap[g]?=some (.cells cur t))(h1:t≠133)(h2:t≠3):mM w' base v fs fs.length:=
 h.kept hg (fun _ hk e=>by subst e;exact h.row.ne hb h1 hk) (fun i hi _ hk e=>by subst e;exact(h.own i hi).ne hb h2 hk)
theorem iR.step(h:iR W base (.slice (some ⟨g,0,none⟩) n cap) ss k)(hk:k<ss.length)(hb:Below W.heap.size W W1)(ho:mM W1 W.heap.size (.slice x' gs.length c') gs gs.length)(hwb:base<=W.heap.size):
  iR (W1.setCell ⟨g,k*4+3,none⟩ (.slice x' gs.length c')) base (.slice (some ⟨g,0,none⟩) n cap) (ss.set k (cX (sbAt ss k) x' gs.length c' gs)) (k+1):=by
 have hr:=h.row.later hb;obtain⟨hbg,cur,hg⟩:=hr.block;refine⟨hr.set k hk x' _ c' _,fun i hi=>?_,fun i j hi hj hij b hbi hbj=>?_⟩
 ·rw[oP hk];by_cases e:k=i
  ·rw[if_pos e];exact(ho.low hwb).kept_of (aI _ _ _ _) hg (by decide) (by decide)
  ·rw[if_neg e];exact((h.own i (by omega)).later hb).kept_of (aI _ _ _ _) hg (by decide) (by decide)
 ·rw[oP hk]at hbi hbj;by_cases e:k=i
  ·rw[if_pos e]at hbi;rw[if_neg (by omega)]at hbj;have h1:=ho.row.lt b hbi;have h2:=(h.own j (by omega)).row.lt b hbj;omega
  ·rw[if_neg e]at hbi;by_cases e2:k=j
   ·rw[if_pos e2]at hbj;have h1:=ho.row.lt b hbj;have h2:=(h.own i (by omega)).row.lt b hbi;omega
   ·rw[if_neg e2]at hbj;exact h.apart i j (by omega) (by omega) hij b hbi hbj
theorem mM.fcs(h:mM w base (.slice x n c) fs fs.length):sD w x n fs/\fs.length=n/\n<=c/\c<=9223372036854775807:=by
 obtain⟨x',c',hv,h1,h2, -,h4⟩:=h.row.mem;simp only[Value.slice.injEq]at hv;obtain⟨rfl,rfl,rfl⟩:=hv;refine⟨⟨rfl,h4,fun i hi=>?_⟩,rfl,h1,h2⟩;obtain⟨g1,g2,g3,g4⟩:=(h.own i hi).is;exact⟨g3,Nat.le_trans g3 g4,g1⟩
theorem iR.subs(h:iR w base v ss ss.length):∃x c,v= .slice x ss.length c/\SS w x ss.length ss/\ss.length<=c/\c<=9223372036854775807:=by
 obtain⟨x,c,hv,h1,h2, -,h4⟩:=h.row.mem;refine⟨x,c,hv,⟨rfl,h4,fun i hi=>?_⟩,h1,h2⟩;obtain⟨g1,g2,g3,g4⟩:=(h.own i hi).fcs;exact⟨g3,Nat.le_trans g3 g4,g1⟩
theorem bM.rs{rs:List Rg}(h:bM w base v rs):∃x c,v= .slice x rs.length c/\RS w x rs.length rs/\rs.length<=c/\c<=9223372036854775807:=by
 obtain⟨x,c,hv,h1,h2, -,h4⟩:=h.mem;exact⟨x,c,hv,⟨rfl,h4⟩,h1,h2⟩
theorem eC.trans{b c:List Fc}(h1:eC a b)(h2:eC b c):eC a c:=
 ⟨h1.1.trans h2.1,fun i hi=>by
  obtain⟨p1,p2,p3⟩:=h1.2 i hi;obtain⟨q1,q2,q3⟩:=h2.2 i (by rw[<-h1.1];exact hi);exact⟨p1.trans q1,p2.trans q2,p3.trans q3⟩⟩
theorem bQ.set(h:bQ ss ts)(hk:k<ts.length)(hg:eC (sbAt ts k).fs gs)(hn:(sbAt ts k).fs.length=(sbAt ts k).n):bQ ss (ts.set k (cX (sbAt ts k) x gs.length c gs)):=by
 refine⟨by rw[List.length_set];exact h.1,fun i hi=>?_⟩;have hs:=h.2 i hi;rw[oP hk];by_cases e:k=i
 ·subst e;rw[if_pos rfl];obtain⟨a1,a2,a3,a4,a5⟩:=hs;exact⟨a1,a2,a3,by rw[a4,<-hn];exact hg.1,a5.trans hg⟩
 ·rw[if_neg e];exact hs
abbrev cY(vid:Int)(vR vS:Value):Obj:= .cells #[.int .i64 vid,vR,vS] 92
theorem E2{t:Int}{v' u':Value}(h:V.heap[b]?=some (cY t v u)):(((V.setCell ⟨b,0,none⟩ (.int .i64 t')).setCell ⟨b,1,none⟩ v').setCell ⟨b,2,none⟩ u').heap[b]?=some (cY t' v' u'):=by
 have h1:=heap_setCell_same V b 0 _ 92 (.int .i64 t') h;have h2:=heap_setCell_same _ b 1 _ 92 v' h1;have h3:=heap_setCell_same _ b 2 _ 92 u' h2;simpa using h3
def YV(vid:Int)(rs:List Rg)(ss:List Sb)(w:World)(e:Ending)(w':World):Prop:=
 ∃vR vS ts,e= .returned (.agg #[.int .i64 vid,vR,vS])/\bM w' w.heap.size vR rs/\bQ ss ts/\iR w' w.heap.size vS ts ts.length/\Below w.heap.size w w'
theorem bM.put{rs:List Rg}(h:bM w base v rs)(hb:b<base):bM (w.setCell ⟨b,o,none⟩ u) base v rs:=
 h.kept (aI _ _ _ _) (fun k hk=>by have:=h.lt k hk;omega)
theorem iR.put(h:iR w base v ss ss.length)(hb:b<base):iR (w.setCell ⟨b,o,none⟩ u) base v ss ss.length:=
 ⟨h.row.kept (aI _ _ _ _) (fun k hk=>by have:=h.row.lt k hk;omega),fun i hi=>(h.own i hi).kept (aI _ _ _ _) (fun k hk=>by have:=(h.own i hi).row.lt k hk;omega) (fun j hj k hk=>by have:=((h.own i hi).own j hj).lt k hk;omega),h.apart⟩
theorem R5{rs:List Rg}(hb:Below (w0.alloc (cY 0 (.slice none 0 0) (.slice none 0 0))).heap.size (w0.alloc (cY 0 (.slice none 0 0) (.slice none 0 0))) w1)(hO:bM w1 (w0.alloc (cY 0 (.slice none 0 0) (.slice none 0 0))).heap.size v rs):Below w0.heap.size w0 w1/\w1.heap[w0.heap.size]?=some (cY 0 (.slice none 0 0) (.slice none 0 0))/\bM w1 w0.heap.size v rs:=
 ⟨(bl1 w0 _).trans (hb.mono (by simp)),aA hb (aB _ rfl),hO.low (by simp)⟩
theorem R6(hb:Below (w0.alloc (cY 0 (.slice none 0 0) (.slice none 0 0))).heap.size (w0.alloc (cY 0 (.slice none 0 0) (.slice none 0 0))) w1)(hO:cA w1 (w0.alloc (cY 0 (.slice none 0 0) (.slice none 0 0))).heap.size v ss):Below w0.heap.size w0 w1/\w1.heap[w0.heap.size]?=some (cY 0 (.slice none 0 0) (.slice none 0 0))/\cA w1 w0.heap.size v ss:=
 ⟨(bl1 w0 _).trans (hb.mono (by simp)),aA hb (aB _ rfl),hO.low (by simp)⟩
theorem R7{rs:List Rg}(hy:w2.heap[b]?=some (cY 0 (.slice none 0 0) (.slice none 0 0)))(hb:w0.heap.size<=b)(hO1:bM w2 w0.heap.size vR rs)(hO2:cA w2 w0.heap.size vS ss)(hB:Below w0.heap.size w0 w2):
  bM (((w2.setCell ⟨b,0,none⟩ (.int .i64 vid)).setCell ⟨b,1,none⟩ vR).setCell ⟨b,2,none⟩ vS) w0.heap.size vR rs/\cA (((w2.setCell ⟨b,0,none⟩ (.int .i64 vid)).setCell ⟨b,1,none⟩ vR).setCell ⟨b,2,none⟩ vS) w0.heap.size vS ss/\(((w2.setCell ⟨b,0,none⟩ (.int .i64 vid)).setCell ⟨b,1,none⟩ vR).setCell ⟨b,2,none⟩ vS).heap[b]?=some (cY vid vR vS)/\Below w0.heap.size w0 (((w2.setCell ⟨b,0,none⟩ (.int .i64 vid)).setCell ⟨b,1,none⟩ vR).setCell ⟨b,2,none⟩ vS):=by
 have n1:∀k,vR.ownBlock=some k->k≠b:=fun k hk e=>by subst e;exact hO1.ne hy (by decide) hk
 have n2:∀k,vS.ownBlock=some k->k≠b:=fun k hk e=>by subst e;exact hO2.ne hy (by decide) hk
 exact⟨((hO1.kept (aI _ _ _ _) n1).kept (aI _ _ _ _) n1).kept (aI _ _ _ _) n1,((hO2.kept (aI _ _ _ _) n2).kept (aI _ _ _ _) n2).kept (aI _ _ _ _) n2,E2 hy,((hB.setCell hb _).setCell hb _).setCell hb _⟩
theorem cZ(vid:Int)(rx:Option Addr)(rn rc:Nat)(rs:List Rg)(sx:Option Addr)(sn sc:Nat)(ss:List Sb)(w:World)(hv:Vp w rx rn rc rs sx sn sc ss)(hrn:rn<=64)(hsn:sn<=64)(hm:∀i,i<sn->(sbAt ss i).n<=64)(hm2:∀i,i<sn->∀j,j<(sbAt ss i).n->(fcAt (sbAt ss i).fs j).n<=64):
  Calls Tryz.prog 80 #[.agg #[.int .i64 vid, .slice rx rn rc, .slice sx sn sc]] w (YV vid rs ss w):=by
 have hsl:Hid (ss.length=sn):=hv.subs.len;go_enter Tryz.func80,Tryz.ntmps80;go_upto_region 1 with fail
 obtain⟨w0,hw0⟩:∃w0,w0=(w.alloc (cY vid (.slice rx rn rc) (.slice sx sn sc))).alloc (cY 0 (.slice none 0 0) (.slice none 0 0)):=⟨_,rfl⟩;rw[<-hw0];have hB0:Below w.heap.size w w0:=by rw[hw0];exact bO w _ _
 have hb0:w0.heap[w.heap.size]?=some (cY vid (.slice rx rn rc) (.slice sx sn sc)):=by rw[hw0];exact aG _ (aB _ rfl)
 have hr0:w0.heap[w.heap.size+1]?=some (cY 0 (.slice none 0 0) (.slice none 0 0)):=by rw[hw0];exact aB _ (by simp)
 clear hw0;have hsz:w.heap.size+1<w0.heap.size:=(zG hr0);obtain⟨kb, -⟩:=aC hb0;have k0:w0.cell? ⟨w.heap.size,0,none⟩=some (.int .i64 vid):=kb 0;have k1:w0.cell? ⟨w.heap.size,1,none⟩=some (.slice rx rn rc):=kb 1;have k2:w0.cell? ⟨w.heap.size,2,none⟩=some (.slice sx sn sc):=kb 2;clear kb;have hv0:=hv.later hB0;have hclR:=fun W h=>J2 rx rn rc rs W h (by omega);have hclS:=fun W h=>J3 sx sn sc ss W h (by omega);go_cut [3] (fun p wc=>∃nb vR vS,p= .pointer (some ⟨nb,0,none⟩)/\w0.heap.size<=nb/\bM wc w0.heap.size vR rs/\cA wc w0.heap.size vS ss/\wc.heap[nb]?=some (cY vid vR vS)/\Below w0.heap.size w0 wc)
 case first=>
  go_region_held3 (fun w'=>w'.cell? ⟨w.heap.size,0,none⟩=some (.int .i64 vid)/\w'.cell? ⟨w.heap.size,1,none⟩=some (.slice rx rn rc)/\w'.cell? ⟨w.heap.size,2,none⟩=some (.slice sx sn sc)) (first|(go_keep;done)|(exact⟨by assumption,by assumption,by assumption⟩)|(exact⟨aF (bl1 _ _) (by assumption),aF (bl1 _ _) (by assumption),aF (bl1 _ _) (by assumption)⟩)|(refine⟨?_,?_,?_⟩<;>(show World.cell? _ _=_;(repeat rw[aY (by omega)]);assumption))) (first|(go_at_call 139;refine(hclR (w0.alloc (cY 0 (.slice none 0 0) (.slice none 0 0))).drew (hv0.ranges.later (bl1 w0 _).drew)).mono ?_;rintro e w1 ⟨v1,rfl,hO1,hb1⟩;obtain⟨x1,c1,rfl, -⟩:=hO1.mem;obtain⟨hbb1,hx,hO1a⟩:=R5 (w0:=w0) ⟨hb1.os,hb1.tape,hb1.output,hb1.size,hb1.block⟩ hO1;have m0:=aF hbb1 k0;have m1:=aF hbb1 k1;have m2:=aF hbb1 k2;have hvs:=hv0.subs.later hbb1)|(go_at_call 139;refine(hclR _ (by first|exact hv0.ranges|exact hv0.ranges.later (zD).drew)).mono ?_;rintro e w1 ⟨v1,rfl,hO1,hb1⟩;obtain⟨x1,c1,rfl, -⟩:=hO1.mem;have hbb1:Below w0.heap.size w0 w1:=⟨hb1.os,hb1.tape,hb1.output,hb1.size,hb1.block⟩;have m0:=aF hbb1 k0;have m1:=aF hbb1 k1;have m2:=aF hbb1 k2;have hvs:=hv0.subs.later hbb1)|(go_at_call 140;refine(hclS (w1.alloc (cY 0 (.slice none 0 0) (.slice none 0 0))) (hvs.later (bl1 w1 _))).mono ?_;rintro e w2 ⟨v2,rfl,hO2,hb2⟩;obtain⟨x2,c2,rfl, -⟩:=hO2.mem;obtain⟨hb12,hy,hO2a⟩:=R6 (w0:=w1) hb2 hO2;have hbb2:=hbb1.trans (hb12.mono hbb1.size);have n0:=aF hb12 m0;have n1:=aF hb12 m1;have n2:=aF hb12 m2;have hO1':=bM.later hO1 hb12;have hz1:=hbb1.size;have hz2:=hb12.size;have q0:w2.cell? ⟨w1.heap.size,0,none⟩=some (.int .i64 0):=(aC hy).1 0;have q1:w2.cell? ⟨w1.heap.size,1,none⟩=some (.slice none 0 0):=(aC hy).1 1;have q2:w2.cell? ⟨w1.heap.size,2,none⟩=some (.slice none 0 0):=(aC hy).1 2;have f0:w2.frozen? ⟨w1.heap.size,0,none⟩=false:=(aC hy).2 0;have f1:w2.frozen? ⟨w1.heap.size,1,none⟩=false:=(aC hy).2 1;have f2:w2.frozen? ⟨w1.heap.size,2,none⟩=false:=(aC hy).2 2)|(go_at_call 140;refine(hclS w1 hvs).mono ?_;rintro e w2 ⟨v2,rfl,hO2,hb2⟩;obtain⟨x2,c2,rfl, -⟩:=hO2.mem;have hb12:Below w1.heap.size w1 w2:=hb2;have hbb2:=hbb1.trans (hb12.mono hbb1.size);have n0:=aF hb12 m0;have n1:=aF hb12 m1;have n2:=aF hb12 m2;have hO1':=bM.later hO1 hb12;have hz1:=hbb1.size;have hz2:=hb12.size;try(have hy:w2.heap[w0.heap.size]?=some (cY 0 (.slice none 0 0) (.slice none 0 0)):=aA hb12 hx;have q0:w2.cell? ⟨w0.heap.size,0,none⟩=some (.int .i64 0):=(aC hy).1 0;have q1:w2.cell? ⟨w0.heap.size,1,none⟩=some (.slice none 0 0):=(aC hy).1 1;have q2:w2.cell? ⟨w0.heap.size,2,none⟩=some (.slice none 0 0):=(aC hy).1 2;have f0:w2.frozen? ⟨w0.heap.size,0,none⟩=false:=(aC hy).2 0;have f1:w2.frozen? ⟨w0.heap.size,1,none⟩=false:=(aC hy).2 1;have f2:w2.frozen? ⟨w0.heap.size,2,none⟩=false:=(aC hy).2 2))|fail)
  all_goals go_wp2
  all_goals go_meet
  case rel=>exact⟨_,_,_,rfl,Nat.le_trans hz1 hz2,bM.later hO1' (bl1 _ _),(hO2.low hz1).later (bl1 _ _),aB _ rfl,Below.alloc hbb2 hbb2.size _⟩
  case rel=>exact⟨_,_,_,rfl,hz1,R7 hy hz1 hO1' (hO2a.low hz1) hbb2⟩
  case rel=>exact⟨_,_,_,rfl,zE,R7 hy (zE) (hO1a.later hb12) (hO2.low hz1) hbb2⟩
 case rest=>
  obtain⟨nb,vR,vS,rfl,hnb,hOR,hOS,hbx,hBc⟩:=hcut
  have hk0:iR wc w0.heap.size vS ss 0:=⟨hOS,fun i hi=>by omega,fun i j hi=>by omega⟩
  obtain⟨xr,cr,rfl, -⟩:=hOR.mem
  obtain⟨xv,cv,rfl, -⟩:=hOS.mem
  have e1:=aP hbx 2 rfl
  go_wp2
  clear e1
  go_loopw [17] (fun i wr=>∃(q:Nat) (ts:List Sb),q<=ss.length/\i= .int .i64 q/\bQ ss ts/\(∀i,q<=i->sbAt ts i=sbAt ss i)/\iR wr w0.heap.size (.slice xv ss.length cv) ts q/\bM wr w0.heap.size (.slice xr rs.length cr) rs/\wr.heap[nb]?=some (cY vid (.slice xr rs.length cr) (.slice xv ss.length cv))/\Below w0.heap.size w0 wr) (fun i _=>ss.length- (intOf i).toNat)
  case atStart=>exact⟨0,ss,by omega,rfl,bQ.refl _,fun _ _=>rfl,hk0,hOR,hbx,hBc⟩
  case round=>
   obtain⟨q,ts,hq,rfl,hs,htl,hQ,hR,hbr,hBr⟩:=hrel
   obtain⟨e0,e1,e2⟩:=bI hbr rfl rfl rfl
   by_cases hlt:q<ss.length
   ·have hlq:q<ts.length:=by rw[<-hs.1];exact hlt
    have hlt':=hlt;have hqs:q<sn:=by rw[<-hsl.out];exact hlt
    obtain⟨x2,c2,he2, -, -, -,hm'⟩:=hQ.row.mem;simp only[Value.slice.injEq]at he2;obtain⟨rfl, -,rfl⟩:=he2;obtain⟨b2,o2,he3, -, -, -,c8⟩:=hm' q hlq;rcases hQ.row.2 with ⟨hv', -⟩|⟨g,cap,cur,hv',hg1,hg2, -⟩
    ·rw[he3]at hv';simp at hv'
    simp only[Value.slice.injEq]at hv';obtain⟨hx3, -,rfl⟩:=hv';rw[hx3]at he3;simp only[Option.some.injEq,Addr.mk.injEq]at he3;obtain⟨rfl,rfl, -⟩:=he3;subst hx3;obtain⟨hnc, -,hF⟩:=(hv0.subs.later hBr).faces q hqs;have hm64:=hm q hqs;have hm264:=hm2 q hqs;rw[<-htl q (zE)]at hnc hF hm64 hm264;have htl':Hid (∀i,q<=i->sbAt ts i=sbAt ss i):=htl;clear htl;have hcl:=fun W h=>AJ (sbAt ts q).x (sbAt ts q).n (sbAt ts q).c (sbAt ts q).fs W h hm64 hm264;go_wp2_with fail;have c8':wr.cell? ⟨g,q*4+3,none⟩=some (.slice (sbAt ts q).x (sbAt ts q).n (sbAt ts q).c):=by simpa using c8
    have hne:nb≠g:=fun e=>by rw[e]at hbr;rw[hbr]at hg2;simp at hg2
    go_region_with (first|(go_at_call 141;refine(hcl _ (by first|exact hF|exact hF.later (zD).drew)).mono ?_;rintro e w1 ⟨v1,gs,rfl,hsg,hO1,hb1⟩;obtain⟨x1,c1,rfl, -⟩:=hO1.row.mem;have hb2:Below wr.heap.size wr w1:=⟨hb1.os,hb1.tape,hb1.output,hb1.size,hb1.block⟩;have d1:=aF hb2 e2;have d8:=aF hb2 c8';have df:w1.frozen? ⟨g,q*4+3,none⟩=false:=(hQ.row.later hb2).frozen _)|fail)
    all_goals have hst:=hQ.step (x':=x1) (c':=c1) (gs:=gs) hlq hb2 hO1 hBr.size
    all_goals have hh:(w1.setCell ⟨g,q*4+3,none⟩ (.slice x1 gs.length c1)).heap[nb]?=some (cY vid (.slice xr rs.length cr) (.slice (some ⟨g,0,none⟩) ss.length cv)):=(zB hne).trans (aA hb2 hbr)
    all_goals have hB3:=(hBr.trans (hb2.mono hBr.size)).setCell (p:=⟨g,q*4+3,none⟩) hg1 (.slice x1 gs.length c1)
    all_goals have hRn:bM (w1.setCell ⟨g,q*4+3,none⟩ (.slice x1 gs.length c1)) w0.heap.size (.slice xr rs.length cr) rs:=(hR.later hb2).kept (aI _ _ _ _) (fun k hk e=>by subst e;exact hR.ne hg2 (by decide) hk)
    all_goals have hss:∀i,q+1<=i->sbAt (ts.set q (cX (sbAt ts q) x1 gs.length c1 gs)) i=sbAt ss i:=fun i hi=>by rw[oP hlq,if_neg (by omega)];exact htl'.out i (by omega)
    all_goals have hsame:=hs.set (x:=x1) (c:=c1) hlq hsg hF.len
    all_goals clear d1 d8 df
    all_goals go_wp2
    all_goals go_roundw
    all_goals first|exact⟨q+1,_,hlt',by go_num,hsame,hss,hst,hRn,hh,hB3⟩|(simp[intOf];omega)
   ·obtain rfl:q=ss.length:=by omega
    have hrr:wr.heap[w.heap.size+1]?=some (cY 0 (.slice none 0 0) (.slice none 0 0)):=(hBr.block _ hsz).trans hr0;obtain⟨r0,r1,r2⟩:=bI hrr rfl rfl rfl;obtain⟨z0,z1,z2⟩:=dQ hrr;go_wp2;refine bodyPost_ret (v:= .agg #[.int .i64 vid, .slice xr rs.length cr, .slice xv ss.length cv]) (by simp[results,Tryz.results80,go_sem,r0,r1,r2]) rfl ?_;have hQ2:iR wr w0.heap.size (.slice xv ss.length cv) ts ts.length:=by rw[<-hs.1];exact hQ
    exact⟨_,_,ts,rfl,(((hR.put hsz).put hsz).put hsz).low hB0.size,hs,(((hQ2.put hsz).put hsz).put hsz).low hB0.size,(((hB0.trans (hBr.mono hB0.size)).setCell (by simp) _).setCell (by simp) _).setCell (by simp) _⟩
def fstAt(n:Nat)(f:Nat->Bool):Int:=match(List.range n).find? f with |some i=>i|none=> -1
theorem OA(hi:i<n)(h:f i=true)(hno:∀j,j<i->f j=false):fstAt n f=i:=by
 unfold fstAt;have:(List.range n).find? f=some i:=by
  rw[List.find?_range_eq_some];exact⟨h,by simpa using hi,fun j hj=>by simp[hno j hj]⟩
 rw[this]
theorem R8(hno:∀j,j<n->f j=false):fstAt n f= -1:=by
 unfold fstAt;have:(List.range n).find? f=none:=by
  rw[List.find?_eq_none];intro j hj;simp[hno j (by simpa using hj)]
 rw[this]
theorem fstAt_cases(n:Nat)(f:Nat->Bool):(∃i:Nat,i<n/\f i=true/\(∀j,j<i->f j=false)/\fstAt n f=i)\/((∀j,j<n->f j=false)/\fstAt n f= -1):=by
 cases h:(List.range n).find? f with
 |none=>
  refine .inr ⟨fun j hj=>?_,by unfold fstAt;rw[h]⟩
  have:=List.find?_eq_none.1 h j (by simpa using hj)
  simpa using this
 |some i=>
  obtain⟨h1,h2,h3⟩:=List.find?_range_eq_some.1 h
  exact .inl ⟨i,by simpa using h2,h1,fun j hj=>by simpa using h3 j hj,by unfold fstAt;rw[h]⟩
theorem tD(h:(∃i:Nat,i<n/\f i=true/\(∀j,j<i->f j=false)/\r=i)\/((∀j,j<n->f j=false)/\r= -1)):r=fstAt n f:=by
 rcases h with ⟨i,hi,hf,hno,rfl⟩|⟨hno,rfl⟩
 ·exact(OA hi hf hno).symm
 ·exact(R8 hno).symm
theorem qM(id:Int)(p:Sb)(b:Nat)(w:World)(h0:w.cell? ⟨b,0,none⟩=some (.int .i64 id)):
  Calls Tryz.prog 214 #[.agg #[.int .i64 p.id, .int .i64 p.a, .int .i64 p.l, .slice p.x p.n p.c], .pointer (some ⟨b,0,none⟩)] w fun e w'=>e= .returned (.bool (p.id==id))/\Below w.heap.size w w':=by
 have k0:∀q,(w.alloc q).cell? ⟨b,0,none⟩=some (.int .i64 id):=fun q=>cell_later (bl1 w q) h0;go_enter Tryz.func214,Tryz.ntmps214;go_wp2;go_ret;exact⟨rfl,bl1 w _⟩
theorem oQ(args:Array Value)(W:World):(callFunc 214 args).run Tryz.prog W= .ok (.enter 214 args) W:=by simp[go_sem]
theorem tE(vid id:Int)(rx:Option Addr)(rn rc:Nat)(sx:Option Addr)(sn sc:Nat)(ss:List Sb)(w:World)(hp:SS w sx sn ss)(hn:sn<=1048576):
  Calls Tryz.prog 166 #[.agg #[.int .i64 vid, .slice rx rn rc, .slice sx sn sc], .int .i64 id] w fun e w'=>e= .returned (.int .i64 (fstAt sn (fun i=>(sbAt ss i).id==id)))/\Below w.heap.size w w':=by
 go_enter Tryz.func166,Tryz.ntmps166;go_wp2_with fail;refine(nC 214 #[.pointer (some ⟨w.heap.size+1,0,none⟩)] sx sn sc ss (fun i=>(sbAt ss i).id==id) _ (hp.later (bO w _ _)) hn (fun i _ W hW=>qM id (sbAt ss i) (w.heap.size+1) W (cell_later hW (by simp))) oQ).mono ?_;rintro e w1 ⟨⟨r,rfl,hr⟩,hb1⟩;have hrv:=tD hr;subst hrv;clear hr;go_wp2;go_ret;exact⟨rfl,(bO w _ _).trans (hb1.mono (by simp;omega))⟩
theorem wP(vid id:Int)(rx:Option Addr)(rn rc:Nat)(sx:Option Addr)(sn sc:Nat)(ss:List Sb)(t:Int)(h:fstAt sn (fun i=>(sbAt ss i).id==id)=t)(w:World)(hp:SS w sx sn ss)(hn:sn<=1048576):
  Calls Tryz.prog 166 #[.agg #[.int .i64 vid, .slice rx rn rc, .slice sx sn sc], .int .i64 id] w fun e w'=>e= .returned (.int .i64 t)/\Below w.heap.size w w':=by
 subst h;exact tE vid id rx rn rc sx sn sc ss w hp hn
theorem AK(id:Int)(p:Fc)(b:Nat)(w:World)(h0:w.cell? ⟨b,0,none⟩=some (.int .i64 id)):
  Calls Tryz.prog 251 #[.agg #[.int .i64 p.id, .slice p.x p.n p.c], .pointer (some ⟨b,0,none⟩)] w fun e w'=>e= .returned (.bool (p.id==id))/\Below w.heap.size w w':=by
 have k0:∀q,(w.alloc q).cell? ⟨b,0,none⟩=some (.int .i64 id):=fun q=>cell_later (bl1 w q) h0;go_enter Tryz.func251,Tryz.ntmps251;go_wp2;go_ret;exact⟨rfl,bl1 w _⟩
theorem xO(args:Array Value)(W:World):(callFunc 251 args).run Tryz.prog W= .ok (.enter 251 args) W:=by simp[go_sem]
theorem qN(s:Sb)(id:Int)(w:World)(hp:sD w s.x s.n s.fs)(hn:s.n<=1048576):
  Calls Tryz.prog 219 #[.agg #[.int .i64 s.id, .int .i64 s.a, .int .i64 s.l, .slice s.x s.n s.c], .int .i64 id] w fun e w'=>e= .returned (.int .i64 (fstAt s.n (fun i=>(fcAt s.fs i).id==id)))/\Below w.heap.size w w':=by
 go_enter Tryz.func219,Tryz.ntmps219;go_wp2_with fail;refine(nE 251 #[.pointer (some ⟨w.heap.size+1,0,none⟩)] s.x s.n s.c s.fs (fun i=>(fcAt s.fs i).id==id) _ (hp.later (bO w _ _)) hn (fun i _ W hW=>AK id (fcAt s.fs i) (w.heap.size+1) W (cell_later hW (by simp))) xO).mono ?_;rintro e w1 ⟨⟨r,rfl,hr⟩,hb1⟩;have hrv:=tD hr;subst hrv;clear hr;go_wp2;go_ret;exact⟨rfl,(bO w _ _).trans (hb1.mono (by simp;omega))⟩
theorem E3(s:Sb)(id:Int)(t:Int)(h:fstAt s.n (fun i=>(fcAt s.fs i).id==id)=t)(w:World)(hp:sD w s.x s.n s.fs)(hn:s.n<=1048576):
  Calls Tryz.prog 219 #[.agg #[.int .i64 s.id, .int .i64 s.a, .int .i64 s.l, .slice s.x s.n s.c], .int .i64 id] w fun e w'=>e= .returned (.int .i64 t)/\Below w.heap.size w w':=by
 subst h;exact qN s id w hp hn
theorem bM.putBox{rs:List Rg}(h:bM w base v rs)(hb:w.heap[b]?=some (.cells cs t))(h1:t≠127):bM (w.setCell ⟨b,o,none⟩ u) base v rs:=
 h.kept (aI _ _ _ _) (fun k hk e=>by subst e;exact h.ne hb h1 hk)
theorem iR.putBox(h:iR w base v ss ss.length)(hb:w.heap[b]?=some (.cells cs t))(h1:t≠130)(h2:t≠133)(h3:t≠3):iR (w.setCell ⟨b,o,none⟩ u) base v ss ss.length:=
 ⟨h.row.kept (aI _ _ _ _) (fun k hk e=>by subst e;exact h.row.ne hb h1 hk),fun i hi=>(h.own i hi).kept_of (aI _ _ _ _) hb h2 h3,h.apart⟩
def XH(e:Rg)(qs rs:List Rg):Prop:=∃i,i<=qs.length/\(∀j,j<i->¬e.a<(aQ qs j).a)/\(i<qs.length->e.a<(aQ qs i).a)/\rs=qs.take i++[e]++qs.drop i
def fW(vid:Int)(rn:Nat)(rs:List Rg)(sn:Nat)(ss:List Sb)(r:Rg):Int:=
 if bD vid rn rs sn ss≠0 then bD vid rn rs sn ss else if IX r=false then 1 else if anyAt rn (LV rs r.a r.l)=true then 6 else if rn=4 then 2 else 0
structure TG(w W:World)(vid:Int)(vR vS:Value)(r:Rg):Prop where
 hb:W.heap[w.heap.size]?=some (cY vid vR vS)
 hp:W.heap[w.heap.size+1]?=some (.cells #[.int .i64 r.a, .int .i64 r.l, .int .i64 r.p] 127)
 hs:W.heap[w.heap.size+2]?=some (cY 0 (.slice none 0 0) (.slice none 0 0))
 below:Below w.heap.size w W
theorem TG.later{r:Rg}(h:TG w W vid vR vS r)(hb:Below W.heap.size W W'):TG w W' vid vR vS r:=
 ⟨aA hb h.hb,aA hb h.hp,aA hb h.hs,h.below.trans (hb.mono h.below.size)⟩
theorem dU{rs:List Rg}(h:bD vid rn rs sn ss=0):rn<=4/\sn<=6/\(∀i,i<sn->(sbAt ss i).n<=8)/\∀i,i<sn->∀j,j<(sbAt ss i).n->(fcAt (sbAt ss i).fs j).n<=4:=by
 unfold bD at h
 cases hm:eL rn sn ss
 ·exact few hm
 ·rw[hm]at h;simp at h
theorem xP(g:Nat)(cap:Array Value)(x:Option Addr)(n c:Nat)(ps:List Sb)(f:Nat->Bool)(w:World)(hp:SS w x n ps)(hn:n<=9223372036854775807)(hF:uS g cap n ps f w)
 (hg:∀args W,(callFunc g args).run Tryz.prog W= .ok (.enter g args) W):
  Calls Tryz.prog 210 #[.slice x n c, .func (.func g) #[] cap] w fun e w'=>(∃r:Int,e= .returned (.int .i64 r)/\((∃i:Nat,i<n/\f i=true/\(∀j,j<i->f j=false)/\r=i)\/((∀j,j<n->f j=false)/\r= -1)))/\Below w.heap.size w w':=(nG.2.2.2.1 g cap x n c _ f w hp.idx (by omega) hF hg).1
theorem xQ(g:Nat)(cap:Array Value)(x:Option Addr)(n c:Nat)(ps:List Rg)(f:Nat->Bool)(w:World)(hp:RS w x n ps)(hn:n<=9223372036854775807)(hF:zS g cap n ps f w)
 (hg:∀args W,(callFunc g args).run Tryz.prog W= .ok (.enter g args) W):
  Calls Tryz.prog 159 #[.slice x n c, .func (.func g) #[] cap] w fun e w'=>(∃r:Int,e= .returned (.int .i64 r)/\((∃i:Nat,i<n/\f i=true/\(∀j,j<i->f j=false)/\r=i)\/((∀j,j<n->f j=false)/\r= -1)))/\Below w.heap.size w w':=(nG.2.2.1 g cap x n c _ f w hp.idx (by omega) hF hg).1
theorem tF(vid id:Int)(rx:Option Addr)(rn rc:Nat)(sx:Option Addr)(sn sc:Nat)(ss:List Sb)(w:World)(hp:SS w sx sn ss)(hn:sn<=9223372036854775807):
  Calls Tryz.prog 166 #[.agg #[.int .i64 vid, .slice rx rn rc, .slice sx sn sc], .int .i64 id] w fun e w'=>e= .returned (.int .i64 (fstAt sn (fun i=>(sbAt ss i).id==id)))/\Below w.heap.size w w':=by
 go_enter Tryz.func166,Tryz.ntmps166;go_wp2_with fail;refine(xP 214 #[.pointer (some ⟨w.heap.size+1,0,none⟩)] sx sn sc ss (fun i=>(sbAt ss i).id==id) _ (hp.later (bO w _ _)) hn (fun i _ W hW=>qM id (sbAt ss i) (w.heap.size+1) W (cell_later hW (by simp))) oQ).mono ?_;rintro e w1 ⟨⟨r,rfl,hr⟩,hb1⟩;have hrv:=tD hr;subst hrv;clear hr;go_wp2;go_ret;exact⟨rfl,(bO w _ _).trans (hb1.mono (by simp;omega))⟩
theorem AL(vid id:Int)(rx:Option Addr)(rn rc:Nat)(sx:Option Addr)(sn sc:Nat)(ss:List Sb)(t:Int)(h:fstAt sn (fun i=>(sbAt ss i).id==id)=t)(w:World)(hp:SS w sx sn ss)(hn:sn<=9223372036854775807):
  Calls Tryz.prog 166 #[.agg #[.int .i64 vid, .slice rx rn rc, .slice sx sn sc], .int .i64 id] w fun e w'=>e= .returned (.int .i64 t)/\Below w.heap.size w w':=by
 subst h;exact tF vid id rx rn rc sx sn sc ss w hp hn
def fX(E:Int)(R:World->Value->Prop)(w:World)(e:Ending)(w':World):Prop:=
 ∃V,e= .returned (.tuple #[V, .int .i64 E])/\Below w.heap.size w w'/\(E≠0->V= .agg #[.int .i64 0, .slice none 0 0, .slice none 0 0])/\(E=0->R w' V)
theorem fX.err{R:World->Value->Prop}(hE:E=E'/\E'≠0)(hb:Below w.heap.size w w'):
  fX E R w (.returned (.tuple #[.agg #[.int .i64 0, .slice none 0 0, .slice none 0 0], .int .i64 E'])) w':=
 ⟨_,by rw[hE.1],hb,fun _=>rfl,fun h=>absurd (hE.1.symm.trans h) hE.2⟩
theorem fX.ok{R:World->Value->Prop}{V:Value}(hE:E=0)(hb:Below w.heap.size w w')(h:R w' V):
  fX E R w (.returned (.tuple #[V, .int .i64 0])) w':=
 ⟨_,by rw[hE],hb,fun h'=>absurd hE h',fun _=>h⟩
def FcB(w:World)(s:Sb):Prop:=s.n<=s.c/\s.n<=9223372036854775807/\sD w s.x s.n s.fs
theorem tG(h:i<ss.length):sbAt ss i∈ss:=by
 unfold sbAt;rw[zF,List.getElem?_eq_getElem h];exact List.getElem_mem h
theorem cA.put(h:cA w base v ss)(hb:b<base):cA (w.setCell ⟨b,o,none⟩ u) base v ss:=
 h.kept (aI _ _ _ _) (fun k hk=>by have:=h.lt k hk;omega)
theorem cA.putBox(h:cA w base v ss)(hb:w.heap[b]?=some (.cells cs t))(h1:t≠130):cA (w.setCell ⟨b,o,none⟩ u) base v ss:=
 h.kept (aI _ _ _ _) (fun k hk e=>by subst e;exact h.ne hb h1 hk)
def xR(w:World)(base:Nat)(ss:List Sb):Prop:=∀s∈ss,mM w base (.slice s.x s.n s.c) s.fs s.fs.length
theorem iR.ofa(h:iR w base v ss ss.length):xR w base ss:=fun s hs=>by
 obtain⟨i,hi,rfl⟩:=List.getElem_of_mem hs;have e:sbAt ss i=ss[i]:=by unfold sbAt;rw[zF,List.getElem?_eq_getElem hi];rfl
 have:=h.own i hi;rw[e]at this;exact this
theorem xR.keptOf(h:xR w base ss)(hg:w.grownBy w' (some g))(hb:w.heap[g]?=some (.cells cur t))(h1:t≠133)(h2:t≠3):xR w' base ss:=fun s hs=>(h s hs).kept_of hg hb h1 h2
theorem xR.put(h:xR w base ss)(hb:b<base):xR (w.setCell ⟨b,o,none⟩ u) base ss:=fun s hs=>
 (h s hs).kept (aI _ _ _ _) (fun k hk=>by have:=(h s hs).row.lt k hk;omega) (fun j hj k hk=>by have:=((h s hs).own j hj).lt k hk;omega)
theorem xR.fcb(h:xR w base ss):∀s∈ss,FcB w s:=fun s hs=>by
 obtain⟨g1,g2,g3,g4⟩:=(h s hs).fcs;exact⟨g3,Nat.le_trans g3 g4,g1⟩
theorem xR.part(h:xR w base ss)(hs:∀s∈ts,s∈ss):xR w base ts:=fun s hm=>h s (hs s hm)
def HS(w:World)(base:Nat)(vid:Int)(v:Value)(rs:List Rg)(ss:List Sb):Prop:=∃vR vS,v= .agg #[.int .i64 vid,vR,vS]/\bM w base vR rs/\cA w base vS ss/\xR w base ss
theorem HS.mk{b1 b2 b3:Nat}{rs:List Rg}(hR:bM w b1 vR rs)(h1:base<=b1)(hS:cA w b2 vS ss)(h2:base<=b2)(hF:xR w b3 ss)(h3:base<=b3):HS w base vid (.agg #[.int .i64 vid,vR,vS]) rs ss:=
 ⟨vR,vS,rfl,hR.low h1,hS.low h2,fun s hs=>(hF s hs).low h3⟩
theorem xR.low(h:xR w base ss)(hb:base'<=base):xR w base' ss:=fun s hs=>(h s hs).low hb
def DE(e:Sb)(qs rs:List Sb):Prop:=∃i,i<=qs.length/\(∀j,j<i->¬e.id<(sbAt qs j).id)/\(i<qs.length->e.id<(sbAt qs i).id)/\rs=qs.take i++[e]++qs.drop i
def oR(vid:Int)(rn:Nat)(rs:List Rg)(sn:Nat)(ss:List Sb)(id c m:Int):Int:=
 if bD vid rn rs sn ss≠0 then bD vid rn rs sn ss else if rJ rn rs id c m=false then 3 else if 0<=fstAt sn (fun i=>(sbAt ss i).id==id)\/anyAt sn (C4 ss c m)=true then 6 else if sn=6 then 2 else 0
def aDa(vid:Int)(rs:List Rg)(ss:List Sb)(id c m:Int)(base:Nat)(w:World)(V:Value):Prop:=∃ts ss',HS w base vid V rs ss'/\bQ ss ts/\DE ⟨id,c,m,none,0,0,[]⟩ ts ss'
structure TU(w W:World)(vid:Int)(rx:Option Addr)(rn rc:Nat)(sx:Option Addr)(sn sc:Nat)(c m:Int):Prop where
 hb:W.heap[w.heap.size]?=some (.cells #[.int .i64 vid, .slice rx rn rc, .slice sx sn sc] 92)
 hp:W.heap[w.heap.size+1]?=some (.cells #[.int .i64 c, .int .i64 m] 26)
 hs:W.heap[w.heap.size+2]?=some (.cells #[.int .i64 0, .slice none 0 0, .slice none 0 0] 92)
 below:Below w.heap.size w W
theorem TU.later{c:Int}(h:TU w W vid rx rn rc sx sn sc c m)(hb:Below W.heap.size W W'):TU w W' vid rx rn rc sx sn sc c m:=
 ⟨aA hb h.hb,aA hb h.hp,aA hb h.hs,h.below.trans (hb.mono h.below.size)⟩
theorem R9(vid:Int)(rx:Option Addr)(rn rc:Nat)(rs:List Rg)(sx:Option Addr)(sn sc:Nat)(ss:List Sb)(id c m:Int)(w:World)(hv:Vp w rx rn rc rs sx sn sc ss)(hrn:rn<=9223372036854775807)(hsn:sn<=9223372036854775807)(hrc:rc<=9223372036854775807):
  Calls Tryz.prog 102 #[.agg #[.int .i64 vid, .slice rx rn rc, .slice sx sn sc], .int .i64 id, .agg #[.int .i64 c, .int .i64 m]] w (fX (oR vid rn rs sn ss id c m) (aDa vid rs ss id c m w.heap.size) w):=by
 have hrl:Hid (rs.length=rn):=hv.ranges.len;have hsl:Hid (ss.length=sn):=hv.subs.len;go_enter Tryz.func102,Tryz.ntmps102;go_upto_region 1 with fail
 obtain⟨w0,hw0⟩:∃w0,w0=((w.alloc (cY vid (.slice rx rn rc) (.slice sx sn sc))).alloc (.cells #[.int .i64 c, .int .i64 m] 26)).alloc (cY 0 (.slice none 0 0) (.slice none 0 0)):=⟨_,rfl⟩;rw[<-hw0];have hT0:TU w w0 vid rx rn rc sx sn sc c m:=by
  rw[hw0];exact⟨aG _ (aG _ (aB _ rfl)),aG _ (aB _ (by simp)),aB _ (by simp),(bO w _ _).alloc (by simp;omega) _⟩
 clear hw0;obtain⟨b0,b1,b2⟩:=bI hT0.hb rfl rfl rfl;obtain⟨p0,p1⟩:=aR hT0.hp rfl rfl;obtain⟨s0,s1,s2⟩:=bI hT0.hs rfl rfl rfl;obtain⟨zs0,zs1,zs2⟩:=dQ hT0.hs;have hck:=checkV_any vid rx rn rc rs sx sn sc ss w0 (hv.later hT0.below) hrn hsn hrc;by_cases hc0:bD vid rn rs sn ss=0
 ·rw[hc0]at hck;obtain⟨f1,f2,f3,f4⟩:=dU hc0;have hE1:Hid (oR vid rn rs sn ss id c m=if rJ rn rs id c m=false then 3 else if 0<=fstAt sn (fun i=>(sbAt ss i).id==id)\/anyAt sn (C4 ss c m)=true then 6 else if sn=6 then 2 else 0):=if_neg (c:=bD vid rn rs sn ss≠0) (by simp[hc0]);clear hc0;go_wp2_with fail;refine(hck).mono ?_;rintro e w1 ⟨rfl,hbw1⟩;have hT1:=hT0.later hbw1;clear b0 b1 b2 p0 p1 s0 zs0 s1 zs1 s2 zs2;obtain⟨b0,b1,b2⟩:=bI hT1.hb rfl rfl rfl;obtain⟨p0,p1⟩:=aR hT1.hp rfl rfl;obtain⟨s0,s1,s2⟩:=bI hT1.hs rfl rfl rfl;obtain⟨zs0,zs1,zs2⟩:=dQ hT1.hs;have hsr:=fun t h=>kU vid id c m rx sx rn rc sn sc rs t h w1 (hv.later hT1.below).ranges (by omega)
  cases hrg:rJ rn rs id c m with
  |false=>
   have hne:oR vid rn rs sn ss id c m=3/\(3:Int)≠0:=⟨hE1.out.trans (if_pos hrg),by decide⟩
   go_wp2_with fail
   refine(hsr _ hrg).mono ?_
   rintro e w2 ⟨rfl,hbw2⟩
   have hT2:=hT1.later hbw2
   clear b0 b1 b2 p0 p1 s0 zs0 s1 zs1 s2 zs2
   obtain⟨b0,b1,b2⟩:=bI hT2.hb rfl rfl rfl
   obtain⟨p0,p1⟩:=aR hT2.hp rfl rfl
   obtain⟨s0,s1,s2⟩:=bI hT2.hs rfl rfl rfl
   obtain⟨zs0,zs1,zs2⟩:=dQ hT2.hs
   go_wp2
   refine bodyPost_ret (v:= .tuple #[.agg #[.int .i64 0, .slice none 0 0, .slice none 0 0], .int .i64 3]) (by simp[results,Tryz.results102,go_sem,s0,s1,s2]) rfl ?_
   exact fX.err hne (((hT2.below.setCell (p:=⟨w.heap.size+2,0,none⟩) (zA) _).setCell (p:=⟨w.heap.size+2,1,none⟩) (zA) _).setCell (p:=⟨w.heap.size+2,2,none⟩) (zA) _)
  |true=>
   have hE2:Hid (oR vid rn rs sn ss id c m=if 0<=fstAt sn (fun i=>(sbAt ss i).id==id)\/anyAt sn (C4 ss c m)=true then 6 else if sn=6 then 2 else 0):=hE1.out.trans (if_neg (by simp[hrg]))
   go_wp2_with fail
   refine(hsr _ hrg).mono ?_
   rintro e w2 ⟨rfl,hbw2⟩
   have hT2:=hT1.later hbw2
   clear b0 b1 b2 p0 p1 s0 zs0 s1 zs1 s2 zs2
   obtain⟨b0,b1,b2⟩:=bI hT2.hb rfl rfl rfl
   obtain⟨p0,p1⟩:=aR hT2.hp rfl rfl
   obtain⟨s0,s1,s2⟩:=bI hT2.hs rfl rfl rfl
   obtain⟨zs0,zs1,zs2⟩:=dQ hT2.hs
   have hsp:=tE vid id rx rn rc sx sn sc ss w2 (hv.later hT2.below).subs (by omega)
   generalize hfp:fstAt sn (fun i=>(sbAt ss i).id==id)=fp at hsp hE2
   by_cases hge:0<=fp
   ·have hne:oR vid rn rs sn ss id c m=6/\(6:Int)≠0:=⟨hE2.out.trans (if_pos (.inl hge)),by decide⟩;go_wp2_with fail;refine(hsp).mono ?_;rintro e w3 ⟨rfl,hbw3⟩;have hT3:=hT2.later hbw3;clear b0 b1 b2 p0 p1 s0 zs0 s1 zs1 s2 zs2;obtain⟨b0,b1,b2⟩:=bI hT3.hb rfl rfl rfl;obtain⟨p0,p1⟩:=aR hT3.hp rfl rfl;obtain⟨s0,s1,s2⟩:=bI hT3.hs rfl rfl rfl;obtain⟨zs0,zs1,zs2⟩:=dQ hT3.hs;go_wp2;refine bodyPost_ret (v:= .tuple #[.agg #[.int .i64 0, .slice none 0 0, .slice none 0 0], .int .i64 6]) (by simp[results,Tryz.results102,go_sem,s0,s1,s2]) rfl ?_;exact fX.err hne (((hT3.below.setCell (p:=⟨w.heap.size+2,0,none⟩) (zA) _).setCell (p:=⟨w.heap.size+2,1,none⟩) (zA) _).setCell (p:=⟨w.heap.size+2,2,none⟩) (zA) _)
   ·go_wp2_with fail;refine(hsp).mono ?_;rintro e w3 ⟨rfl,hbw3⟩;have hT3:=hT2.later hbw3;clear b0 b1 b2 p0 p1 s0 zs0 s1 zs1 s2 zs2;obtain⟨b0,b1,b2⟩:=bI hT3.hb rfl rfl rfl;obtain⟨p0,p1⟩:=aR hT3.hp rfl rfl;obtain⟨s0,s1,s2⟩:=bI hT3.hs rfl rfl rfl;obtain⟨zs0,zs1,zs2⟩:=dQ hT3.hs;have hmt:=sW c m sx sn sc ss w3 (hv.later hT3.below).subs (by omega)
    cases hany:anyAt sn (C4 ss c m)with
    |true=>
     rw[hany]at hmt
     have hne:oR vid rn rs sn ss id c m=6/\(6:Int)≠0:=⟨hE2.out.trans (if_pos (.inr hany)),by decide⟩
     go_wp2_with fail
     refine(hmt).mono ?_
     rintro e w4 ⟨rfl,hbw4⟩
     have hT4:=hT3.later hbw4
     clear b0 b1 b2 p0 p1 s0 zs0 s1 zs1 s2 zs2
     obtain⟨b0,b1,b2⟩:=bI hT4.hb rfl rfl rfl
     obtain⟨p0,p1⟩:=aR hT4.hp rfl rfl
     obtain⟨s0,s1,s2⟩:=bI hT4.hs rfl rfl rfl
     obtain⟨zs0,zs1,zs2⟩:=dQ hT4.hs
     go_wp2
     refine bodyPost_ret (v:= .tuple #[.agg #[.int .i64 0, .slice none 0 0, .slice none 0 0], .int .i64 6]) (by simp[results,Tryz.results102,go_sem,s0,s1,s2]) rfl ?_
     exact fX.err hne (((hT4.below.setCell (p:=⟨w.heap.size+2,0,none⟩) (zA) _).setCell (p:=⟨w.heap.size+2,1,none⟩) (zA) _).setCell (p:=⟨w.heap.size+2,2,none⟩) (zA) _)
    |false=>
     rw[hany]at hmt
     have hE3:Hid (oR vid rn rs sn ss id c m=if sn=6 then 2 else 0):=hE2.out.trans (if_neg (by rw[hany];simp;omega))
     by_cases h6:sn=6
     ·subst h6;have hne:oR vid rn rs 6 ss id c m=2/\(2:Int)≠0:=⟨hE3.out.trans (if_pos rfl),by decide⟩;go_wp2_with fail;refine(hmt).mono ?_;rintro e w4 ⟨rfl,hbw4⟩;have hT4:=hT3.later hbw4;clear b0 b1 b2 p0 p1 s0 zs0 s1 zs1 s2 zs2;obtain⟨b0,b1,b2⟩:=bI hT4.hb rfl rfl rfl;obtain⟨p0,p1⟩:=aR hT4.hp rfl rfl;obtain⟨s0,s1,s2⟩:=bI hT4.hs rfl rfl rfl;obtain⟨zs0,zs1,zs2⟩:=dQ hT4.hs;go_wp2;refine bodyPost_ret (v:= .tuple #[.agg #[.int .i64 0, .slice none 0 0, .slice none 0 0], .int .i64 2]) (by simp[results,Tryz.results102,go_sem,s0,s1,s2]) rfl ?_;exact fX.err hne (((hT4.below.setCell (p:=⟨w.heap.size+2,0,none⟩) (zA) _).setCell (p:=⟨w.heap.size+2,1,none⟩) (zA) _).setCell (p:=⟨w.heap.size+2,2,none⟩) (zA) _)
     ·have hE0:Hid (oR vid rn rs sn ss id c m=0):=hE3.out.trans (if_neg h6);have hv3:=fun W (hW:Below w.heap.size w W)=>cZ vid rx rn rc rs sx sn sc ss W (hv.later hW) (by omega) (by omega) (fun i hi=>by have:=f3 i hi;omega) (fun i hi j hj=>by have:=f4 i hi j hj;omega);go_wp2_with fail;refine(hmt).mono ?_;rintro e w4 ⟨rfl,hbw4⟩;have hT4:=hT3.later hbw4;clear b0 b1 b2 p0 p1 s0 zs0 s1 zs1 s2 zs2;obtain⟨b0,b1,b2⟩:=bI hT4.hb rfl rfl rfl;obtain⟨p0,p1⟩:=aR hT4.hp rfl rfl;obtain⟨s0,s1,s2⟩:=bI hT4.hs rfl rfl rfl;obtain⟨zs0,zs1,zs2⟩:=dQ hT4.hs;go_wp2_with fail;refine(hv3 _ hT4.below).mono ?_;rintro e w5 ⟨vR,vS,ts,rfl,hOR,hss,hOS,hb5⟩;have hT5:=hT4.later hb5;obtain⟨xr,cr,rfl, -⟩:=hOR.rs;obtain⟨xt,ct,rfl,ht1,ht2,ht3⟩:=hOS.subs;have htl:Hid (ts.length=sn):=by unfold Hid;rw[<-hss.1];exact hsl.out
      have hxt:(xt=none/\ct=0)\/∃b o,xt=some ⟨b,o,none⟩:=by
       rcases hOS.row.2 with ⟨hv', -⟩|⟨g2,cap2,cur2,hv', -⟩
       ·simp only[Value.slice.injEq]at hv';exact .inl ⟨hv'.1,hv'.2.2⟩
       ·simp only[Value.slice.injEq]at hv';exact .inr ⟨_,_,hv'.1⟩
      clear b0 b1 b2 p0 p1 s0 zs0 s1 zs1 s2 zs2;go_upto_region 12 with fail
      obtain⟨w6,hw6⟩:∃w6,w6=w5.alloc (cY vid (.slice xr rs.length cr) (.slice xt ts.length ct)):=⟨_,rfl⟩;rw[<-hw6];have hb56:Below w5.heap.size w5 w6:=by rw[hw6];exact bl1 _ _
      have hn6:w6.heap[w5.heap.size]?=some (cY vid (.slice xr rs.length cr) (.slice xt ts.length ct)):=by rw[hw6];exact aB _ rfl
      clear hw6;have hT6:=hT5.later hb56;have n2:=aP hn6 2 rfl;have n2':∀o,(w6.alloc o).cell? ⟨w5.heap.size,2,none⟩=some (.slice xt ts.length ct):=fun o=>aF (bl1 w6 o) n2;obtain⟨p0,p1⟩:=aR hT6.hp rfl rfl;have p0':∀o,(w6.alloc o).cell? ⟨w.heap.size+1,0,none⟩=some (.int .i64 c):=fun o=>aF (bl1 w6 o) p0;have p1':∀o,(w6.alloc o).cell? ⟨w.heap.size+1,1,none⟩=some (.int .i64 m):=fun o=>aF (bl1 w6 o) p1;have hput:=fun W (hW:Below w6.heap.size w6 W) hby=>RN ⟨id,c,m,none,0,0,[]⟩ xt ts.length ct ts w6.heap.size 1 W ((ht1.later hb56).later hW) (by rw[htl.out];omega) ht2 ht3 hxt hby;go_wp2_with fail;refine(hput _ (bl1 w6 _) (by simp)).mono ?_;rintro e w7 ⟨v7,rfl,hb7,i,hi,hlow,hup,hO7⟩;obtain⟨qs,hqs⟩:∃qs,Hid (qs=ts.take i++[(⟨id,c,m,none,0,0,[]⟩:Sb)]++ts.drop i):=⟨_,rfl⟩;rw[<-hqs.out]at hO7;obtain⟨x7,c7,rfl, -⟩:=hO7.mem;have hb67:Below w6.heap.size w6 w7:=(bl1 w6 _).trans (hb7.mono (by simp));have hT7:=hT6.later hb67;have hn7:=aA hb67 hn6;have hOS7:=iR.later (iR.later hOS hb56) hb67;have hOR7:=bM.later (bM.later hOR hb56) hb67;clear n2 n2' p0 p1 p0' p1';have hsz4:w.heap.size+2<w4.heap.size:=(zG hT4.hs);have hz5:w.heap.size+2<w5.heap.size:=Nat.lt_of_lt_of_le hsz4 hb5.size;have hz6:w.heap.size+2<w6.heap.size:=Nat.lt_of_lt_of_le hz5 hb56.size;have m0:=aP hn7 0 rfl;have m1:=aP hn7 1 rfl;have m2:=aP hn7 2 rfl;have zm:=(aC hn7).2 2;obtain⟨s0,s1,s2⟩:=bI hT7.hs rfl rfl rfl;obtain⟨zs0,zs1,zs2⟩:=dQ hT7.hs;have ne1:¬w5.heap.size=w.heap.size+2:=by omega
      have ne2:¬w.heap.size+2=w5.heap.size:=by omega
      go_wp2;refine bodyPost_ret (v:= .tuple #[.agg #[.int .i64 vid, .slice xr rs.length cr, .slice x7 qs.length c7], .int .i64 0]) (by simp[results,Tryz.results102,go_sem,s0,s1,s2]) rfl ?_;have hfin:=(((hT7.below.setCell (p:=⟨w5.heap.size,2,none⟩) (by show w.heap.size<=w5.heap.size;omega) (.slice x7 qs.length c7)).setCell (p:=⟨w.heap.size+2,0,none⟩) (zA) (.int .i64 vid)).setCell (p:=⟨w.heap.size+2,1,none⟩) (zA) (.slice xr rs.length cr)).setCell (p:=⟨w.heap.size+2,2,none⟩) (zA) (.slice x7 qs.length c7);have hos:=(((hOS7.putBox (o:=2) (u:= .slice x7 qs.length c7) hn7 (by decide) (by decide) (by decide)).put (o:=0) (u:= .int .i64 vid) hsz4).put (o:=1) (u:= .slice xr rs.length cr) hsz4).put (o:=2) (u:= .slice x7 qs.length c7) hsz4;have hor:=(((hOR7.putBox (o:=2) (u:= .slice x7 qs.length c7) hn7 (by decide)).put (o:=0) (u:= .int .i64 vid) hsz4).put (o:=1) (u:= .slice xr rs.length cr) hsz4).put (o:=2) (u:= .slice x7 qs.length c7) hsz4;have hoq:=((((hO7.low (base':=w6.heap.size) (by simp)).putBox (o:=2) (u:= .slice x7 qs.length c7) hn7 (by decide)).put (o:=0) (u:= .int .i64 vid) hz6).put (o:=1) (u:= .slice xr rs.length cr) hz6).put (o:=2) (u:= .slice x7 qs.length c7) hz6;refine fX.ok hE0.out hfin ⟨ts,qs,HS.mk (b3:=w4.heap.size) hor (by omega) hoq (by omega) (fun s hs=>?_) (by omega),hss,⟨i,hi,fun j hj=>by have:=hlow j hj;simpa using this,hup,hqs.out⟩⟩;rw[hqs.out]at hs;simp only[List.mem_append,List.mem_singleton]at hs;rcases hs with (hs|rfl)|hs
      ·exact hos.ofa s (List.mem_of_mem_take hs)
      ·exact⟨World.ownsRow_nil _ _ _ _,fun i hi=>absurd hi (Nat.not_lt_zero _),fun i _ hi=>absurd hi (Nat.not_lt_zero _)⟩
      ·exact hos.ofa s (List.mem_of_mem_drop hs)
 ·have hne:oR vid rn rs sn ss id c m=bD vid rn rs sn ss/\bD vid rn rs sn ss≠0:=⟨if_pos hc0,hc0⟩;go_wp2_with fail;refine(hck).mono ?_;rintro e w1 ⟨rfl,hbw1⟩;have hT1:=hT0.later hbw1;clear b0 b1 b2 p0 p1 s0 zs0 s1 zs1 s2 zs2;obtain⟨b0,b1,b2⟩:=bI hT1.hb rfl rfl rfl;obtain⟨p0,p1⟩:=aR hT1.hp rfl rfl;obtain⟨s0,s1,s2⟩:=bI hT1.hs rfl rfl rfl;obtain⟨zs0,zs1,zs2⟩:=dQ hT1.hs;go_wp2;refine bodyPost_ret (v:= .tuple #[.agg #[.int .i64 0, .slice none 0 0, .slice none 0 0], .int .i64 (bD vid rn rs sn ss)]) (by simp[results,Tryz.results102,go_sem,s0,s1,s2]) rfl ?_;exact fX.err hne (((hT1.below.setCell (p:=⟨w.heap.size+2,0,none⟩) (zA) _).setCell (p:=⟨w.heap.size+2,1,none⟩) (zA) _).setCell (p:=⟨w.heap.size+2,2,none⟩) (zA) _)
theorem cN{x:Obj}(hg:w.grownBy w' (some g))(hne:b≠g)(hx:w.heap[b]?=some x):w'.heap[b]?=some x:=by
 obtain⟨-, -, -, -,h⟩:=hg;exact(h b (zG hx) (fun e=>hne (by simpa using e))).trans hx
def gR(vid:Int)(rn:Nat)(rs:List Rg)(sn:Nat)(ss:List Sb)(id:Int):Int:=
 if bD vid rn rs sn ss≠0 then bD vid rn rs sn ss else if fstAt sn (fun i=>(sbAt ss i).id==id)<0 then 5 else if 0<(sbAt ss (fstAt sn (fun i=>(sbAt ss i).id==id)).toNat).n then 9 else 0
def YW(vid:Int)(rs:List Rg)(ss:List Sb)(id:Int)(base:Nat)(w:World)(V:Value):Prop:=∃ts i,bQ ss ts/\i<ts.length/\(sbAt ss i).id=id/\(∀j,j<i->(sbAt ss j).id≠id)/\HS w base vid V rs (ts.take i++ts.drop (i+1))
structure TN(w W:World)(vid:Int)(rx:Option Addr)(rn rc:Nat)(sx:Option Addr)(sn sc:Nat):Prop where
 hb:W.heap[w.heap.size]?=some (.cells #[.int .i64 vid, .slice rx rn rc, .slice sx sn sc] 92)
 hs:W.heap[w.heap.size+1]?=some (.cells #[.int .i64 0, .slice none 0 0, .slice none 0 0] 92)
 below:Below w.heap.size w W
theorem TN.later(h:TN w W vid rx rn rc sx sn sc)(hb:Below W.heap.size W W'):TN w W' vid rx rn rc sx sn sc:=
 ⟨aA hb h.hb,aA hb h.hs,h.below.trans (hb.mono h.below.size)⟩
theorem KF(vid:Int)(rx:Option Addr)(rn rc:Nat)(rs:List Rg)(sx:Option Addr)(sn sc:Nat)(ss:List Sb)(id:Int)(w:World)(hv:Vp w rx rn rc rs sx sn sc ss)(hrn:rn<=9223372036854775807)(hsn:sn<=9223372036854775807)(hrc:rc<=9223372036854775807):
  Calls Tryz.prog 103 #[.agg #[.int .i64 vid, .slice rx rn rc, .slice sx sn sc], .int .i64 id] w (fX (gR vid rn rs sn ss id) (YW vid rs ss id w.heap.size) w):=by
 have hrl:Hid (rs.length=rn):=hv.ranges.len;have hsl:Hid (ss.length=sn):=hv.subs.len;go_enter Tryz.func103,Tryz.ntmps103;go_upto_region 1 with fail
 obtain⟨w0,hw0⟩:∃w0,w0=(w.alloc (cY vid (.slice rx rn rc) (.slice sx sn sc))).alloc (cY 0 (.slice none 0 0) (.slice none 0 0)):=⟨_,rfl⟩;rw[<-hw0];have hT0:TN w w0 vid rx rn rc sx sn sc:=by
  rw[hw0];exact⟨aG _ (aB _ rfl),aB _ (by simp),bO w _ _⟩
 clear hw0;obtain⟨b0,b1,b2⟩:=bI hT0.hb rfl rfl rfl;obtain⟨s0,s1,s2⟩:=bI hT0.hs rfl rfl rfl;obtain⟨zs0,zs1,zs2⟩:=dQ hT0.hs;have hck:=checkV_any vid rx rn rc rs sx sn sc ss w0 (hv.later hT0.below) hrn hsn hrc;by_cases hc0:bD vid rn rs sn ss=0
 ·rw[hc0]at hck;obtain⟨f1,f2,f3,f4⟩:=dU hc0;have hE1:Hid (gR vid rn rs sn ss id=if fstAt sn (fun i=>(sbAt ss i).id==id)<0 then 5 else if 0<(sbAt ss (fstAt sn (fun i=>(sbAt ss i).id==id)).toNat).n then 9 else 0):=if_neg (c:=bD vid rn rs sn ss≠0) (by simp[hc0]);clear hc0;go_wp2_with fail;refine(hck).mono ?_;rintro e w1 ⟨rfl,hbw1⟩;have hT1:=hT0.later hbw1;clear b0 b1 b2 s0 zs0 s1 zs1 s2 zs2;obtain⟨b0,b1,b2⟩:=bI hT1.hb rfl rfl rfl;obtain⟨s0,s1,s2⟩:=bI hT1.hs rfl rfl rfl;obtain⟨zs0,zs1,zs2⟩:=dQ hT1.hs;have hsp:=fun t h=>AL vid id rx rn rc sx sn sc ss t h w1 (hv.later hT1.below).subs hsn;rcases fstAt_cases sn (fun i=>(sbAt ss i).id==id)with ⟨i,hi,hf,hno,hfp⟩|⟨-,hfp⟩
  ·have hsp':=hsp _ hfp;clear hsp;have hE2:Hid (gR vid rn rs sn ss id=if 0<(sbAt ss i).n then 9 else 0):=by
    have:=hE1.out;rw[hfp]at this;rw[if_neg (by omega)]at this;unfold Hid;simpa using this
   clear hfp hE1;have hHf:Hid ((sbAt ss i).id=id/\∀j,j<i->(sbAt ss j).id≠id):=⟨by simpa using hf,fun j hj=>by simpa using hno j hj⟩;clear hf hno;have hi':Hid (i<sn):=hi;obtain⟨b,o,rfl, -, -, -,c3⟩:=hv.subs.cells i hi;go_wp2_with fail;refine(hsp').mono ?_;rintro e w2 ⟨rfl,hbw2⟩;have hT2:=hT1.later hbw2;clear b0 b1 b2 s0 zs0 s1 zs1 s2 zs2;obtain⟨b0,b1,b2⟩:=bI hT2.hb rfl rfl rfl;obtain⟨s0,s1,s2⟩:=bI hT2.hs rfl rfl rfl;obtain⟨zs0,zs1,zs2⟩:=dQ hT2.hs;have d3:=cell_later hT2.below c3;clear c3;have i0:(0:Int)<=i:=by omega
   have i1:(i:Int)<sn:=by omega
   by_cases hgt:0<(sbAt ss i).n
   ·have hne:gR vid rn rs sn ss id=9/\(9:Int)≠0:=⟨hE2.out.trans (if_pos hgt),by decide⟩;go_wp2;refine bodyPost_ret (v:= .tuple #[.agg #[.int .i64 0, .slice none 0 0, .slice none 0 0], .int .i64 9]) (by simp[results,Tryz.results103,go_sem,s0,s1,s2]) rfl ?_;exact fX.err hne (((hT2.below.setCell (p:=⟨w.heap.size+1,0,none⟩) (zA) _).setCell (p:=⟨w.heap.size+1,1,none⟩) (zA) _).setCell (p:=⟨w.heap.size+1,2,none⟩) (zA) _)
   ·have hE0:Hid (gR vid rn rs sn ss id=0):=hE2.out.trans (if_neg hgt);have hv3:=fun W (hW:Below w.heap.size w W)=>cZ vid rx rn rc rs (some ⟨b,o,none⟩) sn sc ss W (hv.later hW) (by omega) (by omega) (fun i hi=>by have:=f3 i hi;omega) (fun i hi j hj=>by have:=f4 i hi j hj;omega);go_wp2_with fail;refine(hv3 _ hT2.below).mono ?_;rintro e w5 ⟨vR,vS,ts,rfl,hOR,hss,hOS,hb5⟩;have hT5:=hT2.later hb5;have htl:ts.length=sn:=by rw[<-hss.1];exact hsl.out
    obtain⟨xr,cr,rfl, -⟩:=hOR.rs;obtain⟨k,hk⟩:∃k,ts.length=k+1:=⟨ts.length- 1,by have:=hi'.out;omega⟩;have hik:i<=k:=by have:=hi'.out;omega
    obtain⟨g,cap,hg5,cur,hgh,hcap1,hcap2,hvS⟩:∃g cap,w2.heap.size<=g/\∃cur,w5.heap[g]?=some (.cells cur 130)/\k+1<=cap/\cap<=9223372036854775807/\vS= .slice (some ⟨g,0,none⟩) (k+1) cap:=by
     obtain⟨x2,c2,hv2,h1,h2, -, -⟩:=hOS.row.mem;rcases hOS.row.2 with ⟨hv', -⟩|⟨g,cap,cur,hv',hg1,hg2, -⟩
     ·rw[hv']at hv2;simp only[Value.slice.injEq]at hv2;omega
     ·rw[hv']at hv2;simp only[Value.slice.injEq]at hv2;obtain⟨-, -,rfl⟩:=hv2;exact⟨g,cap,hg1,cur,hg2,by omega,h2,by rw[hv',hk]⟩
    subst hvS;clear b0 b1 b2 s0 zs0 s1 zs1 s2 zs2;clear d3;have hgl:g<w5.heap.size:=(zG hgh);go_upto_region 11 with fail
    obtain⟨w6,hw6⟩:∃w6,w6=w5.alloc (cY vid (.slice xr rs.length cr) (.slice (some ⟨g,0,none⟩) (k+1) cap)):=⟨_,rfl⟩;rw[<-hw6];have hb56:Below w5.heap.size w5 w6:=by rw[hw6];exact bl1 _ _
    have hn6:w6.heap[w5.heap.size]?=some (cY vid (.slice xr rs.length cr) (.slice (some ⟨g,0,none⟩) (k+1) cap)):=by rw[hw6];exact aB _ rfl
    clear hw6;have hT6:=hT5.later hb56;have hg6:=aA hb56 hgh;have hOR6:=bM.later hOR hb56;have hOS6:=iR.later hOS hb56;have n2:=aP hn6 2 rfl;have hdel:=HI w2.heap.size g k cap i (i+1) ts w6 hOS6.row hk hik rfl (by omega) hcap1 hcap2;rw[show((i+1:Nat):Int)=(i:Int)+1 by omega]at hdel;go_wp2_with fail;refine hdel.mono ?_;rintro e w7 ⟨rfl,hO7,hg7⟩;clear n2 hdel;have hsz2:w.heap.size+1<w2.heap.size:=(zG hT2.hs);have hn7:=cN hg7 (by omega) hn6;have hs7:=cN hg7 (by omega) hT6.hs;have hB7:=dN hT6.below hg7 (fun q e=>by cases e;omega);have hOR7:=hOR6.kept hg7 (fun q hq e=>by subst e;exact hOR6.ne hg6 (by decide) hq);have hF7:=hOS6.ofa.keptOf hg7 hg6 (by decide) (by decide);have m0:=aP hn7 0 rfl;have m1:=aP hn7 1 rfl;have m2:=aP hn7 2 rfl;have zm:=(aC hn7).2 2;obtain⟨s0,s1,s2⟩:=bI hs7 rfl rfl rfl;obtain⟨zs0,zs1,zs2⟩:=dQ hs7;have ne1:¬w5.heap.size=w.heap.size+1:=by omega
    have ne2:¬w.heap.size+1=w5.heap.size:=by omega
    have hw5:w.heap.size<=w5.heap.size:=by omega
    go_wp2;refine bodyPost_ret (v:= .tuple #[.agg #[.int .i64 vid, .slice xr rs.length cr, .slice (some ⟨g,0,none⟩) k cap], .int .i64 0]) (by simp[results,Tryz.results103,go_sem,s0,s1,s2]) rfl ?_;have hfin:=(((hB7.setCell (p:=⟨w5.heap.size,2,none⟩) hw5 (.slice (some ⟨g,0,none⟩) k cap)).setCell (p:=⟨w.heap.size+1,0,none⟩) (zA) (.int .i64 vid)).setCell (p:=⟨w.heap.size+1,1,none⟩) (zA) (.slice xr rs.length cr)).setCell (p:=⟨w.heap.size+1,2,none⟩) (zA) (.slice (some ⟨g,0,none⟩) k cap);have hor:=(((hOR7.putBox (o:=2) (u:= .slice (some ⟨g,0,none⟩) k cap) hn7 (by decide)).put (o:=0) (u:= .int .i64 vid) hsz2).put (o:=1) (u:= .slice xr rs.length cr) hsz2).put (o:=2) (u:= .slice (some ⟨g,0,none⟩) k cap) hsz2;have hoq:=(((hO7.putBox (o:=2) (u:= .slice (some ⟨g,0,none⟩) k cap) hn7 (by decide)).put (o:=0) (u:= .int .i64 vid) hsz2).put (o:=1) (u:= .slice xr rs.length cr) hsz2).put (o:=2) (u:= .slice (some ⟨g,0,none⟩) k cap) hsz2;have hfa:=(((hF7.keptOf (aI _ _ 2 (.slice (some ⟨g,0,none⟩) k cap)) hn7 (by decide) (by decide)).put (o:=0) (u:= .int .i64 vid) hsz2).put (o:=1) (u:= .slice xr rs.length cr) hsz2).put (o:=2) (u:= .slice (some ⟨g,0,none⟩) k cap) hsz2;refine fX.ok hE0.out hfin ⟨ts,i,hss,by omega,hHf.out.1,hHf.out.2,HS.mk (b3:=w2.heap.size) hor (by omega) hoq (by omega) (hfa.part (fun s hs=>?_)) (by omega)⟩;rcases List.mem_append.1 hs with hs|hs
    ·exact List.mem_of_mem_take hs
    ·exact List.mem_of_mem_drop hs
  ·have hsp':=hsp _ hfp;have hne:gR vid rn rs sn ss id=5/\(5:Int)≠0:=⟨hE1.out.trans (if_pos (by rw[hfp];decide)),by decide⟩;clear hfp hE1 hsp;go_wp2_with fail;refine(hsp').mono ?_;rintro e w2 ⟨rfl,hbw2⟩;have hT2:=hT1.later hbw2;clear b0 b1 b2 s0 zs0 s1 zs1 s2 zs2;obtain⟨b0,b1,b2⟩:=bI hT2.hb rfl rfl rfl;obtain⟨s0,s1,s2⟩:=bI hT2.hs rfl rfl rfl;obtain⟨zs0,zs1,zs2⟩:=dQ hT2.hs;go_wp2;refine bodyPost_ret (v:= .tuple #[.agg #[.int .i64 0, .slice none 0 0, .slice none 0 0], .int .i64 5]) (by simp[results,Tryz.results103,go_sem,s0,s1,s2]) rfl ?_;exact fX.err hne (((hT2.below.setCell (p:=⟨w.heap.size+1,0,none⟩) (zA) _).setCell (p:=⟨w.heap.size+1,1,none⟩) (zA) _).setCell (p:=⟨w.heap.size+1,2,none⟩) (zA) _)
 ·have hne:gR vid rn rs sn ss id=bD vid rn rs sn ss/\bD vid rn rs sn ss≠0:=⟨if_pos hc0,hc0⟩;go_wp2_with fail;refine(hck).mono ?_;rintro e w1 ⟨rfl,hbw1⟩;have hT1:=hT0.later hbw1;clear b0 b1 b2 s0 zs0 s1 zs1 s2 zs2;obtain⟨b0,b1,b2⟩:=bI hT1.hb rfl rfl rfl;obtain⟨s0,s1,s2⟩:=bI hT1.hs rfl rfl rfl;obtain⟨zs0,zs1,zs2⟩:=dQ hT1.hs;have hsp:=tF vid id rx rn rc sx sn sc ss w1 (hv.later hT1.below).subs hsn;generalize fstAt sn (fun i=>(sbAt ss i).id==id)=fp at hsp;go_wp2_with fail;refine(hsp).mono ?_;rintro e w2 ⟨rfl,hbw2⟩;have hT2:=hT1.later hbw2;clear b0 b1 b2 s0 zs0 s1 zs1 s2 zs2;obtain⟨b0,b1,b2⟩:=bI hT2.hb rfl rfl rfl;obtain⟨s0,s1,s2⟩:=bI hT2.hs rfl rfl rfl;obtain⟨zs0,zs1,zs2⟩:=dQ hT2.hs;go_wp2;refine bodyPost_ret (v:= .tuple #[.agg #[.int .i64 0, .slice none 0 0, .slice none 0 0], .int .i64 (bD vid rn rs sn ss)]) (by simp[results,Tryz.results103,go_sem,s0,s1,s2]) rfl ?_;exact fX.err hne (((hT2.below.setCell (p:=⟨w.heap.size+1,0,none⟩) (zA) _).setCell (p:=⟨w.heap.size+1,1,none⟩) (zA) _).setCell (p:=⟨w.heap.size+1,2,none⟩) (zA) _)
theorem OD(c m:Int)(p:Rg)(b:Nat)(w:World)(h0:w.cell? ⟨b,0,none⟩=some (.int .i64 c))(h1:w.cell? ⟨b,1,none⟩=some (.int .i64 m)):
  Calls Tryz.prog 160 #[.agg #[.int .i64 p.a, .int .i64 p.l, .int .i64 p.p], .pointer (some ⟨b,0,none⟩)] w fun e w'=>e= .returned (.bool (decide (p.a=c)&&decide (p.l=m)))/\Below w.heap.size w w':=by
 have k0:∀q,(w.alloc q).cell? ⟨b,0,none⟩=some (.int .i64 c):=fun q=>cell_later (bl1 w q) h0;have k1:∀q,(w.alloc q).cell? ⟨b,1,none⟩=some (.int .i64 m):=fun q=>cell_later (bl1 w q) h1;have he:=fun W=>CJ p.a p.l c m W;have hg:=fun x y W=>sB .eql x y #[.int .i64 p.a, .int .i64 p.l] #[.int .i64 c, .int .i64 m] W;go_enter Tryz.func160,Tryz.ntmps160;go_wp2;go_ret;exact⟨rfl,bl1 w _⟩
theorem KG(args:Array Value)(W:World):(callFunc 160 args).run Tryz.prog W= .ok (.enter 160 args) W:=by simp[go_sem]
theorem OE(c m:Int)(p:Sb)(b:Nat)(w:World)(h0:w.cell? ⟨b,0,none⟩=some (.int .i64 c))(h1:w.cell? ⟨b,1,none⟩=some (.int .i64 m)):
  Calls Tryz.prog 162 #[.agg #[.int .i64 p.id, .int .i64 p.a, .int .i64 p.l, .slice p.x p.n p.c], .pointer (some ⟨b,0,none⟩)] w fun e w'=>e= .returned (.bool (iH p.a p.l c m))/\Below w.heap.size w w':=by
 have k0:∀q,(w.alloc q).cell? ⟨b,0,none⟩=some (.int .i64 c):=fun q=>cell_later (bl1 w q) h0;have k1:∀q,(w.alloc q).cell? ⟨b,1,none⟩=some (.int .i64 m):=fun q=>cell_later (bl1 w q) h1;go_enter Tryz.func162,Tryz.ntmps162;go_wp2_with (go_at_call 163;refine(inside_any _ _ _ _ _).mono ?_;rintro e w1 ⟨rfl,hb1⟩);go_ret;exact⟨rfl,(bl1 w _).trans (hb1.mono (by simp))⟩
theorem KH(args:Array Value)(W:World):(callFunc 162 args).run Tryz.prog W= .ok (.enter 162 args) W:=by simp[go_sem]
def rpB(rs:List Rg)(c m:Int)(i:Nat):Bool:=decide ((aQ rs i).a=c)&&decide ((aQ rs i).l=m)
def XI(ss:List Sb)(c m:Int)(i:Nat):Bool:=iH (sbAt ss i).a (sbAt ss i).l c m
theorem DF(c m:Int)(b:Nat)(x:Option Addr)(n k:Nat)(rs:List Rg)(t:Int)(h:fstAt n (rpB rs c m)=t)(w:World)(hp:RS w x n rs)(hn:n<=9223372036854775807)(h0:w.cell? ⟨b,0,none⟩=some (.int .i64 c))(h1:w.cell? ⟨b,1,none⟩=some (.int .i64 m)):
  Calls Tryz.prog 159 #[.slice x n k, .func (.func 160) #[] #[.pointer (some ⟨b,0,none⟩)]] w fun e w'=>e= .returned (.int .i64 t)/\Below w.heap.size w w':=by
 refine(xQ 160 #[.pointer (some ⟨b,0,none⟩)] x n k rs (rpB rs c m) w hp hn (fun i _ W hW=>OD c m (aQ rs i) b W (cell_later hW h0) (cell_later hW h1)) KG).mono ?_;rintro e w' ⟨⟨r,rfl,hr⟩,hb⟩;exact⟨by rw[tD hr,h],hb⟩
theorem KI(c m:Int)(b:Nat)(x:Option Addr)(n k:Nat)(ss:List Sb)(t:Bool)(h:anyAt n (XI ss c m)=t)(w:World)(hp:SS w x n ss)(hn:n<=1048576)(h0:w.cell? ⟨b,0,none⟩=some (.int .i64 c))(h1:w.cell? ⟨b,1,none⟩=some (.int .i64 m)):
  Calls Tryz.prog 161 #[.slice x n k, .func (.func 162) #[] #[.pointer (some ⟨b,0,none⟩)]] w fun e w'=>e= .returned (.bool t)/\Below w.heap.size w w':=by
 subst h;exact fB 162 #[.pointer (some ⟨b,0,none⟩)] x n k ss (XI ss c m) w hp hn (fun i _ W hW=>OE c m (sbAt ss i) b W (cell_later hW h0) (cell_later hW h1)) KH
theorem OF(W:World)(a:Addr):W.drew.cell? a=W.cell? a:=rfl
def fJ(vid:Int)(rn:Nat)(rs:List Rg)(sn:Nat)(ss:List Sb)(c m:Int):Int:=
 if bD vid rn rs sn ss≠0 then bD vid rn rs sn ss else if fstAt rn (rpB rs c m)<0 then 5 else if anyAt sn (XI ss c m)=true then 9 else 0
def kB(vid:Int)(rn:Nat)(rs:List Rg)(sn:Nat)(ss:List Sb)(c m:Int)(w:World)(e:Ending)(w':World):Prop:=
 ∃V r,e= .returned (.tuple #[V, .agg #[.int .i64 (Rg.a r), .int .i64 r.l, .int .i64 r.p], .int .i64 (fJ vid rn rs sn ss c m)])/\Below w.heap.size w w'/\(fJ vid rn rs sn ss c m≠0->V= .agg #[.int .i64 0, .slice none 0 0, .slice none 0 0]/\r=⟨0,0,0⟩)/\
  (fJ vid rn rs sn ss c m=0->∃ts i,bQ ss ts/\i<rn/\rpB rs c m i=true/\(∀j,j<i->rpB rs c m j=false)/\r=aQ rs i/\HS w' w.heap.size vid V (rs.take i++rs.drop (i+1)) ts)
theorem kB.err{rs:List Rg}{c:Int}(hE:fJ vid rn rs sn ss c m=E/\E≠0)(hb:Below w.heap.size w w'):
  kB vid rn rs sn ss c m w (.returned (.tuple #[.agg #[.int .i64 0, .slice none 0 0, .slice none 0 0], .agg #[.int .i64 0, .int .i64 0, .int .i64 0], .int .i64 E])) w':=
 ⟨_,⟨0,0,0⟩,by rw[hE.1],hb,fun _=>⟨rfl,rfl⟩,fun h=>absurd (hE.1.symm.trans h) hE.2⟩
structure TD(w W:World)(vid:Int)(rx:Option Addr)(rn rc:Nat)(sx:Option Addr)(sn sc:Nat)(c m:Int):Prop where
 hb:W.heap[w.heap.size]?=some (.cells #[.int .i64 vid, .slice rx rn rc, .slice sx sn sc] 92)
 hp:W.heap[w.heap.size+1]?=some (.cells #[.int .i64 c, .int .i64 m] 26)
 hs:W.heap[w.heap.size+2]?=some (.cells #[.int .i64 0, .slice none 0 0, .slice none 0 0] 92)
 hg:W.heap[w.heap.size+3]?=some (.cells #[.int .i64 0, .int .i64 0, .int .i64 0] 127)
 below:Below w.heap.size w W
theorem TD.later{c:Int}(h:TD w W vid rx rn rc sx sn sc c m)(hb:Below W.heap.size W W'):TD w W' vid rx rn rc sx sn sc c m:=
 ⟨aA hb h.hb,aA hb h.hp,aA hb h.hs,aA hb h.hg,h.below.trans (hb.mono h.below.size)⟩
theorem OG(vid:Int)(rx:Option Addr)(rn rc:Nat)(rs:List Rg)(sx:Option Addr)(sn sc:Nat)(ss:List Sb)(c m:Int)(w:World)(hv:Vp w rx rn rc rs sx sn sc ss)(hrn:rn<=9223372036854775807)(hsn:sn<=9223372036854775807)(hrc:rc<=9223372036854775807):
  Calls Tryz.prog 101 #[.agg #[.int .i64 vid, .slice rx rn rc, .slice sx sn sc], .agg #[.int .i64 c, .int .i64 m]] w (kB vid rn rs sn ss c m w):=by
 have hrl:Hid (rs.length=rn):=hv.ranges.len;have hsl:Hid (ss.length=sn):=hv.subs.len;go_enter Tryz.func101,Tryz.ntmps101;go_upto_region 1 with fail
 obtain⟨w0,hw0⟩:∃w0,w0=(((w.alloc (cY vid (.slice rx rn rc) (.slice sx sn sc))).alloc (.cells #[.int .i64 c, .int .i64 m] 26)).alloc (cY 0 (.slice none 0 0) (.slice none 0 0))).alloc (.cells #[.int .i64 0, .int .i64 0, .int .i64 0] 127):=⟨_,rfl⟩;rw[<-hw0];have hT0:TD w w0 vid rx rn rc sx sn sc c m:=by
  rw[hw0];exact⟨aG _ (aG _ (aG _ (aB _ rfl))),aG _ (aG _ (aB _ (by simp))),aG _ (aB _ (by simp)),aB _ (by simp),((bO w _ _).alloc (by simp;omega) _).alloc (by simp;omega) _⟩
 clear hw0;obtain⟨b0,b1,b2⟩:=bI hT0.hb rfl rfl rfl;obtain⟨p0,p1⟩:=aR hT0.hp rfl rfl;obtain⟨s0,s1,s2⟩:=bI hT0.hs rfl rfl rfl;obtain⟨zs0,zs1,zs2⟩:=dQ hT0.hs;obtain⟨g0,g1,g2⟩:=bI hT0.hg rfl rfl rfl;obtain⟨zg0,zg1,zg2⟩:=dQ hT0.hg;have hck:=checkV_any vid rx rn rc rs sx sn sc ss w0 (hv.later hT0.below) hrn hsn hrc;by_cases hc0:bD vid rn rs sn ss=0
 ·rw[hc0]at hck;obtain⟨f1,f2,f3,f4⟩:=dU hc0;have hE1:Hid (fJ vid rn rs sn ss c m=if fstAt rn (rpB rs c m)<0 then 5 else if anyAt sn (XI ss c m)=true then 9 else 0):=if_neg (c:=bD vid rn rs sn ss≠0) (by simp[hc0]);clear hc0;go_wp2_with fail;refine(hck).mono ?_;rintro e w1 ⟨rfl,hbw1⟩;have hT1:=hT0.later hbw1;clear b0 b1 b2 p0 p1 s0 zs0 s1 zs1 s2 zs2 g0 zg0 g1 zg1 g2 zg2;obtain⟨b0,b1,b2⟩:=bI hT1.hb rfl rfl rfl;obtain⟨p0,p1⟩:=aR hT1.hp rfl rfl;obtain⟨s0,s1,s2⟩:=bI hT1.hs rfl rfl rfl;obtain⟨zs0,zs1,zs2⟩:=dQ hT1.hs;obtain⟨g0,g1,g2⟩:=bI hT1.hg rfl rfl rfl;obtain⟨zg0,zg1,zg2⟩:=dQ hT1.hg;have hsp:=fun t h=>DF c m (w.heap.size+1) rx rn rc rs t h w1 (hv.later hT1.below).ranges hrn p0 p1;rcases fstAt_cases rn (rpB rs c m)with ⟨i,hi,hf,hno,hfp⟩|⟨-,hfp⟩
  ·have hsp':=hsp _ hfp;clear hsp;have hE2:Hid (fJ vid rn rs sn ss c m=if anyAt sn (XI ss c m)=true then 9 else 0):=by
    have:=hE1.out;rw[hfp]at this;rw[if_neg (by omega)]at this;exact this
   clear hfp hE1;have hHf:Hid (rpB rs c m i=true/\∀j,j<i->rpB rs c m j=false):=⟨hf,hno⟩;clear hf hno;have hi':Hid (i<rn):=hi;obtain⟨b,o,rfl,r0,r1,r2⟩:=hv.ranges.cells i hi;have hbw:Hid (b<w.heap.size):=block_lt_of_cell r0;go_wp2_with fail;refine(hsp').mono ?_;rintro e w2 ⟨rfl,hbw2⟩;have hT2:=hT1.later hbw2;clear b0 b1 b2 p0 p1 s0 zs0 s1 zs1 s2 zs2 g0 zg0 g1 zg1 g2 zg2;obtain⟨b0,b1,b2⟩:=bI hT2.hb rfl rfl rfl;obtain⟨p0,p1⟩:=aR hT2.hp rfl rfl;obtain⟨s0,s1,s2⟩:=bI hT2.hs rfl rfl rfl;obtain⟨zs0,zs1,zs2⟩:=dQ hT2.hs;obtain⟨g0,g1,g2⟩:=bI hT2.hg rfl rfl rfl;obtain⟨zg0,zg1,zg2⟩:=dQ hT2.hg;have i0:(0:Int)<=i:=by omega
   have i1:(i:Int)<rn:=by omega
   have hda:=fun t h=>KI c m (w.heap.size+1) sx sn sc ss t h w2 (hv.later hT2.below).subs (by omega) p0 p1
   cases hany:anyAt sn (XI ss c m)with
   |true=>
    have hne:fJ vid rn rs sn ss c m=9/\(9:Int)≠0:=⟨hE2.out.trans (if_pos hany),by decide⟩
    clear r0 r1 r2
    go_wp2_with fail
    refine(hda _ hany).mono ?_
    rintro e w3 ⟨rfl,hbw3⟩
    have hT3:=hT2.later hbw3
    clear b0 b1 b2 p0 p1 s0 zs0 s1 zs1 s2 zs2 g0 zg0 g1 zg1 g2 zg2
    obtain⟨b0,b1,b2⟩:=bI hT3.hb rfl rfl rfl
    obtain⟨p0,p1⟩:=aR hT3.hp rfl rfl
    obtain⟨s0,s1,s2⟩:=bI hT3.hs rfl rfl rfl
    obtain⟨zs0,zs1,zs2⟩:=dQ hT3.hs
    obtain⟨g0,g1,g2⟩:=bI hT3.hg rfl rfl rfl
    obtain⟨zg0,zg1,zg2⟩:=dQ hT3.hg
    go_wp2
    refine bodyPost_ret (v:= .tuple #[.agg #[.int .i64 0, .slice none 0 0, .slice none 0 0], .agg #[.int .i64 0, .int .i64 0, .int .i64 0], .int .i64 9]) (by simp[results,Tryz.results101,go_sem,s0,s1,s2,g0,g1,g2]) rfl ?_
    exact kB.err hne ((((((hT3.below.setCell (p:=⟨w.heap.size+2,0,none⟩) (zA) _).setCell (p:=⟨w.heap.size+2,1,none⟩) (zA) _).setCell (p:=⟨w.heap.size+2,2,none⟩) (zA) _).setCell (p:=⟨w.heap.size+3,0,none⟩) (zA) _).setCell (p:=⟨w.heap.size+3,1,none⟩) (zA) _).setCell (p:=⟨w.heap.size+3,2,none⟩) (zA) _)
   |false=>
    have hE0:Hid (fJ vid rn rs sn ss c m=0):=hE2.out.trans (if_neg (by simp[hany]))
    have hv3:=fun W (hW:Below w.heap.size w W)=>cZ vid (some ⟨b,o,none⟩) rn rc rs sx sn sc ss W (hv.later hW) (by omega) (by omega) (fun i hi=>by have:=f3 i hi;omega) (fun i hi j hj=>by have:=f4 i hi j hj;omega)
    have r0':Hid (w.cell? ⟨b,o+i*3,none⟩=some (.int .i64 (aQ rs i).a)):=r0
    have r1':Hid (w.cell? ⟨b,o+i*3+1,none⟩=some (.int .i64 (aQ rs i).l)):=r1
    have r2':Hid (w.cell? ⟨b,o+i*3+2,none⟩=some (.int .i64 (aQ rs i).p)):=r2
    clear r0 r1 r2
    go_wp2_with fail
    refine(hda _ hany).mono ?_
    rintro e w3 ⟨rfl,hbw3⟩
    have hT3:=hT2.later hbw3
    clear b0 b1 b2 p0 p1 s0 zs0 s1 zs1 s2 zs2 g0 zg0 g1 zg1 g2 zg2
    obtain⟨b0,b1,b2⟩:=bI hT3.hb rfl rfl rfl
    obtain⟨p0,p1⟩:=aR hT3.hp rfl rfl
    obtain⟨s0,s1,s2⟩:=bI hT3.hs rfl rfl rfl
    obtain⟨zs0,zs1,zs2⟩:=dQ hT3.hs
    obtain⟨g0,g1,g2⟩:=bI hT3.hg rfl rfl rfl
    obtain⟨zg0,zg1,zg2⟩:=dQ hT3.hg
    go_wp2_with fail
    refine(hv3 _ hT3.below).mono ?_
    rintro e w5 ⟨vR,vS,ts,rfl,hOR,hss,hOS,hb5⟩
    have hT5:=hT3.later hb5
    obtain⟨xt,ct,rfl, -⟩:=hOS.subs
    obtain⟨k,hk⟩:∃k,rs.length=k+1:=⟨rs.length- 1,by have:=hi'.out;have:=hrl.out;omega⟩
    have hik:i<=k:=by have:=hi'.out;have:=hrl.out;omega
    have hk64:k<=64:=by have:=hrl.out;omega
    obtain⟨g,cap,hg5,cur,hgh,hcap1,hcap2,hvR⟩:∃g cap,w3.heap.size<=g/\∃cur,w5.heap[g]?=some (.cells cur 127)/\k+1<=cap/\cap<=9223372036854775807/\vR= .slice (some ⟨g,0,none⟩) (k+1) cap:=by
     obtain⟨x2,c2,hv2,h1,h2, -, -⟩:=hOR.mem;rcases hOR.2 with ⟨hv', -⟩|⟨g,cap,cur,hv',hg1,hg2, -⟩
     ·rw[hv']at hv2;simp only[Value.slice.injEq]at hv2;omega
     ·rw[hv']at hv2;simp only[Value.slice.injEq]at hv2;obtain⟨-, -,rfl⟩:=hv2;exact⟨g,cap,hg1,cur,hg2,by omega,h2,by rw[hv',hk]⟩
    subst hvR
    clear b0 b1 b2 p0 p1 s0 zs0 s1 zs1 s2 zs2 g0 zg0 g1 zg1 g2 zg2
    have hgl:g<w5.heap.size:=(zG hgh)
    go_upto_region 11 with fail
    obtain⟨w6,hw6⟩:∃w6,w6=w5.alloc (cY vid (.slice (some ⟨g,0,none⟩) (k+1) cap) (.slice xt ts.length ct)):=⟨_,rfl⟩
    rw[<-hw6]
    have hb56:Below w5.heap.size w5 w6:=by rw[hw6];exact bl1 _ _
    have hn6:w6.heap[w5.heap.size]?=some (cY vid (.slice (some ⟨g,0,none⟩) (k+1) cap) (.slice xt ts.length ct)):=by rw[hw6];exact aB _ rfl
    clear hw6
    have hT6:=hT5.later hb56
    have hg6:=aA hb56 hgh
    have hOR6:=bM.later hOR hb56
    have hOS6:=iR.later hOS hb56
    have n1:=aP hn6 1 rfl
    have hdel:=HH w3.heap.size g k cap i (i+1) rs w6 hOR6 hk hik rfl hk64 hcap1 hcap2
    rw[show((i+1:Nat):Int)=(i:Int)+1 by omega]at hdel
    go_wp2_with fail
    refine hdel.mono ?_
    rintro e w7 ⟨rfl,hO7,hg7⟩
    clear n1 hdel
    have hsz3:w.heap.size+3<w3.heap.size:=(zG hT3.hg)
    have hn7:=cN hg7 (by omega) hn6
    have hb7:=cN hg7 (by omega) hT6.hb
    have hs7:=cN hg7 (by omega) hT6.hs
    have hr7:=cN hg7 (by omega) hT6.hg
    have hB7:=dN hT6.below hg7 (fun q e=>by cases e;omega)
    have hOS7:iR w7 w3.heap.size (.slice xt ts.length ct) ts ts.length:=⟨hOS6.row.kept hg7 (fun q hq e=>by subst e;exact hOS6.row.ne hg6 (by decide) hq),fun j hj=>(hOS6.own j hj).kept_of hg7 hg6 (by decide) (by decide),hOS6.apart⟩
    have m1:=aP hn7 1 rfl
    have zm:=(aC hn7).2 1
    go_upto_region 12 with fail
    clear m1 zm
    obtain⟨w8,hw8⟩:∃w8,w8=w7.setCell ⟨w5.heap.size,1,none⟩ (.slice (some ⟨g,0,none⟩) k cap):=⟨_,rfl⟩
    rw[<-hw8]
    have hn8:w8.heap[w5.heap.size]?=some (cY vid (.slice (some ⟨g,0,none⟩) k cap) (.slice xt ts.length ct)):=by
     rw[hw8];have:=heap_setCell_same w7 w5.heap.size 1 _ _ (.slice (some ⟨g,0,none⟩) k cap) hn7;simpa using this
    have hz35:=hb5.size
    have hq1:w.heap.size≠w5.heap.size:=by omega
    have hq2:w.heap.size+2≠w5.heap.size:=by omega
    have hq3:w.heap.size+3≠w5.heap.size:=by omega
    have hb8:w8.heap[w.heap.size]?=some (cY vid (.slice (some ⟨b,o,none⟩) rn rc) (.slice sx sn sc)):=by rw[hw8];exact(zB hq1).trans hb7
    have hs8:w8.heap[w.heap.size+2]?=some (cY 0 (.slice none 0 0) (.slice none 0 0)):=by rw[hw8];exact(zB hq2).trans hs7
    have hr8:w8.heap[w.heap.size+3]?=some (.cells #[.int .i64 0, .int .i64 0, .int .i64 0] 127):=by rw[hw8];exact(zB hq3).trans hr7
    have hB8:Below w.heap.size w w8:=by rw[hw8];exact hB7.setCell (p:=⟨w5.heap.size,1,none⟩) (by show w.heap.size<=w5.heap.size;omega) _
    have hO8:bM w8 w3.heap.size (.slice (some ⟨g,0,none⟩) k cap) (rs.take i++rs.drop (i+1)):=by rw[hw8];exact hO7.putBox hn7 (by decide)
    have hOS8:iR w8 w3.heap.size (.slice xt ts.length ct) ts ts.length:=by rw[hw8];exact hOS7.putBox hn7 (by decide) (by decide) (by decide)
    clear hw8
    obtain⟨n0,n1,n2⟩:=bI hn8 rfl rfl rfl
    have b1:=aP hb8 1 rfl
    have r0:=cell_later hB8 r0'.out
    have r1:=cell_later hB8 r1'.out
    have r2:=cell_later hB8 r2'.out
    obtain⟨s0,s1,s2⟩:=bI hs8 rfl rfl rfl
    obtain⟨zs0,zs1,zs2⟩:=dQ hs8
    obtain⟨g0,g1,g2⟩:=bI hr8 rfl rfl rfl
    obtain⟨zg0,zg1,zg2⟩:=dQ hr8
    have hbq:=hbw.out
    go_region_held3 (fun w'=>w'.cell? ⟨w5.heap.size,0,none⟩=some (.int .i64 vid)/\w'.cell? ⟨w5.heap.size,1,none⟩=some (.slice (some ⟨g,0,none⟩) k cap)/\w'.cell? ⟨w5.heap.size,2,none⟩=some (.slice xt ts.length ct)/\w'.cell? ⟨w.heap.size,1,none⟩=some (.slice (some ⟨b,o,none⟩) rn rc)/\w'.cell? ⟨b,o+i*3,none⟩=some (.int .i64 (aQ rs i).a)/\w'.cell? ⟨b,o+i*3+1,none⟩=some (.int .i64 (aQ rs i).l)/\w'.cell? ⟨b,o+i*3+2,none⟩=some (.int .i64 (aQ rs i).p)) (first|(refine⟨?_,?_,?_,?_,?_,?_,?_⟩<;>((try rw[OF]);(repeat rw[aY (by omega)]);assumption))) (fail)
    all_goals go_wp2
    have hp2:w.heap.size+2<w3.heap.size:=by omega
    have hp3:w.heap.size+3<w3.heap.size:=by omega
    have hfin:=Below.drew ((((((hB8.setCell (p:=⟨w.heap.size+2,0,none⟩) (zA) (.int .i64 vid)).setCell (p:=⟨w.heap.size+2,1,none⟩) (zA) (.slice (some ⟨g,0,none⟩) k cap)).setCell (p:=⟨w.heap.size+2,2,none⟩) (zA) (.slice xt ts.length ct)).setCell (p:=⟨w.heap.size+3,0,none⟩) (zA) (.int .i64 (aQ rs i).a)).setCell (p:=⟨w.heap.size+3,1,none⟩) (zA) (.int .i64 (aQ rs i).l)).setCell (p:=⟨w.heap.size+3,2,none⟩) (zA) (.int .i64 (aQ rs i).p))
    have hor:=bM.drew ((((((hO8.put (o:=0) (u:=(.int .i64 vid)) hp2).put (o:=1) (u:=(.slice (some ⟨g,0,none⟩) k cap)) hp2).put (o:=2) (u:=(.slice xt ts.length ct)) hp2).put (o:=0) (u:=(.int .i64 (aQ rs i).a)) hp3).put (o:=1) (u:=(.int .i64 (aQ rs i).l)) hp3).put (o:=2) (u:=(.int .i64 (aQ rs i).p)) hp3)
    have hos:=iR.later ((((((hOS8.put (o:=0) (u:=(.int .i64 vid)) hp2).put (o:=1) (u:=(.slice (some ⟨g,0,none⟩) k cap)) hp2).put (o:=2) (u:=(.slice xt ts.length ct)) hp2).put (o:=0) (u:=(.int .i64 (aQ rs i).a)) hp3).put (o:=1) (u:=(.int .i64 (aQ rs i).l)) hp3).put (o:=2) (u:=(.int .i64 (aQ rs i).p)) hp3) (zD).drew
    refine bodyPost_ret (v:= .tuple #[.agg #[.int .i64 vid, .slice (some ⟨g,0,none⟩) k cap, .slice xt ts.length ct], .agg #[.int .i64 (aQ rs i).a, .int .i64 (aQ rs i).l, .int .i64 (aQ rs i).p], .int .i64 0]) (by simp[results,Tryz.results101,go_sem,s0,s1,s2,g0,g1,g2]) rfl ?_
    exact⟨_,aQ rs i,by rw[hE0.out],hfin,fun h=>absurd hE0.out h,fun _=>⟨ts,i,hss,hi'.out,hHf.out.1,hHf.out.2,rfl,HS.mk hor (by omega) hos.row (by omega) hos.ofa (by omega)⟩⟩
  ·have hsp':=hsp _ hfp;have hne:fJ vid rn rs sn ss c m=5/\(5:Int)≠0:=⟨hE1.out.trans (if_pos (by rw[hfp];decide)),by decide⟩;clear hfp hE1 hsp;go_wp2_with fail;refine(hsp').mono ?_;rintro e w2 ⟨rfl,hbw2⟩;have hT2:=hT1.later hbw2;clear b0 b1 b2 p0 p1 s0 zs0 s1 zs1 s2 zs2 g0 zg0 g1 zg1 g2 zg2;obtain⟨b0,b1,b2⟩:=bI hT2.hb rfl rfl rfl;obtain⟨p0,p1⟩:=aR hT2.hp rfl rfl;obtain⟨s0,s1,s2⟩:=bI hT2.hs rfl rfl rfl;obtain⟨zs0,zs1,zs2⟩:=dQ hT2.hs;obtain⟨g0,g1,g2⟩:=bI hT2.hg rfl rfl rfl;obtain⟨zg0,zg1,zg2⟩:=dQ hT2.hg;go_wp2;refine bodyPost_ret (v:= .tuple #[.agg #[.int .i64 0, .slice none 0 0, .slice none 0 0], .agg #[.int .i64 0, .int .i64 0, .int .i64 0], .int .i64 5]) (by simp[results,Tryz.results101,go_sem,s0,s1,s2,g0,g1,g2]) rfl ?_;exact kB.err hne ((((((hT2.below.setCell (p:=⟨w.heap.size+2,0,none⟩) (zA) _).setCell (p:=⟨w.heap.size+2,1,none⟩) (zA) _).setCell (p:=⟨w.heap.size+2,2,none⟩) (zA) _).setCell (p:=⟨w.heap.size+3,0,none⟩) (zA) _).setCell (p:=⟨w.heap.size+3,1,none⟩) (zA) _).setCell (p:=⟨w.heap.size+3,2,none⟩) (zA) _)
 ·have hne:fJ vid rn rs sn ss c m=bD vid rn rs sn ss/\bD vid rn rs sn ss≠0:=⟨if_pos hc0,hc0⟩;go_wp2_with fail;refine(hck).mono ?_;rintro e w1 ⟨rfl,hbw1⟩;have hT1:=hT0.later hbw1;clear b0 b1 b2 p0 p1 s0 zs0 s1 zs1 s2 zs2 g0 zg0 g1 zg1 g2 zg2;obtain⟨b0,b1,b2⟩:=bI hT1.hb rfl rfl rfl;obtain⟨p0,p1⟩:=aR hT1.hp rfl rfl;obtain⟨s0,s1,s2⟩:=bI hT1.hs rfl rfl rfl;obtain⟨zs0,zs1,zs2⟩:=dQ hT1.hs;obtain⟨g0,g1,g2⟩:=bI hT1.hg rfl rfl rfl;obtain⟨zg0,zg1,zg2⟩:=dQ hT1.hg;have hsp:=DF c m (w.heap.size+1) rx rn rc rs _ rfl w1 (hv.later hT1.below).ranges hrn p0 p1;generalize fstAt rn (rpB rs c m)=fp at hsp;go_wp2_with fail;refine(hsp).mono ?_;rintro e w2 ⟨rfl,hbw2⟩;have hT2:=hT1.later hbw2;clear b0 b1 b2 p0 p1 s0 zs0 s1 zs1 s2 zs2 g0 zg0 g1 zg1 g2 zg2;obtain⟨b0,b1,b2⟩:=bI hT2.hb rfl rfl rfl;obtain⟨p0,p1⟩:=aR hT2.hp rfl rfl;obtain⟨s0,s1,s2⟩:=bI hT2.hs rfl rfl rfl;obtain⟨zs0,zs1,zs2⟩:=dQ hT2.hs;obtain⟨g0,g1,g2⟩:=bI hT2.hg rfl rfl rfl;obtain⟨zg0,zg1,zg2⟩:=dQ hT2.hg;go_wp2;refine bodyPost_ret (v:= .tuple #[.agg #[.int .i64 0, .slice none 0 0, .slice none 0 0], .agg #[.int .i64 0, .int .i64 0, .int .i64 0], .int .i64 (bD vid rn rs sn ss)]) (by simp[results,Tryz.results101,go_sem,s0,s1,s2,g0,g1,g2]) rfl ?_;exact kB.err hne ((((((hT2.below.setCell (p:=⟨w.heap.size+2,0,none⟩) (zA) _).setCell (p:=⟨w.heap.size+2,1,none⟩) (zA) _).setCell (p:=⟨w.heap.size+2,2,none⟩) (zA) _).setCell (p:=⟨w.heap.size+3,0,none⟩) (zA) _).setCell (p:=⟨w.heap.size+3,1,none⟩) (zA) _).setCell (p:=⟨w.heap.size+3,2,none⟩) (zA) _)
def tH(vid:Int)(rn:Nat)(rs:List Rg)(sn:Nat)(ss:List Sb)(sub id:Int):Int:=
 if bD vid rn rs sn ss≠0 then bD vid rn rs sn ss else if fstAt sn (fun i=>(sbAt ss i).id==sub)<0 then 5 else if fstAt (sbAt ss (fstAt sn (fun i=>(sbAt ss i).id==sub)).toNat).n (fun j=>(fcAt (sbAt ss (fstAt sn (fun i=>(sbAt ss i).id==sub)).toNat).fs j).id==id)<0 then 5 else 0
structure fY(sn:Nat)(ss:List Sb)(sub id:Int)(i j:Nat):Prop where
 isn:i<sn
 sid:(sbAt ss i).id=sub
 sno:∀k,k<i->(sbAt ss k).id≠sub
 jn:j<(sbAt ss i).n
 fid:(fcAt (sbAt ss i).fs j).id=id
 fno:∀k,k<j->(fcAt (sbAt ss i).fs k).id≠id
def oS(vid:Int)(rn:Nat)(rs:List Rg)(sn:Nat)(ss:List Sb)(sub id:Int)(w:World)(e:Ending)(w':World):Prop:=
 ∃i j:Nat,e= .returned (.tuple #[.int .i64 i, .int .i64 j, .int .i64 (tH vid rn rs sn ss sub id)])/\Below w.heap.size w w'/\(tH vid rn rs sn ss sub id≠0->i=0/\j=0)/\(tH vid rn rs sn ss sub id=0->bD vid rn rs sn ss=0/\fY sn ss sub id i j)
theorem oS.err{rs:List Rg}{sub id:Int}(hE:tH vid rn rs sn ss sub id=E/\E≠0)(hb:Below w.heap.size w w'):
  oS vid rn rs sn ss sub id w (.returned (.tuple #[.int .i64 0, .int .i64 0, .int .i64 E])) w':=
 ⟨0,0,by rw[hE.1];rfl,hb,fun _=>⟨rfl,rfl⟩,fun h=>absurd (hE.1.symm.trans h) hE.2⟩
structure TP(w W:World)(vid:Int)(rx:Option Addr)(rn rc:Nat)(sx:Option Addr)(sn sc:Nat):Prop where
 hb:W.heap[w.heap.size]?=some (.cells #[.int .i64 vid, .slice rx rn rc, .slice sx sn sc] 92)
 below:Below w.heap.size w W
theorem TP.later(h:TP w W vid rx rn rc sx sn sc)(hb:Below W.heap.size W W'):TP w W' vid rx rn rc sx sn sc:=
 ⟨aA hb h.hb,h.below.trans (hb.mono h.below.size)⟩
theorem wQ(vid:Int)(rx:Option Addr)(rn rc:Nat)(rs:List Rg)(sx:Option Addr)(sn sc:Nat)(ss:List Sb)(sub id:Int)(w:World)(hv:Vp w rx rn rc rs sx sn sc ss)(hrn:rn<=9223372036854775807)(hsn:sn<=9223372036854775807)(hrc:rc<=9223372036854775807):
  Calls Tryz.prog 174 #[.agg #[.int .i64 vid, .slice rx rn rc, .slice sx sn sc], .int .i64 sub, .int .i64 id] w (oS vid rn rs sn ss sub id w):=by
 go_enter Tryz.func174,Tryz.ntmps174;go_upto_region 1 with fail
 obtain⟨w0,hw0⟩:∃w0,w0=w.alloc (cY vid (.slice rx rn rc) (.slice sx sn sc)):=⟨_,rfl⟩;rw[<-hw0];have hT0:TP w w0 vid rx rn rc sx sn sc:=by
  rw[hw0];exact⟨aB _ rfl,bl1 w _⟩
 clear hw0;obtain⟨b0,b1,b2⟩:=bI hT0.hb rfl rfl rfl;have hck:=checkV_any vid rx rn rc rs sx sn sc ss w0 (hv.later hT0.below) hrn hsn hrc;by_cases hc0:bD vid rn rs sn ss=0
 ·rw[hc0]at hck;obtain⟨f1,f2,f3,f4⟩:=dU hc0;have hE1:Hid (tH vid rn rs sn ss sub id=if fstAt sn (fun i=>(sbAt ss i).id==sub)<0 then 5 else if fstAt (sbAt ss (fstAt sn (fun i=>(sbAt ss i).id==sub)).toNat).n (fun j=>(fcAt (sbAt ss (fstAt sn (fun i=>(sbAt ss i).id==sub)).toNat).fs j).id==id)<0 then 5 else 0):=if_neg (c:=bD vid rn rs sn ss≠0) (by simp[hc0]);have hcz:Hid (bD vid rn rs sn ss=0):=hc0;clear hc0;go_wp2_with fail;refine(hck).mono ?_;rintro e w1 ⟨rfl,hbw1⟩;have hT1:=hT0.later hbw1;clear b0 b1 b2;obtain⟨b0,b1,b2⟩:=bI hT1.hb rfl rfl rfl;have hsp:=fun t h=>wP vid sub rx rn rc sx sn sc ss t h w1 (hv.later hT1.below).subs (by omega);rcases fstAt_cases sn (fun i=>(sbAt ss i).id==sub)with ⟨i,hi,hf,hno,hfp⟩|⟨-,hfp⟩
  ·have hsp':=hsp _ hfp;clear hsp;have hE2:Hid (tH vid rn rs sn ss sub id=if fstAt (sbAt ss i).n (fun j=>(fcAt (sbAt ss i).fs j).id==id)<0 then 5 else 0):=by
    have:=hE1.out;rw[hfp]at this;rw[if_neg (by omega)]at this;unfold Hid;simpa using this
   clear hfp hE1;have hHf:Hid ((sbAt ss i).id=sub/\∀j,j<i->(sbAt ss j).id≠sub):=⟨by simpa using hf,fun j hj=>by simpa using hno j hj⟩;clear hf hno;have hi':Hid (i<sn):=hi;have hn8:=f3 i hi;obtain⟨b,o,rfl,c0,c1,c2,c3⟩:=hv.subs.cells i hi;go_wp2_with fail;refine(hsp').mono ?_;rintro e w2 ⟨rfl,hbw2⟩;have hT2:=hT1.later hbw2;clear b0 b1 b2;obtain⟨b0,b1,b2⟩:=bI hT2.hb rfl rfl rfl;have d0:=cell_later hT2.below c0;have d1:=cell_later hT2.below c1;have d2:=cell_later hT2.below c2;have d3:=cell_later hT2.below c3;clear c0 c1 c2 c3;have i0:(0:Int)<=i:=by omega
   have i1:(i:Int)<sn:=by omega
   have hfl:=fun t h=>E3 (sbAt ss i) id t h w2 ((hv.later hT2.below).subs.faces i hi).2.2 (by omega);rcases fstAt_cases (sbAt ss i).n (fun j=>(fcAt (sbAt ss i).fs j).id==id)with ⟨j,hj,hjf,hjno,hjp⟩|⟨-,hjp⟩
   ·have hfl':=hfl _ hjp;have hE0:Hid (tH vid rn rs sn ss sub id=0):=hE2.out.trans (if_neg (by rw[hjp];omega));have hHj:Hid (fY sn ss sub id i j):=⟨hi,hHf.out.1,hHf.out.2,hj,by simpa using hjf,fun k hk=>by simpa using hjno k hk⟩;clear hjp hE2 hfl hjf hjno;go_wp2_with fail;refine(hfl').mono ?_;rintro e w3 ⟨rfl,hbw3⟩;have hT3:=hT2.later hbw3;go_wp2;refine bodyPost_ret (v:= .tuple #[.int .i64 i, .int .i64 j, .int .i64 0]) (by simp[results,Tryz.results174,go_sem]) rfl ?_;exact⟨i,j,by rw[hE0.out],hT3.below,fun h=>absurd hE0.out h,fun _=>⟨hcz.out,hHj.out⟩⟩
   ·have hfl':=hfl _ hjp;have hne:tH vid rn rs sn ss sub id=5/\(5:Int)≠0:=⟨hE2.out.trans (if_pos (by rw[hjp];decide)),by decide⟩;clear hjp hE2 hfl;go_wp2_with fail;refine(hfl').mono ?_;rintro e w3 ⟨rfl,hbw3⟩;have hT3:=hT2.later hbw3;go_wp2;refine bodyPost_ret (v:= .tuple #[.int .i64 0, .int .i64 0, .int .i64 5]) (by simp[results,Tryz.results174,go_sem]) rfl ?_;exact oS.err hne hT3.below
  ·have hsp':=hsp _ hfp;have hne:tH vid rn rs sn ss sub id=5/\(5:Int)≠0:=⟨hE1.out.trans (if_pos (by rw[hfp];decide)),by decide⟩;clear hfp hE1 hsp;go_wp2_with fail;refine(hsp').mono ?_;rintro e w2 ⟨rfl,hbw2⟩;have hT2:=hT1.later hbw2;clear b0 b1 b2;obtain⟨b0,b1,b2⟩:=bI hT2.hb rfl rfl rfl;go_wp2;refine bodyPost_ret (v:= .tuple #[.int .i64 0, .int .i64 0, .int .i64 5]) (by simp[results,Tryz.results174,go_sem]) rfl ?_;exact oS.err hne hT2.below
 ·have hne:tH vid rn rs sn ss sub id=bD vid rn rs sn ss/\bD vid rn rs sn ss≠0:=⟨if_pos hc0,hc0⟩;go_wp2_with fail;refine(hck).mono ?_;rintro e w1 ⟨rfl,hbw1⟩;have hT1:=hT0.later hbw1;clear b0 b1 b2;obtain⟨b0,b1,b2⟩:=bI hT1.hb rfl rfl rfl;go_wp2;refine bodyPost_ret (v:= .tuple #[.int .i64 0, .int .i64 0, .int .i64 (bD vid rn rs sn ss)]) (by simp[results,Tryz.results174,go_sem]) rfl ?_;exact oS.err hne hT1.below
end Go.Proofs.YtjphnaccgfjnjaaGreatDoor
