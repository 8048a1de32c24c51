/- A part of the proof. -/
import Derived.Test.YtjphnaccgfjnjaaGreatDoorMK03
set_option maxRecDepth 100000
set_option maxHeartbeats 20000000
namespace Go.Proofs.YtjphnaccgfjnjaaGreatDoor
variable {w w' V W W1 W' w'' : World} {base g base' b n i j cap c k o c' m g2 : Nat} {v v' u : Value} {es ls' : List Le} {cs ds cur : Array Value} {t t' z E a l mn mx us co : Int} {fr : Nat × Nat} {ad : Addr} {x x' : Option Addr} {ps qs : List Po} {p e : Po} {T : TypeId} {r : Option Nat}
open Go.RowKit Go.Shelf
def cL(e:Le):List Value:=[.int .i64 e.a, .int .i64 e.l, .int .i64 e.kd, .int .i64 e.ow, .int .i64 e.un]
def flatL(es:List Le):List Value:=es.flatMap cL
theorem JH(e:Le):(cL e).length=5:=rfl
theorem gM:∀es:List Le,(flatL es).length=es.length*5:=mF JH
theorem uO(es fs:List Le):flatL (es++fs)=flatL es++flatL fs:=by simp[flatL]
theorem yU:∀(es:List Le) (i j:Nat),i<es.length->j<5->(flatL es)[i*5+j]?=(cL (aN es i))[j]?:=sG JH leZ
theorem pP(es:List Le):∀u∈flatL es,u.oneCell'=true:=fun u hu=>by
 obtain⟨e, -,hu⟩:=List.mem_flatMap.1 hu;simp only[cL,List.mem_cons,List.not_mem_nil,or_false]at hu;rcases hu with rfl|rfl|rfl|rfl|rfl<;>rfl
def cD(w:World)(base:Nat)(v:Value)(es:List Le):Prop:=w.ownsRow base 87 5 v es.length (flatL es)
theorem cD.later(h:cD w base v es)(hb:Below w.heap.size w w'):cD w' base v es:=eG h hb
theorem cD.kept(h:cD w base v es)(hg:w.grownBy w' (some g))(hne:∀k,v.ownBlock=some k->k≠g):cD w' base v es:=fN h hg hne
theorem cD.low(h:cD w base v es)(hb:base'<=base):cD w base' v es:=iV h hb
theorem cD.lt(h:cD w base v es):∀k,v.ownBlock=some k->base<=k/\k<w.heap.size:=World.ownsRow.lt h
theorem cD.ne{t:TypeId}(h:cD w base v es)(hb:w.heap[b]?=some (.cells cs t fr))(ht:t≠87):v.ownBlock≠some b:=jP h hb ht
theorem VG:Ty 87 83 5 (.agg #[.int .i64 0, .int .i64 0, .int .i64 0, .int .i64 0, .int .i64 0]) 40:=sF (by kernel_rfl) (by kernel_rfl) rfl (pP [leZ]) (by decide) (by decide)
theorem LS.flat_cells(h:LS w (some ad) n es):∀j u,(flatL es)[j]?=some u->w.cell? (ad.add j)=some u:=
 jO (by decide) JH leZ h.len fun i hi=>by
  obtain⟨b,o,hx,d0,d1,d2,d3,d4⟩:=h.cells i hi;exact⟨b,o,hx,by rintro(_|_|_|_|_|q) u hu<;>first|(cases hu;assumption)|simp[cL]at hu⟩
theorem LS.rw(h:LS w x n es):Rw w x n 5 (flatL es):=
 ⟨by rw[gM,h.len],fun h0 e=>(by obtain⟨b,o,hx, -⟩:=h.cells 0 h0;rw[e]at hx;cases hx),pP es,fun ad hx=>by subst hx;exact h.flat_cells⟩
theorem cD.mem(h:cD w base v es):∃x c,v= .slice x es.length c/\es.length<=c/\c<=9223372036854775807/\(x=none->es.length=0/\c=0)/\∀i,i<es.length->∃b o,x=some ⟨b,o,none⟩/\w.cell? ⟨b,o+i*5,none⟩=some (.int .i64 (aN es i).a)/\w.cell? ⟨b,o+i*5+1,none⟩=some (.int .i64 (aN es i).l)/\w.cell? ⟨b,o+i*5+2,none⟩=some (.int .i64 (aN es i).kd)/\w.cell? ⟨b,o+i*5+3,none⟩=some (.int .i64 (aN es i).ow)/\w.cell? ⟨b,o+i*5+4,none⟩=some (.int .i64 (aN es i).un):=by
 obtain⟨x,c,hv,h1,h2,h3,h4⟩:=kP h;refine⟨x,c,hv,h1,h2,h3,fun i hi=>?_⟩;obtain⟨b,o,hx,e⟩:=h4 i hi;have e:=fun j u hj hu=>e j u hj ((yU es i j hi hj).trans hu);exact⟨b,o,hx,e 0 _ (by decide) rfl,e 1 _ (by decide) rfl,e 2 _ (by decide) rfl,e 3 _ (by decide) rfl,e 4 _ (by decide) rfl⟩
def cP(e:Po):List Value:=[.int .i64 e.id, .int .i64 e.up, .int .i64 e.a, .int .i64 e.l, .int .i64 e.mn, .int .i64 e.mx, .int .i64 e.us, .int .i64 e.co, .slice e.x e.n e.c]
def flatP(es:List Po):List Value:=es.flatMap cP
theorem JI(e:Po):(cP e).length=9:=rfl
theorem eN:∀es:List Po,(flatP es).length=es.length*9:=mF JI
theorem CQ(es fs:List Po):flatP (es++fs)=flatP es++flatP fs:=by simp[flatP]
theorem lR:∀(es:List Po) (i j:Nat),i<es.length->j<9->(flatP es)[i*9+j]?=(cP (poAt es i))[j]?:=sG JI poZ
theorem pQ(es:List Po):∀u∈flatP es,u.oneCell'=true:=fun u hu=>by
 obtain⟨e, -,hu⟩:=List.mem_flatMap.1 hu;simp only[cP,List.mem_cons,List.not_mem_nil,or_false]at hu;rcases hu with rfl|rfl|rfl|rfl|rfl|rfl|rfl|rfl|rfl<;>rfl
def dD(w:World)(base:Nat)(v:Value)(es:List Po):Prop:=w.ownsRow base 85 9 v es.length (flatP es)
theorem dD.later{es:List Po}(h:dD w base v es)(hb:Below w.heap.size w w'):dD w' base v es:=eG h hb
theorem dD.kept{es:List Po}(h:dD w base v es)(hg:w.grownBy w' (some g))(hne:∀k,v.ownBlock=some k->k≠g):dD w' base v es:=fN h hg hne
theorem dD.low{es:List Po}(h:dD w base v es)(hb:base'<=base):dD w base' v es:=iV h hb
theorem dD.lt{es:List Po}(h:dD w base v es):∀k,v.ownBlock=some k->base<=k/\k<w.heap.size:=World.ownsRow.lt h
theorem dD.ne{es:List Po}{t:TypeId}(h:dD w base v es)(hb:w.heap[b]?=some (.cells cs t fr))(ht:t≠85):v.ownBlock≠some b:=jP h hb ht
theorem YH:Ty 85 35 9 (.agg #[.int .i64 0, .int .i64 0, .int .i64 0, .int .i64 0, .int .i64 0, .int .i64 0, .int .i64 0, .int .i64 0, .slice none 0 0]) 88:=sF (by kernel_rfl) (by kernel_rfl) rfl (pQ [poZ]) (by decide) (by decide)
theorem mX.flat_cells{es:List Po}(h:mX w (some ad) n es):∀j u,(flatP es)[j]?=some u->w.cell? (ad.add j)=some u:=
 jO (by decide) JI poZ h.len fun i hi=>by
  obtain⟨b,o,hx,d0,d1,d2,d3,d4,d5,d6,d7,d8⟩:=h.cells i hi;exact⟨b,o,hx,by rintro(_|_|_|_|_|_|_|_|_|q) u hu<;>first|(cases hu;assumption)|simp[cP]at hu⟩
theorem mX.rw{es:List Po}(h:mX w x n es):Rw w x n 9 (flatP es):=
 ⟨by rw[eN,h.len],fun h0 e=>(by obtain⟨b,o,hx, -⟩:=h.cells 0 h0;rw[e]at hx;cases hx),pQ es,fun ad hx=>by subst hx;exact h.flat_cells⟩
theorem dD.mem{es:List Po}(h:dD w base v es):∃x c,v= .slice x es.length c/\es.length<=c/\c<=9223372036854775807/\(x=none->es.length=0/\c=0)/\∀i,i<es.length->∃b o,x=some ⟨b,o,none⟩/\w.cell? ⟨b,o+i*9,none⟩=some (.int .i64 (poAt es i).id)/\w.cell? ⟨b,o+i*9+1,none⟩=some (.int .i64 (poAt es i).up)/\w.cell? ⟨b,o+i*9+2,none⟩=some (.int .i64 (poAt es i).a)/\w.cell? ⟨b,o+i*9+3,none⟩=some (.int .i64 (poAt es i).l)/\w.cell? ⟨b,o+i*9+4,none⟩=some (.int .i64 (poAt es i).mn)/\w.cell? ⟨b,o+i*9+5,none⟩=some (.int .i64 (poAt es i).mx)/\w.cell? ⟨b,o+i*9+6,none⟩=some (.int .i64 (poAt es i).us)/\w.cell? ⟨b,o+i*9+7,none⟩=some (.int .i64 (poAt es i).co)/\w.cell? ⟨b,o+i*9+8,none⟩=some (.slice (poAt es i).x (poAt es i).n (poAt es i).c):=by
 obtain⟨x,c,hv,h1,h2,h3,h4⟩:=kP h;refine⟨x,c,hv,h1,h2,h3,fun i hi=>?_⟩;obtain⟨b,o,hx,e⟩:=h4 i hi;have e:=fun j u hj hu=>e j u hj ((lR es i j hi hj).trans hu);exact⟨b,o,hx,e 0 _ (by decide) rfl,e 1 _ (by decide) rfl,e 2 _ (by decide) rfl,e 3 _ (by decide) rfl,e 4 _ (by decide) rfl,e 5 _ (by decide) rfl,e 6 _ (by decide) rfl,e 7 _ (by decide) rfl,e 8 _ (by decide) rfl⟩
theorem JJ(x:Option Addr)(n c:Nat)(es:List Le)(w:World)(hl:LS w x n es)(hn:n<=1048576):
  Calls Tryz.prog 77 #[.slice x n c] w fun e w'=>∃v,e= .returned v/\cD w' w.heap.size v es/\Below w.heap.size w w':=by
 obtain rfl:=hl.len;exact nX.1 _ _ VG x _ c _ w hl.rw hn
theorem JK(x:Option Addr)(n c:Nat)(es:List Po)(w:World)(hl:mX w x n es)(hn:n<=1048576):
  Calls Tryz.prog 76 #[.slice x n c] w fun e w'=>∃v,e= .returned v/\dD w' w.heap.size v es/\Below w.heap.size w w':=by
 obtain rfl:=hl.len;exact nX.2.1 _ _ YH x _ c _ w hl.rw hn
def aW(p:Po)(x:Option Addr)(n c:Nat)(ls:List Le):Po:=⟨p.id,p.up,p.a,p.l,p.mn,p.mx,p.us,p.co,x,n,c,ls⟩
theorem dF(hi:i<ps.length):poAt (ps.set i p) j=if i=j then p else poAt ps j:=by
 unfold poAt;rw[zF,zF,List.getElem?_set];by_cases h:i=j
 ·subst h;rw[if_pos rfl,if_pos rfl,if_pos hi];rfl
 ·rw[if_neg h,if_neg h]
theorem NF(ps:List Po)(i:Nat)(x:Option Addr)(n c:Nat)(ls:List Le)(hi:i<ps.length):(flatP ps).set (i*9+8) (.slice x n c)=flatP (ps.set i (aW (poAt ps i) x n c ls)):=by
 refine List.ext_getElem? fun j=>?_;by_cases hj:j<ps.length*9
 ·have e:j=(j/9)*9+j%9:=by omega
  have hq:j/9<ps.length:=by omega
  rw[e,lR _ _ _ (by rw[List.length_set];exact hq) (by omega),dF hi,List.getElem?_set];by_cases h1:i=j/9
  ·rw[if_pos h1];by_cases h2:j%9=8
   ·rw[if_pos (by omega),if_pos (by rw[eN];omega),h2];rfl
   ·rw[if_neg (by omega),lR _ _ _ hq (by omega),h1];have h3:j%9<8:=by omega
    generalize j%9=r at h3;rcases r with _|_|_|_|_|_|_|_|r
    all_goals first|rfl|omega
  ·rw[if_neg h1,if_neg (by omega),lR _ _ _ hq (by omega)]
 ·rw[List.getElem?_eq_none (by rw[List.length_set,eN];omega),List.getElem?_eq_none (by rw[eN,List.length_set];omega)]
theorem dD.set(h:dD w base (.slice (some ⟨g,0,none⟩) n cap) ps)(i:Nat)(hi:i<ps.length)(x:Option Addr)(m c:Nat)(ls:List Le):
  dD (w.setCell ⟨g,i*9+8,none⟩ (.slice x m c)) base (.slice (some ⟨g,0,none⟩) n cap) (ps.set i (aW (poAt ps i) x m c ls)):=by
 rcases h.2 with ⟨hv, -⟩|⟨g',cap',cur,hv,h1,h2,h3,h4,h5,h6⟩
 ·simp at hv
 ·simp only[Value.slice.injEq,Option.some.injEq,Addr.mk.injEq]at hv;obtain⟨⟨rfl, -⟩,rfl,rfl⟩:=hv;refine⟨eN _, .inr ⟨g,cap,cur.setIfInBounds (i*9+8) (.slice x m c),by rw[List.length_set],h1,heap_setCell_same w g _ _ _ _ h2,by rw[List.length_set];exact h3,h4,by simpa using h5,?_⟩⟩;rw[List.length_set,Array.toList_setIfInBounds,List.take_set,h6,NF ps i x m c ls hi]
theorem aI(w:World)(g o:Nat)(v:Value):w.grownBy (w.setCell ⟨g,o,none⟩ v) (some g):=by
 refine⟨rfl,rfl,rfl,by simp,fun k _ hne=>zB (fun e=>hne (by rw[e]))⟩
theorem dD.frozen(h:dD w base (.slice (some ⟨g,0,none⟩) n cap) ps)(i:Nat):w.frozen? ⟨g,i,none⟩=false:=mG h i
theorem cD.ls(h:cD w base (.slice x n c) es):LS w x n es/\es.length=n/\n<=c/\c<=9223372036854775807:=by
 obtain⟨x',c',hv,h1,h2, -,h4⟩:=h.mem;simp only[Value.slice.injEq]at hv;obtain⟨rfl,rfl,rfl⟩:=hv;exact⟨⟨rfl,h4⟩,rfl,h1,h2⟩
structure dJ(w:World)(base:Nat)(v:Value)(ps:List Po)(k:Nat):Prop where
 row:dD w base v ps
 own:∀i,i<k->cD w base (.slice (poAt ps i).x (poAt ps i).n (poAt ps i).c) (poAt ps i).ls
 rest:∀i,k<=i->i<ps.length->LS w (poAt ps i).x (poAt ps i).n (poAt ps i).ls/\(poAt ps i).n<=(poAt ps i).c/\(poAt ps i).n<=1048576/\(∀q,(poAt ps i).x=some q->0<(poAt ps i).n->q.block<base)
 apart:∀i j,i<k->j<k->i≠j->∀b,(Value.slice (poAt ps i).x (poAt ps i).n (poAt ps i).c).ownBlock=some b->(Value.slice (poAt ps j).x (poAt ps j).n (poAt ps j).c).ownBlock≠some b
def nA(p q:Po):Prop:=p.id=q.id/\p.up=q.up/\p.a=q.a/\p.l=q.l/\p.mn=q.mn/\p.mx=q.mx/\p.us=q.us/\p.co=q.co/\p.n=q.n/\p.ls=q.ls
def cB(ps qs:List Po):Prop:=ps.length=qs.length/\∀i,i<ps.length->nA (poAt ps i) (poAt qs i)
theorem nA.refl(p:Po):nA p p:=⟨rfl,rfl,rfl,rfl,rfl,rfl,rfl,rfl,rfl,rfl⟩
theorem cB.refl(ps:List Po):cB ps ps:=⟨rfl,fun _ _=>nA.refl _⟩
theorem dJ.bk(h:dJ w base v ps ps.length)(hs:∀i,i<ps.length->(poAt ps i).n<=1048576):∃x c,v= .slice x ps.length c/\Bk w x ps.length c ps:=by
 obtain⟨x,c,hv,h1,h2,h3,h4⟩:=h.row.mem;exact⟨x,c,hv,⟨rfl,h4,fun i hi=>by
  obtain⟨g1,g2,g3, -⟩:=(h.own i hi).ls;exact⟨g3,hs i hi,g1⟩⟩,h1,h2⟩
theorem dJ.later(h:dJ w base v ps k)(hb:Below w.heap.size w w'):dJ w' base v ps k:=
 ⟨h.row.later hb,fun i hi=>(h.own i hi).later hb,fun i hi hi2=>by
  obtain⟨g1,g2⟩:=h.rest i hi hi2;exact⟨g1.later hb,g2⟩,h.apart⟩
abbrev eZ(t:Int)(v:Value):Obj:= .cells #[.int .i64 t,v] 37
theorem VH(h:V.heap[b]?=some (eZ t v)):((V.setCell ⟨b,0,none⟩ (.int .i64 t')).setCell ⟨b,1,none⟩ v').heap[b]?=some (eZ t' v'):=by
 have h1:=heap_setCell_same V b 0 _ 37 (.int .i64 t') h;have h2:=heap_setCell_same _ b 1 _ 37 v' h1;simpa using h2
def NG(t:Int)(ps:List Po)(w:World)(e:Ending)(w':World):Prop:=
 ∃v qs,e= .returned (.agg #[.int .i64 t,v])/\cB ps qs/\dJ w' w.heap.size v qs qs.length/\Below w.heap.size w w'
theorem dJ.start{base x n c v ps}(hk:Bk w x n c ps)(hb:Below w.heap.size w w')(h:dD w' base v ps)(hw2:w.heap.size<=base):dJ w' base v ps 0 where
 row:=h
 own:=fun i hi=>by omega
 rest:=fun i _ hi=>by
  obtain⟨g1,g2,g3⟩:=hk.ps.leases i (by rw[<-hk.ps.len];exact hi);refine⟨g3.later hb,g1,g2,fun q hq h0=>?_⟩;obtain⟨b,o,hx,c0, -⟩:=g3.cells 0 h0;rw[hq]at hx
  cases hx;exact Nat.lt_of_lt_of_le (block_lt_of_cell c0) hw2
 apart:=fun i j hi=>by omega
theorem LS.set{ls:List Le}(h:LS w x n ls)(hx:∀q,x=some q->0<n->q.block≠g):LS (w.setCell ⟨g,o,none⟩ v) x n ls where
 len:=h.len
 cells:=fun i hi=>by
  obtain⟨b,of,he,c0,c1,c2,c3,c4⟩:=h.cells i hi;have hne:b≠g:=hx _ he (by omega);exact⟨b,of,he,(aY hne).trans c0,(aY hne).trans c1,(aY hne).trans c2,(aY hne).trans c3,(aY hne).trans c4⟩
theorem dD.block(h:dD w base (.slice (some ⟨g,0,none⟩) n cap) ps):base<=g/\∃cur,w.heap[g]?=some (.cells cur 85):=pI h
theorem dJ.step(h:dJ W base (.slice (some ⟨g,0,none⟩) n cap) qs k)(hk:k<qs.length)(hb:Below W.heap.size W W1)(ho:cD W1 W.heap.size (.slice x' (poAt qs k).ls.length c') (poAt qs k).ls)(hwb:base<=W.heap.size):
  dJ (W1.setCell ⟨g,k*9+8,none⟩ (.slice x' (poAt qs k).ls.length c')) base (.slice (some ⟨g,0,none⟩) n cap) (qs.set k (aW (poAt qs k) x' (poAt qs k).ls.length c' (poAt qs k).ls)) (k+1):=by
 have hr:=h.row.later hb;obtain⟨hbg,cur,hg⟩:=hr.block;have hall:∀i,i<k+1->cD W1 base (.slice (poAt (qs.set k (aW (poAt qs k) x' (poAt qs k).ls.length c' (poAt qs k).ls)) i).x (poAt (qs.set k (aW (poAt qs k) x' (poAt qs k).ls.length c' (poAt qs k).ls)) i).n (poAt (qs.set k (aW (poAt qs k) x' (poAt qs k).ls.length c' (poAt qs k).ls)) i).c) (poAt (qs.set k (aW (poAt qs k) x' (poAt qs k).ls.length c' (poAt qs k).ls)) i).ls:=fun i hi=>by
  rw[dF hk];by_cases e:k=i
  ·rw[if_pos e];exact ho.low hwb
  ·rw[if_neg e];exact(h.own i (by omega)).later hb
 refine⟨hr.set k hk x' _ c' _,fun i hi=>(hall i hi).kept (aI _ _ _ _) (fun q hq e=>by subst e;exact(hall i hi).ne hg (by decide) hq),fun i hi hi2=>?_,fun i j hi hj hij b hbi hbj=>?_⟩
 ·rw[List.length_set]at hi2;rw[dF hk,if_neg (by omega)];obtain⟨g1,g2,g3,g4⟩:=h.rest i (by omega) hi2;exact⟨(g1.later hb).set (fun q hq h0=>by have:=g4 q hq h0;omega),g2,g3,g4⟩
 ·rw[dF hk]at hbi hbj;by_cases e:k=i
  ·rw[if_pos e]at hbi;rw[if_neg (by omega)]at hbj;have h1:=ho.lt b hbi;have h2:=(h.own j (by omega)).lt b hbj;omega
  ·rw[if_neg e]at hbi;by_cases e2:k=j
   ·rw[if_pos e2]at hbj;have h1:=ho.lt b hbj;have h2:=(h.own i (by omega)).lt b hbi;omega
   ·rw[if_neg e2]at hbj;exact h.apart i j (by omega) (by omega) hij b hbi hbj
theorem dJ.low(h:dJ w base v ps ps.length)(hb:base'<=base):dJ w base' v ps ps.length:=
 ⟨h.row.low hb,fun i hi=>(h.own i hi).low hb,fun i hi hi2=>by omega,h.apart⟩
theorem dJ.put(h:dJ w base v ps ps.length)(hb:b<base):dJ (w.setCell ⟨b,o,none⟩ u) base v ps ps.length:=
 ⟨h.row.kept (aI _ _ _ _) (fun k hk=>by have:=h.row.lt k hk;omega),fun i hi=>(h.own i hi).kept (aI _ _ _ _) (fun k hk=>by have:=(h.own i hi).lt k hk;omega),fun i hi hi2=>by omega,h.apart⟩
theorem cB.set(h:cB ps qs)(hk:k<qs.length)(hn:(poAt qs k).ls.length=(poAt qs k).n):cB ps (qs.set k (aW (poAt qs k) x (poAt qs k).ls.length c (poAt qs k).ls)):=by
 refine⟨by rw[List.length_set];exact h.1,fun i hi=>?_⟩;have hs:=h.2 i hi;rw[dF hk];by_cases e:k=i
 ·subst e;rw[if_pos rfl];obtain⟨a1,a2,a3,a4,a5,a6,a7,a8,a9,a10⟩:=hs;exact⟨a1,a2,a3,a4,a5,a6,a7,a8,a9.trans hn.symm,a10⟩
 ·rw[if_neg e];exact hs
theorem dZ(t:Int)(x:Option Addr)(n c:Nat)(ps:List Po)(w:World)(hk:Bk w x n c ps)(hn:n<=64):
  Calls Tryz.prog 44 #[.agg #[.int .i64 t, .slice x n c]] w (NG t ps w):=by
 have hpl:Hid (ps.length=n):=hk.ps.len;go_enter Tryz.func44,Tryz.ntmps44;go_upto_region 1 with fail
 obtain⟨w0,hw0⟩:∃w0,w0=(w.alloc (eZ t (.slice x n c))).alloc (eZ 0 (.slice none 0 0)):=⟨_,rfl⟩;rw[<-hw0];have hB0:Below w.heap.size w w0:=by rw[hw0];exact bO w _ _
 have hb0:w0.heap[w.heap.size]?=some (eZ t (.slice x n c)):=by rw[hw0];exact aG _ (aB _ rfl)
 have hr0:w0.heap[w.heap.size+1]?=some (eZ 0 (.slice none 0 0)):=by rw[hw0];exact aB _ (by simp)
 clear hw0;have hsz:w.heap.size+1<w0.heap.size:=(zG hr0);obtain⟨kb, -⟩:=aC hb0;have k0:w0.cell? ⟨w.heap.size,0,none⟩=some (.int .i64 t):=kb 0;have k1:w0.cell? ⟨w.heap.size,1,none⟩=some (.slice x n c):=kb 1;clear kb;have hcl:=fun W h=>JK x n c ps W h (by omega);go_cut [3] (fun p wc=>∃nb v,p= .pointer (some ⟨nb,0,none⟩)/\w0.heap.size<=nb/\dD wc w0.heap.size v ps/\wc.heap[nb]?=some (eZ t v)/\Below w0.heap.size w0 wc)
 case first=>
  go_region_held3 (fun w'=>w'.cell? ⟨w.heap.size,0,none⟩=some (.int .i64 t)/\w'.cell? ⟨w.heap.size,1,none⟩=some (.slice x n c)) (first|(exact⟨(aF hb1 (by first|exact k0|exact aF (bl1 _ _).drew k0)),(aF hb1 (by first|exact k1|exact aF (bl1 _ _).drew k1))⟩)|(exact⟨aF (bl1 _ _) (aF hb1 (by first|exact k0|exact aF (bl1 _ _).drew k0)),aF (bl1 _ _) (aF hb1 (by first|exact k1|exact aF (bl1 _ _).drew k1))⟩)|(exact⟨aF (bl1 _ _) k0,aF (bl1 _ _) k1⟩)|(exact⟨((aY (by omega)).trans ((aY (by omega)).trans (aF hb1 (by first|exact k0|exact aF (bl1 _ _).drew k0)))),((aY (by omega)).trans ((aY (by omega)).trans (aF hb1 (by first|exact k1|exact aF (bl1 _ _).drew k1))))⟩)|(go_keep;done)) (first|(go_at_call 76;refine(hcl _ (by first|exact hk.ps.later hB0.drew|exact hk.ps.later ((hB0.drew.alloc hB0.size _))|exact hk.ps.later ((hB0.alloc hB0.size _).drew))).mono ?_;rintro e w1 ⟨v1,rfl,hO1,hb1⟩;obtain⟨x1,c1,rfl,h11,h12,h13,h14⟩:=hO1.mem;try(have hx:w1.heap[w0.heap.size]?=some (eZ 0 (.slice none 0 0)):=aA hb1 (aB (W:=w0) _ rfl);have q0:w1.cell? ⟨w0.heap.size,0,none⟩=some (.int .i64 0):=(aC hx).1 0;have q1:w1.cell? ⟨w0.heap.size,1,none⟩=some (.slice none 0 0):=(aC hx).1 1;have f0:=(aC hx).2 0;have f1:=(aC hx).2 1))|fail)
  all_goals go_wp2
  all_goals go_meet
  case rel=>exact⟨_,_,rfl,hb1.size,hO1.later (bl1 _ _),aB _ rfl,Below.alloc (B:=w0.heap.size) (a:=w0) ⟨hb1.os,hb1.tape,hb1.output,hb1.size,hb1.block⟩ hb1.size _⟩
  have hs1:w0.heap.size+1<=w1.heap.size:=by have:=hb1.size;simpa using this
  case rel=>exact⟨_,_,rfl,zE,dD.low (base:=w0.heap.size+1) ((dD.kept (base:=w0.heap.size+1) (by simpa using hO1) (aI _ _ _ _) (fun q hq e=>by subst e;exact hO1.ne hx (by decide) hq)).kept (aI _ _ _ _) (fun q hq e=>by subst e;exact hO1.ne hx (by decide) hq)) (by omega),VH hx,((Below.trans (bl1 w0 (eZ 0 (.slice none 0 0))) (Below.mono (B:=w0.heap.size+1) ⟨hb1.os,hb1.tape,hb1.output,hb1.size,fun k hk=>hb1.block k (by simpa using hk)⟩ (by omega))).setCell (zE) _).setCell (zE) _⟩
 case rest=>
  obtain⟨nb,v,rfl,hnb,hO,hbx,hBc⟩:=hcut
  have hk0:dJ wc w0.heap.size v ps 0:=dJ.start hk (hB0.trans (hBc.mono hB0.size)) hO hB0.size
  obtain⟨xv,cv,rfl,hv1,hv2,hv3,hv4⟩:=hO.mem
  have e1:=aP hbx 1 rfl
  go_wp2
  clear e1
  go_loopw [14] (fun i wr=>∃(q:Nat) (qs:List Po),q<=ps.length/\i= .int .i64 q/\cB ps qs/\dJ wr w0.heap.size (.slice xv ps.length cv) qs q/\wr.heap[nb]?=some (eZ t (.slice xv ps.length cv))/\Below w0.heap.size w0 wr) (fun i _=>ps.length- (intOf i).toNat)
  case atStart=>exact⟨0,ps,by omega,rfl,cB.refl _,hk0,hbx,hBc⟩
  case round=>
   obtain⟨q,qs,hq,rfl,hs,hQ,hbr,hBr⟩:=hrel
   obtain⟨e0,e1⟩:=aR hbr rfl rfl
   by_cases hlt:q<ps.length
   ·have hlq:q<qs.length:=by rw[<-hs.1];exact hlt
    have hlt':=hlt;obtain⟨x2,c2,he2, -, -, -,hm⟩:=hQ.row.mem;simp only[Value.slice.injEq]at he2;obtain⟨rfl, -,rfl⟩:=he2;obtain⟨b2,o2,he3, -, -, -, -, -, -, -, -,c8⟩:=hm q hlq;rcases hQ.row.2 with ⟨hv, -⟩|⟨g,cap,cur,hv,hg1,hg2, -⟩
    ·rw[he3]at hv;simp at hv
    simp only[Value.slice.injEq]at hv;obtain⟨hx3, -,rfl⟩:=hv;rw[hx3]at he3;simp only[Option.some.injEq,Addr.mk.injEq]at he3;obtain⟨rfl,rfl, -⟩:=he3;subst hx3;obtain⟨hLS,hnc,hnb2, -⟩:=hQ.rest q (zE) hlq;have hcl:=fun W h=>JJ (poAt qs q).x (poAt qs q).n (poAt qs q).c (poAt qs q).ls W h hnb2;have hfz:=fun j=>hQ.row.frozen j;go_wp2_with fail;have c8':wr.cell? ⟨g,q*9+8,none⟩=some (.slice (poAt qs q).x (poAt qs q).n (poAt qs q).c):=by simpa using c8
    go_region_with (go_at_call 77;refine(hcl _ (by first|exact hLS|exact hLS.later (zD).drew)).mono ?_;rintro e w1 ⟨v1,rfl,hO1,hb1⟩;obtain⟨x1,c1,rfl,h11,h12,h13,h14⟩:=hO1.mem;have hb2:Below wr.heap.size wr w1:=⟨hb1.os,hb1.tape,hb1.output,hb1.size,hb1.block⟩;have d1:=aF hb2 e1;have d8:=aF hb2 c8';have df:w1.frozen? ⟨g,q*9+8,none⟩=false:=(hQ.row.later hb2).frozen _)
    all_goals have hne:nb≠g:=fun e=>by rw[e]at hbr;rw[hbr]at hg2;simp at hg2
    all_goals have hst:=hQ.step (x':=x1) (c':=c1) hlq hb2 hO1 hBr.size
    all_goals have hh:(w1.setCell ⟨g,q*9+8,none⟩ (.slice x1 (poAt qs q).ls.length c1)).heap[nb]?=some (eZ t (.slice (some ⟨g,0,none⟩) ps.length cv)):=(zB hne).trans (aA hb2 hbr)
    all_goals have hB3:=(hBr.trans (hb2.mono hBr.size)).setCell (p:=⟨g,q*9+8,none⟩) hg1 (.slice x1 (poAt qs q).ls.length c1)
    all_goals clear d1 d8 df
    all_goals go_wp2
    all_goals go_roundw
    all_goals first|exact⟨q+1,_,hlt',by go_num,hs.set hlq hLS.len,hst,hh,hB3⟩|(simp[intOf];omega)
   ·obtain rfl:q=ps.length:=by omega
    have hrr:wr.heap[w.heap.size+1]?=some (eZ 0 (.slice none 0 0)):=(hBr.block _ hsz).trans hr0;obtain⟨r0,r1⟩:=aR hrr rfl rfl;obtain⟨z0,z1⟩:=bW hrr;go_wp2;refine bodyPost_ret (v:= .agg #[.int .i64 t, .slice xv ps.length cv]) (by simp[results,Tryz.results44,go_sem,r0,r1]) rfl ?_;have hQ2:dJ wr w0.heap.size (.slice xv ps.length cv) qs qs.length:=by rw[<-hs.1];exact hQ
    exact⟨_,qs,rfl,hs,((hQ2.put hsz).put hsz).low hB0.size,((hB0.trans (hBr.mono hB0.size)).setCell (by simp) _).setCell (by simp) _⟩
theorem EN(p r:Le)(v:Int)(hv:F7 p.a r.a v)(bb kk:Nat)(w:World)(hby:w.cell? ⟨bb,0,none⟩=some (.func (.func 150) #[] #[])):
  Calls Tryz.prog 202 #[.agg #[.int .i64 p.a, .int .i64 p.l, .int .i64 p.kd, .int .i64 p.ow, .int .i64 p.un], .agg #[.int .i64 r.a, .int .i64 r.l, .int .i64 r.kd, .int .i64 r.ow, .int .i64 r.un], .slice (some ⟨bb,0,none⟩) 1 kk] w fun e w'=>e= .returned (.int .i64 v)/\Below w.heap.size w w':=NC.1 bys.1 p r v hv bb kk w hby
def QX(e:Le)(n:Nat)(ps:List Le)(w:World)(r:Ending)(w':World):Prop:=
 ∃v,r= .returned v/\Below w.heap.size w w'/\∃i,i<=n/\(∀j,j<i->¬e.a<(aN ps j).a)/\(i<n->e.a<(aN ps i).a)/\cD w' w.heap.size v (ps.take i++[e]++ps.drop i)
theorem QY(e:Le)(x:Option Addr)(n c:Nat)(ps:List Le)(bf k:Nat)(w:World)(hp:LS w x n ps)(hn:n<=32)(hnc:n<=c)(hc63:c<=9223372036854775807)(hx:(x=none/\c=0)\/∃b o,x=some ⟨b,o,none⟩)
 (hby:w.cell? ⟨bf,0,none⟩=some (.func (.func 150) #[] #[])):
  Calls Tryz.prog 149 #[.slice x n c, .agg #[.int .i64 e.a, .int .i64 e.l, .int .i64 e.kd, .int .i64 e.ow, .int .i64 e.un], .slice (some ⟨bf,0,none⟩) 1 k] w (QX e n ps w):=by
 have hB2:=bO w (.cells #[.int .i64 e.a, .int .i64 e.l, .int .i64 e.kd, .int .i64 e.ow, .int .i64 e.un] 87) (.cells #[.slice (some ⟨bf,0,none⟩) 1 k] 275);refine(GJ.1 _ _ VG e x n c bf 1 k (flatL ps) (fun i=>decide (e.a<(aN ps i).a)) w hp.rw (pP [e]) hn hnc hc63 hx (iJ _ _ x n c ps _ _ (hp.later hB2) (by omega) (fun i hi W hW=>?_) iP.1.2)).mono ?_
 ·obtain⟨v,hv,hd⟩:=qY e.a (aN ps i).a;exact(iP.1.1 e (aN ps i) v w.heap.size (w.heap.size+1) bf 1 k W (fun i=>(hW.cell (p:=⟨w.heap.size,i,none⟩) (by show w.heap.size<_;simp;omega)).trans (by simp)) (cell_later hW (by simp)) fun W9 h9=>EN e _ v hv bf k W9 (cell_later h9 (cell_later hW (cell_later hB2 hby)))).mono fun _ _ h=>⟨h.1.trans (congrArg (fun t=>Ending.returned (.bool t)) hd.symm),h.2⟩
 ·rintro r w1 ⟨v,rfl,hb,i,hi,hlow,hup,ho⟩;exact⟨v,rfl,hb,i,hi,fun j hj=>of_decide_eq_false (hlow j hj),fun h=>of_decide_eq_true (hup h),kQ flatL gM uO hp.len hi ho⟩
def oB(p:Po)(z:Int):Option Int:=if p.n=32 then none else uE p.a p.l p.n (lp p.ls) z
def dR(p:Po)(z:Int):Int:=if z<p.mn\/p.mx<z then 7 else match oB p z with
 |none=>8
 |some _=>0
def dS(p:Po)(z:Int):Int×Int:=if z<p.mn\/p.mx<z then(0,0)else match oB p z with
 |none=>(0,0)
 |some x=>(x,z)
def yV(p:Po)(z:Int)(w:World)(e:Ending)(w':World):Prop:=
 e= .returned (.tuple #[.agg #[.int .i64 (dS p z).1, .int .i64 (dS p z).2], .int .i64 (dR p z)])/\Below w.heap.size w w'
theorem GS(p:Po)(z:Int)(w:World)(hp:LS w p.x p.n p.ls)(hn:p.n<=1048576):
  Calls Tryz.prog 148 #[.agg #[.int .i64 p.id, .int .i64 p.up, .int .i64 p.a, .int .i64 p.l, .int .i64 p.mn, .int .i64 p.mx, .int .i64 p.us, .int .i64 p.co, .slice p.x p.n p.c], .int .i64 z] w (yV p z w):=by
 obtain⟨id,up,a,l,mn,mx,us,co,x,n,c,ls⟩:=p;simp only at hp hn⊢;have hB:=bO w (.cells #[.int .i64 id, .int .i64 up, .int .i64 a, .int .i64 l, .int .i64 mn, .int .i64 mx, .int .i64 us, .int .i64 co, .slice x n c] 85) (.cells #[.int .i64 0, .int .i64 0] 26);by_cases hz:z<mn\/mx<z
 ·have he:dR ⟨id,up,a,l,mn,mx,us,co,x,n,c,ls⟩ z=7:=if_pos hz;have ho:dS ⟨id,up,a,l,mn,mx,us,co,x,n,c,ls⟩ z=(0,0):=if_pos hz;by_cases h1:z<mn
  ·go_enter Tryz.func148,Tryz.ntmps148;go_wp2;refine bodyPost_ret (v:= .tuple #[.agg #[.int .i64 0, .int .i64 0], .int .i64 7]) (by simp[results,Tryz.results148,go_sem]) rfl ⟨by rw[he,ho],?_⟩;first|exact(hB.setCell (p:=⟨w.heap.size+1,0,none⟩) (Nat.le_succ _) _).setCell (p:=⟨w.heap.size+1,1,none⟩) (Nat.le_succ _) _|exact hB
  ·have h2:mx<z:=by omega
   go_enter Tryz.func148,Tryz.ntmps148;go_wp2;refine bodyPost_ret (v:= .tuple #[.agg #[.int .i64 0, .int .i64 0], .int .i64 7]) (by simp[results,Tryz.results148,go_sem]) rfl ⟨by rw[he,ho],?_⟩;first|exact(hB.setCell (p:=⟨w.heap.size+1,0,none⟩) (Nat.le_succ _) _).setCell (p:=⟨w.heap.size+1,1,none⟩) (Nat.le_succ _) _|exact hB
 ·have h1:¬z<mn:=fun h=>hz (.inl h);have h2:¬mx<z:=fun h=>hz (.inr h);have he:dR ⟨id,up,a,l,mn,mx,us,co,x,n,c,ls⟩ z=_:=if_neg hz;have ho:dS ⟨id,up,a,l,mn,mx,us,co,x,n,c,ls⟩ z=_:=if_neg hz;go_enter Tryz.func148,Tryz.ntmps148;go_wp2_with fail;refine(nY ⟨id,up,a,l,mn,mx,us,co,x,n,c,ls⟩ _ (hp.later hB) hn).mono ?_;rintro e w1 ⟨x1,c1,rfl,hb1,hps1⟩;go_wp2_with fail;refine(U5 a l x1 n c1 (lp ls) z w1 (fun _=>hps1)).mono ?_;rintro e w2 ⟨rfl,hb2⟩;have hB2:=hB.trans ((hb1.trans (hb2.mono hb1.size)).mono (by simp;omega));have hx8:w2.heap[w.heap.size]?=some (.cells #[.int .i64 id, .int .i64 up, .int .i64 a, .int .i64 l, .int .i64 mn, .int .i64 mx, .int .i64 us, .int .i64 co, .slice x n c] 85):=aA hb2 (aA hb1 (aG _ (aB _ rfl)));have hx9:w2.heap[w.heap.size+1]?=some (.cells #[.int .i64 0, .int .i64 0] 26):=aA hb2 (aA hb1 (aB _ (by simp)));clear hb1 hb2 hps1;have hsz:=(zG hx9)
  cases hf:uE a l n (lp ls) z with
  |none=>
   have hq:oB ⟨id,up,a,l,mn,mx,us,co,x,n,c,ls⟩ z=none:=by unfold oB;split;rfl;exact hf
   rw[hq]at he ho
   simp only[X2]
   go_upto_region 4 with fail
   obtain⟨w3,hw3⟩:∃w3,w3=w2.alloc (.cells #[.int .i64 0, .int .i64 0] 26):=⟨_,rfl⟩
   rw[<-hw3]
   have hB3:Below w.heap.size w w3:=by rw[hw3];exact hB2.alloc hB2.size _
   have hy8:w3.heap[w.heap.size]?=some (.cells #[.int .i64 id, .int .i64 up, .int .i64 a, .int .i64 l, .int .i64 mn, .int .i64 mx, .int .i64 us, .int .i64 co, .slice x n c] 85):=by rw[hw3];exact aG _ hx8
   have hy9:w3.heap[w.heap.size+1]?=some (.cells #[.int .i64 0, .int .i64 0] 26):=by rw[hw3];exact aG _ hx9
   have hyn:w3.heap[w2.heap.size]?=some (.cells #[.int .i64 0, .int .i64 0] 26):=by rw[hw3];exact aB _ rfl
   clear hw3
   have d8:=aP hy8 8 rfl
   obtain⟨r0,r1⟩:=aR hy9 rfl rfl
   obtain⟨z0,z1⟩:=bW hy9
   obtain⟨q0,q1⟩:=aR hyn rfl rfl
   go_wp2
   refine bodyPost_ret (v:= .tuple #[.agg #[.int .i64 0, .int .i64 0], .int .i64 8]) (by simp[results,Tryz.results148,go_sem,r0,r1]) rfl ⟨by rw[he,ho],?_⟩
   exact(hB3.setCell (p:=⟨w.heap.size+1,0,none⟩) (Nat.le_succ _) _).setCell (p:=⟨w.heap.size+1,1,none⟩) (Nat.le_succ _) _
  |some y=>
   simp only[X2]
   by_cases h32:n=32
   ·have hq:oB ⟨id,up,a,l,mn,mx,us,co,x,n,c,ls⟩ z=none:=if_pos h32;rw[hq]at he ho;subst h32;go_upto_region 4 with fail
    obtain⟨w3,hw3⟩:∃w3,w3=w2.alloc (.cells #[.int .i64 y, .int .i64 z] 26):=⟨_,rfl⟩;rw[<-hw3];have hB3:Below w.heap.size w w3:=by rw[hw3];exact hB2.alloc hB2.size _
    have hy8:w3.heap[w.heap.size]?=some (.cells #[.int .i64 id, .int .i64 up, .int .i64 a, .int .i64 l, .int .i64 mn, .int .i64 mx, .int .i64 us, .int .i64 co, .slice x 32 c] 85):=by rw[hw3];exact aG _ hx8
    have hy9:w3.heap[w.heap.size+1]?=some (.cells #[.int .i64 0, .int .i64 0] 26):=by rw[hw3];exact aG _ hx9
    have hyn:w3.heap[w2.heap.size]?=some (.cells #[.int .i64 y, .int .i64 z] 26):=by rw[hw3];exact aB _ rfl
    clear hw3;have d8:=aP hy8 8 rfl;obtain⟨r0,r1⟩:=aR hy9 rfl rfl;obtain⟨z0,z1⟩:=bW hy9;obtain⟨q0,q1⟩:=aR hyn rfl rfl;go_wp2;refine bodyPost_ret (v:= .tuple #[.agg #[.int .i64 0, .int .i64 0], .int .i64 8]) (by simp[results,Tryz.results148,go_sem,r0,r1]) rfl ⟨by rw[he,ho],?_⟩;exact(hB3.setCell (p:=⟨w.heap.size+1,0,none⟩) (Nat.le_succ _) _).setCell (p:=⟨w.heap.size+1,1,none⟩) (Nat.le_succ _) _
   ·have hq:oB ⟨id,up,a,l,mn,mx,us,co,x,n,c,ls⟩ z=some y:=(if_neg h32).trans hf;rw[hq]at he ho;have h33:¬(n:Int)=32:=by omega
    go_upto_region 4 with fail
    obtain⟨w3,hw3⟩:∃w3,w3=w2.alloc (.cells #[.int .i64 y, .int .i64 z] 26):=⟨_,rfl⟩;rw[<-hw3];have hB3:Below w.heap.size w w3:=by rw[hw3];exact hB2.alloc hB2.size _
    have hy8:w3.heap[w.heap.size]?=some (.cells #[.int .i64 id, .int .i64 up, .int .i64 a, .int .i64 l, .int .i64 mn, .int .i64 mx, .int .i64 us, .int .i64 co, .slice x n c] 85):=by rw[hw3];exact aG _ hx8
    have hy9:w3.heap[w.heap.size+1]?=some (.cells #[.int .i64 0, .int .i64 0] 26):=by rw[hw3];exact aG _ hx9
    have hyn:w3.heap[w2.heap.size]?=some (.cells #[.int .i64 y, .int .i64 z] 26):=by rw[hw3];exact aB _ rfl
    clear hw3;have d8:=aP hy8 8 rfl;obtain⟨r0,r1⟩:=aR hy9 rfl rfl;obtain⟨z0,z1⟩:=bW hy9;obtain⟨q0,q1⟩:=aR hyn rfl rfl;go_wp2;refine bodyPost_ret (v:= .tuple #[.agg #[.int .i64 y, .int .i64 z], .int .i64 0]) (by simp[results,Tryz.results148,go_sem,r0,r1]) rfl ⟨by rw[he,ho],?_⟩;exact(hB3.setCell (p:=⟨w.heap.size+1,0,none⟩) (Nat.le_succ _) _).setCell (p:=⟨w.heap.size+1,1,none⟩) (Nat.le_succ _) _
theorem dJ.swap{ls:List Le}(h:dJ W base (.slice (some ⟨g,0,none⟩) n cap) qs qs.length)(hk:i<qs.length)(hb:Below W.heap.size W W1)(ho:cD W1 W.heap.size (.slice x' m c') ls)(hwb:base<=W.heap.size):
  dJ (W1.setCell ⟨g,i*9+8,none⟩ (.slice x' m c')) base (.slice (some ⟨g,0,none⟩) n cap) (qs.set i (aW (poAt qs i) x' m c' ls)) (qs.set i (aW (poAt qs i) x' m c' ls)).length:=by
 have hr:=h.row.later hb;obtain⟨hbg,cur,hg⟩:=hr.block;have hall:∀j,j<qs.length->cD W1 base (.slice (poAt (qs.set i (aW (poAt qs i) x' m c' ls)) j).x (poAt (qs.set i (aW (poAt qs i) x' m c' ls)) j).n (poAt (qs.set i (aW (poAt qs i) x' m c' ls)) j).c) (poAt (qs.set i (aW (poAt qs i) x' m c' ls)) j).ls:=fun j hj=>by
  rw[dF hk];by_cases e:i=j
  ·rw[if_pos e];exact ho.low hwb
  ·rw[if_neg e];exact(h.own j hj).later hb
 have hlen:(qs.set i (aW (poAt qs i) x' m c' ls)).length=qs.length:=List.length_set;refine⟨hr.set i hk x' _ c' _,fun j hj=>(hall j (by omega)).kept (aI _ _ _ _) (fun q hq e=>by subst e;exact(hall j (by omega)).ne hg (by decide) hq),fun j hj hj2=>by omega,fun j k hj hk2 hij b hbi hbj=>?_⟩;rw[dF hk]at hbi hbj;by_cases e:i=j
 ·rw[if_pos e]at hbi;rw[if_neg (by omega)]at hbj;have h1:=ho.lt b hbi;have h2:=(h.own k (by omega)).lt b hbj;omega
 ·rw[if_neg e]at hbi;by_cases e2:i=k
  ·rw[if_pos e2]at hbj;have h1:=ho.lt b hbj;have h2:=(h.own j (by omega)).lt b hbi;omega
  ·rw[if_neg e2]at hbj;exact h.apart j k (by omega) (by omega) hij b hbi hbj
def gG(e:Le)(ls ls':List Le):Prop:=∃i,i<=ls.length/\(∀j,j<i->¬e.a<(aN ls j).a)/\(i<ls.length->e.a<(aN ls i).a)/\ls'=ls.take i++[e]++ls.drop i
theorem gG.len{e:Le}{ls:List Le}(h:gG e ls ls'):ls'.length=ls.length+1:=by
 obtain⟨i,hi, -, -,rfl⟩:=h;simp;omega
def VI(e:Le)(base g n cap:Nat)(qs:List Po)(i:Nat)(w:World)(r:Ending)(w':World):Prop:=
 r= .returned (.tuple #[])/\∃x' c' ls',gG e (poAt qs i).ls ls'/\dJ w' base (.slice (some ⟨g,0,none⟩) n cap) (qs.set i (aW (poAt qs i) x' ls'.length c' ls')) (qs.set i (aW (poAt qs i) x' ls'.length c' ls')).length/\w.grownBy w' (some g)
theorem sO(e:Le)(base g n cap:Nat)(qs:List Po)(i:Nat)(w:World)(h:dJ w base (.slice (some ⟨g,0,none⟩) n cap) qs qs.length)(hi:i<qs.length)(hn:(poAt qs i).n<=32)(hwb:base<=w.heap.size):
  Calls Tryz.prog 88 #[.pointer (some ⟨g,i*9,none⟩), .agg #[.int .i64 e.a, .int .i64 e.l, .int .i64 e.kd, .int .i64 e.ow, .int .i64 e.un]] w (VI e base g n cap qs i w):=by
 obtain⟨hbg,cur,hg⟩:=h.row.block;have hgl:g<w.heap.size:=(zG hg);obtain⟨xv,cv,he2, -, -, -,hm⟩:=h.row.mem;obtain⟨b2,o2,he3, -, -, -, -, -, -, -, -,c8⟩:=hm i hi;simp only[Value.slice.injEq]at he2;obtain⟨hx2, -, -⟩:=he2;rw[<-hx2]at he3;simp only[Option.some.injEq,Addr.mk.injEq]at he3;obtain⟨rfl,rfl, -⟩:=he3;clear hx2 hm;have hO:=h.own i hi;obtain⟨hLS,hll,hnc,hc63⟩:=hO.ls;have hx:((poAt qs i).x=none/\(poAt qs i).c=0)\/∃b o,(poAt qs i).x=some ⟨b,o,none⟩:=by
  rcases hO.2 with ⟨hv, -⟩|⟨g2,cap2,cur2,hv, -⟩
  ·simp only[Value.slice.injEq]at hv;exact .inl ⟨hv.1,hv.2.2⟩
  ·simp only[Value.slice.injEq]at hv;exact .inr ⟨_,_,hv.1⟩
 go_enter Tryz.func88,Tryz.ntmps88;go_upto_region 1 with fail
 obtain⟨w0,hw0⟩:∃w0,w0=w.alloc (.cells #[.int .i64 e.a, .int .i64 e.l, .int .i64 e.kd, .int .i64 e.ow, .int .i64 e.un] 87):=⟨_,rfl⟩;rw[<-hw0];have hB0:Below w.heap.size w w0:=by rw[hw0];exact bl1 w _
 have hb0:w0.heap[w.heap.size]?=some (.cells #[.int .i64 e.a, .int .i64 e.l, .int .i64 e.kd, .int .i64 e.ow, .int .i64 e.un] 87):=by rw[hw0];exact aB _ rfl
 clear hw0;have c8':w.cell? ⟨g,i*9+8,none⟩=some (.slice (poAt qs i).x (poAt qs i).n (poAt qs i).c):=by simpa using c8
 have d8:w0.cell? ⟨g,i*9+8,none⟩=some (.slice (poAt qs i).x (poAt qs i).n (poAt qs i).c):=aF hB0 c8';have a8:∀o,(w0.alloc o).cell? ⟨g,i*9+8,none⟩=some (.slice (poAt qs i).x (poAt qs i).n (poAt qs i).c):=fun o=>aF (bl1 w0 o) d8;have d0:=aP hb0 0 rfl;have a0:∀o,(w0.alloc o).cell? ⟨w.heap.size,0,none⟩=some (.int .i64 e.a):=fun o=>aF (bl1 w0 o) d0;have d1:=aP hb0 1 rfl;have a1:∀o,(w0.alloc o).cell? ⟨w.heap.size,1,none⟩=some (.int .i64 e.l):=fun o=>aF (bl1 w0 o) d1;have d2:=aP hb0 2 rfl;have a2:∀o,(w0.alloc o).cell? ⟨w.heap.size,2,none⟩=some (.int .i64 e.kd):=fun o=>aF (bl1 w0 o) d2;have d3:=aP hb0 3 rfl;have a3:∀o,(w0.alloc o).cell? ⟨w.heap.size,3,none⟩=some (.int .i64 e.ow):=fun o=>aF (bl1 w0 o) d3;have d4:=aP hb0 4 rfl;have a4:∀o,(w0.alloc o).cell? ⟨w.heap.size,4,none⟩=some (.int .i64 e.un):=fun o=>aF (bl1 w0 o) d4;have hput:=QY e (poAt qs i).x (poAt qs i).n (poAt qs i).c (poAt qs i).ls w0.heap.size 1 (w0.alloc (.cells #[.func (.func 150) #[] #[]] 230)).drew ((hLS.later hB0).later (bl1 w0 _).drew) hn hnc hc63 hx (by simp);have hgo:∀w1,Below (w0.alloc (.cells #[.func (.func 150) #[] #[]] 230)).drew.heap.size (w0.alloc (.cells #[.func (.func 150) #[] #[]] 230)).drew w1->Below w.heap.size w w1:=fun w1 hb1=>
  (hB0.trans ((bl1 w0 _).mono hB0.size)).trans (Below.mono (B:=w0.heap.size+1) ⟨hb1.os,hb1.tape,hb1.output,hb1.size,fun k hk=>hb1.block k (by simpa using hk)⟩ (by have:=hB0.size;omega))
 go_region_with (go_at_call 149;refine hput.mono ?_;rintro e' w1 ⟨v1,rfl,hb1,i1,hi1,hlow,hup,hO1⟩;obtain⟨ls',hls⟩:∃ls',Hid (ls'=(poAt qs i).ls.take i1++[e]++(poAt qs i).ls.drop i1):=⟨_,rfl⟩;rw[<-hls.out]at hO1;obtain⟨x1,c1,rfl,h11,h12,h13,h14⟩:=hO1.mem;have hb2:Below w.heap.size w w1:=hgo w1 hb1;have f8:=aF hb2 c8';have df:w1.frozen? ⟨g,i*9+8,none⟩=false:=(h.row.later hb2).frozen _);all_goals have hp2:gG e (poAt qs i).ls ls':=⟨i1,by rw[hll];exact hi1,fun j hj=>by have:=hlow j hj;omega,fun hq=>hup (by rw[<-hll];exact hq),hls.out⟩
 all_goals have hO2:cD w1 w.heap.size (.slice x1 ls'.length c1) ls':=hO1.low (by have:=hB0.size;simp;omega)
 all_goals have hsw:=h.swap hi hb2 hO2 hwb
 all_goals refine bodyPost_end (results_none Tryz.results88 _ _ _) rfl ?_
 all_goals exact⟨rfl,x1,c1,ls',hp2,hsw,hb2.os,hb2.tape,hb2.output,by have:=hb2.size;simpa using this,fun k hk hne=>(zB (fun e=>hne (by rw[e]))).trans (hb2.block k hk)⟩
def QZ(e:Po)(n:Nat)(ps:List Po)(w:World)(r:Ending)(w':World):Prop:=
 ∃v,r= .returned v/\Below w.heap.size w w'/\∃i,i<=n/\(∀j,j<i->¬e.id<(poAt ps j).id)/\(i<n->e.id<(poAt ps i).id)/\dD w' w.heap.size v (ps.take i++[e]++ps.drop i)
theorem Q0(e:Po)(x:Option Addr)(n c:Nat)(ps:List Po)(bf k:Nat)(w:World)(hp:mX w x n ps)(hn:n<=32)(hnc:n<=c)(hc63:c<=9223372036854775807)(hx:(x=none/\c=0)\/∃b o,x=some ⟨b,o,none⟩)
 (hby:w.cell? ⟨bf,0,none⟩=some (.func (.func 116) #[] #[])):
  Calls Tryz.prog 147 #[.slice x n c, .agg #[.int .i64 e.id, .int .i64 e.up, .int .i64 e.a, .int .i64 e.l, .int .i64 e.mn, .int .i64 e.mx, .int .i64 e.us, .int .i64 e.co, .slice e.x e.n e.c], .slice (some ⟨bf,0,none⟩) 1 k] w (QZ e n ps w):=by
 have hB2:=bO w (.cells #[.int .i64 e.id, .int .i64 e.up, .int .i64 e.a, .int .i64 e.l, .int .i64 e.mn, .int .i64 e.mx, .int .i64 e.us, .int .i64 e.co, .slice e.x e.n e.c] 85) (.cells #[.slice (some ⟨bf,0,none⟩) 1 k] 260);refine(GJ.2.1 _ _ YH e x n c bf 1 k (flatP ps) (fun i=>decide (e.id<(poAt ps i).id)) w hp.rw (pQ [e]) hn hnc hc63 hx (mZ _ _ x n c ps _ _ (hp.later hB2) (by omega) (fun i hi W hW=>?_) iP.2.1.2)).mono ?_
 ·obtain⟨v,hv,hd⟩:=qY e.id (poAt ps i).id;exact(iP.2.1.1 e (poAt ps i) v w.heap.size (w.heap.size+1) bf 1 k W (fun i=>(hW.cell (p:=⟨w.heap.size,i,none⟩) (by show w.heap.size<_;simp;omega)).trans (by simp)) (cell_later hW (by simp)) fun W9 h9=>sK e _ v hv bf k W9 (cell_later h9 (cell_later hW (cell_later hB2 hby)))).mono fun _ _ h=>⟨h.1.trans (congrArg (fun t=>Ending.returned (.bool t)) hd.symm),h.2⟩
 ·rintro r w1 ⟨v,rfl,hb,i,hi,hlow,hup,ho⟩;exact⟨v,rfl,hb,i,hi,fun j hj=>of_decide_eq_false (hlow j hj),fun h=>of_decide_eq_true (hup h),kQ flatP eN CQ hp.len hi ho⟩
structure TB(w W:World)(t:Int)(v:Value):Prop where
 hb:W.heap[w.heap.size]?=some (eZ t v)
 hs:W.heap[w.heap.size+1]?=some (eZ 0 (.slice none 0 0))
 hr:W.heap[w.heap.size+2]?=some (.cells #[.int .i64 0, .int .i64 0] 26)
 below:Below w.heap.size w W
theorem TB.later(h:TB w W t v)(hb:Below W.heap.size W W'):TB w W' t v:=
 ⟨aA hb h.hb,aA hb h.hs,aA hb h.hr,h.below.trans (hb.mono h.below.size)⟩
theorem TB.fin(h:TB w W t v)(a b c d:Value):Below w.heap.size w ((((W.setCell ⟨w.heap.size+1,0,none⟩ a).setCell ⟨w.heap.size+1,1,none⟩ b).setCell ⟨w.heap.size+2,0,none⟩ c).setCell ⟨w.heap.size+2,1,none⟩ d):=
 (((h.below.setCell (p:=⟨w.heap.size+1,0,none⟩) (Nat.le_succ _) _).setCell (p:=⟨w.heap.size+1,1,none⟩) (Nat.le_succ _) _).setCell (p:=⟨w.heap.size+2,0,none⟩) (zA) _).setCell (p:=⟨w.heap.size+2,1,none⟩) (zA) _
theorem sP(h:aS t ps=0):ps.length<=8:=by
 unfold aS at h;by_cases h8:8<ps.length
 ·rw[if_pos h8]at h;cases h
 ·omega
theorem yW(h:dR p z=0):p.n<=31:=by
 unfold dR at h;split at h
 ·cases h
 ·cases hq:oB p z with
  |none=>rw[hq]at h;cases h
  |some y=>
   unfold oB at hq
   split at hq
   ·cases hq
   ·rename_i h32;unfold uE at hq;split at hq
    ·rename_i he;unfold uD at he;split at he
     ·rename_i hc;have:=(gV hc).1;omega
     ·rename_i hc;exact absurd he hc
    ·cases hq
theorem fF{o:Obj}(hg:W.grownBy W' (some g))(h:W.heap[k]?=some o)(hne:k≠g):W'.heap[k]?=some o:=
 (hg.block k (zG h) (fun e=>hne (by simpa using e))).trans h
theorem lS{t u:TypeId}(hg:W.heap[g]?=some (.cells cs t))(hk:W.heap[k]?=some (.cells ds u))(ht:t≠u):k≠g:=fun e=>by
 rw[e,hg]at hk;simp only[Option.some.injEq,Obj.cells.injEq]at hk;exact ht hk.2.1
theorem TB.grown(h:TB w W t v)(hg:W.grownBy W' (some g))(hc:W.heap[g]?=some (.cells cs 85))(hw:w.heap.size<=g):TB w W' t v:=
 ⟨fF hg h.hb (lS hc h.hb (by decide)),fF hg h.hs (lS hc h.hs (by decide)),fF hg h.hr (lS hc h.hr (by decide)),h.below.grown hg h.below.size (fun k e=>by cases e;exact hw)⟩
def jR(p:Po)(z:Int):Int:=if z=0 then p.us else z
def cE(t:Int)(ps:List Po)(id z ow:Int):Int:=
 if aS t ps≠0 then aS t ps else if aO ps id<0 then 5 else if dE ow 1 65536=false then 3 else dR (poAt ps (aO ps id).toNat) (jR (poAt ps (aO ps id).toNat) z)
def jS(t:Int)(ps:List Po)(id z ow:Int)(w:World)(r:Ending)(w':World):Prop:=
 ∃v rs t' a l,r= .returned (.tuple #[.agg #[.int .i64 t',v], .agg #[.int .i64 a, .int .i64 l], .int .i64 (cE t ps id z ow)])/\Below w.heap.size w w'/\dJ w' w.heap.size v rs rs.length/\
  (cE t ps id z ow≠0->t'=0/\rs=[]/\a=0/\l=0)/\
  (cE t ps id z ow=0->t'=t/\(a,l)=dS (poAt ps (aO ps id).toNat) (jR (poAt ps (aO ps id).toNat) z)/\
   ∃qs x' c' ls',cB ps qs/\gG ⟨a,l,1,ow,0⟩ (poAt ps (aO ps id).toNat).ls ls'/\rs=qs.set (aO ps id).toNat (aW (poAt qs (aO ps id).toNat) x' ls'.length c' ls'))
theorem dJ.nil(w:World)(base:Nat):dJ w base (.slice none 0 0) [] 0:=
 ⟨World.ownsRow_nil _ _ _ _,fun i hi=>by omega,fun i _ hi=>by simp at hi,fun i j hi=>by omega⟩
theorem jS.err{id ow:Int}(hE:cE t ps id z ow=E/\E≠0)(hb:Below w.heap.size w w'):
  jS t ps id z ow w (.returned (.tuple #[.agg #[.int .i64 0, .slice none 0 0], .agg #[.int .i64 0, .int .i64 0], .int .i64 E])) w':=
 ⟨_,[],0,0,0,by rw[hE.1],hb,dJ.nil _ _,fun _=>⟨rfl,rfl,rfl,rfl⟩,fun h=>absurd (hE.1.symm.trans h) hE.2⟩
theorem GT(t:Int)(x:Option Addr)(n c:Nat)(ps:List Po)(id z ow:Int)(w:World)(hk:Bk w x n c ps):
  Calls Tryz.prog 97 #[.agg #[.int .i64 t, .slice x n c], .int .i64 id, .int .i64 z, .int .i64 ow] w (jS t ps id z ow w):=by
 have hpl:Hid (ps.length=n):=hk.ps.len;go_enter Tryz.func97,Tryz.ntmps97;go_upto_region 1 with fail
 obtain⟨w0,hw0⟩:∃w0,w0=((w.alloc (eZ t (.slice x n c))).alloc (eZ 0 (.slice none 0 0))).alloc (.cells #[.int .i64 0, .int .i64 0] 26):=⟨_,rfl⟩;rw[<-hw0];have hT0:TB w w0 t (.slice x n c):=by
  rw[hw0];exact⟨aG _ (aG _ (aB _ rfl)),aG _ (aB _ (by simp)),aB _ (by simp),(bO w _ _).alloc (by simp;omega) _⟩
 clear hw0;obtain⟨b0,b1⟩:=aR hT0.hb rfl rfl;obtain⟨s0,s1⟩:=aR hT0.hs rfl rfl;obtain⟨r0,r1⟩:=aR hT0.hr rfl rfl;obtain⟨zs0,zs1⟩:=bW hT0.hs;obtain⟨zr0,zr1⟩:=bW hT0.hr;have hck:=fA t x n c ps w0 (hk.later hT0.below);by_cases hc0:aS t ps=0
 ·rw[hc0]at hck;go_wp2_with fail;refine hck.mono ?_;rintro e w1 ⟨rfl,hb1⟩;have hT1:=hT0.later hb1;have hn8:n<=8:=by rw[<-hpl.out];exact sP hc0
  have hk1:=hk.later hT1.below;have hpc:=pplace_any t id x n c ps w1 hk1.ps (by omega);clear b0 b1 s0 s1 r0 r1 zs0 zs1 zr0 zr1 hck hb1;obtain⟨b0,b1⟩:=aR hT1.hb rfl rfl;obtain⟨s0,s1⟩:=aR hT1.hs rfl rfl;obtain⟨r0,r1⟩:=aR hT1.hr rfl rfl;obtain⟨zs0,zs1⟩:=bW hT1.hs;obtain⟨zr0,zr1⟩:=bW hT1.hr;by_cases hat:aO ps id<0
  ·have hne:cE t ps id z ow=5/\(5:Int)≠0:=⟨by unfold cE;rw[if_neg (by simp[hc0]),if_pos hat],by decide⟩;go_wp2_with fail;refine hpc.mono ?_;rintro e w2 ⟨rfl,hb2⟩;have hT2:=hT1.later hb2;clear b0 b1 s0 s1 r0 r1 zs0 zs1 zr0 zr1 hb2;obtain⟨b0,b1⟩:=aR hT2.hb rfl rfl;obtain⟨s0,s1⟩:=aR hT2.hs rfl rfl;obtain⟨r0,r1⟩:=aR hT2.hr rfl rfl;obtain⟨zs0,zs1⟩:=bW hT2.hs;obtain⟨zr0,zr1⟩:=bW hT2.hr;go_wp2;refine bodyPost_ret (v:= .tuple #[.agg #[.int .i64 0, .slice none 0 0], .agg #[.int .i64 0, .int .i64 0], .int .i64 5]) (by simp[results,Tryz.results97,go_sem,s0,s1,r0,r1]) rfl ?_;exact jS.err hne (hT2.fin _ _ _ _)
  ·have hE1:cE t ps id z ow=if dE ow 1 65536=false then 3 else dR (poAt ps (aO ps id).toNat) (jR (poAt ps (aO ps id).toNat) z):=by unfold cE;rw[if_neg (by simp[hc0]),if_neg hat]
   obtain⟨i,hi,hati, -⟩:=aX hat;rw[hpl.out]at hi;have hto:(aO ps id).toNat=i:=by rw[hati];rfl
   rw[hto]at hE1;rw[hati]at hpc;go_wp2_with fail;refine hpc.mono ?_;rintro e w2 ⟨rfl,hb2⟩;have hT2:=hT1.later hb2;have hneg:¬((i:Int)<0):=by omega
   clear b0 b1 s0 s1 r0 r1 zs0 zs1 zr0 zr1 hb2;obtain⟨b0,b1⟩:=aR hT2.hb rfl rfl;obtain⟨s0,s1⟩:=aR hT2.hs rfl rfl;obtain⟨r0,r1⟩:=aR hT2.hr rfl rfl;obtain⟨zs0,zs1⟩:=bW hT2.hs;obtain⟨zr0,zr1⟩:=bW hT2.hr
   cases how:dE ow 1 65536 with
   |false=>
    have hne:cE t ps id z ow=3/\(3:Int)≠0:=⟨by rw[hE1,if_pos how],by decide⟩
    go_wp2_with fail
    refine(isId_is ow false how _).mono ?_
    rintro e w3 ⟨rfl,rfl⟩
    go_wp2
    refine bodyPost_ret (v:= .tuple #[.agg #[.int .i64 0, .slice none 0 0], .agg #[.int .i64 0, .int .i64 0], .int .i64 3]) (by simp[results,Tryz.results97,go_sem,s0,s1,r0,r1]) rfl ?_
    exact jS.err hne (hT2.fin _ _ _ _)
   |true=>
    rw[if_neg (by simp[how])]at hE1
    go_wp2_with fail
    refine(isId_is ow true how _).mono ?_
    rintro e w2 ⟨rfl,rfl⟩
    have hk2:=hk.later hT2.below
    obtain⟨b,o,rfl,c0,c1,c2,c3,c4,c5,c6,c7,c8⟩:=hk2.ps.cells i hi
    obtain⟨hlc,hlm,hLS⟩:=hk2.ps.leases i hi
    have hi0:(0:Int)<=i:=by omega
    have hin:(i:Int)<n:=by omega
    obtain⟨zz,hzz⟩:∃zz,Hid (zz=jR (poAt ps i) z):=⟨_,rfl⟩
    rw[<-hzz.out]at hE1
    go_upto_if 38 with fail
    go_cut [2] (fun s wc=>s= .int .i64 zz/\wc=w2)
    case first=>
     by_cases hz:z=0
     ·have hz2:(poAt ps i).us=zz:=by rw[hzz.out];unfold jR;rw[if_pos hz]
      subst hz;go_wp2;go_meet
      case rel=>exact⟨by first|rfl|rw[hz2],rfl⟩
     ·have hz2:z=zz:=by rw[hzz.out];unfold jR;rw[if_neg hz]
      go_wp2;go_meet
      case rel=>exact⟨by first|rfl|rw[<-hz2],rfl⟩
    case rest=>
     obtain⟨rfl,rfl⟩:=hcut
     have hpf:=GS (poAt ps i) zz wc hLS hlm
     by_cases hpe:dR (poAt ps i) zz=0
     ·have hE0:cE t ps id z ow=0:=hE1.trans hpe;have hl31:=yW hpe;unfold yV at hpf;rw[hpe]at hpf;obtain⟨pA,hpA⟩:∃pA,Hid (pA=(dS (poAt ps i) zz).1):=⟨_,rfl⟩;obtain⟨pL,hpL⟩:∃pL,Hid (pL=(dS (poAt ps i) zz).2):=⟨_,rfl⟩;rw[<-hpA.out,<-hpL.out]at hpf;go_wp2_with fail;refine hpf.mono ?_;rintro e w3 ⟨rfl,hb3⟩;have hT3:=hT2.later hb3;clear b0 b1 s0 s1 r0 r1 zs0 zs1 zr0 zr1 hb3 c0 c1 c2 c3 c4 c5 c6 c7 c8;go_upto_region 12 with fail
      obtain⟨w4,hw4⟩:∃w4,w4=w3.alloc (.cells #[.int .i64 pA, .int .i64 pL] 26):=⟨_,rfl⟩;rw[<-hw4];have hT4:TB w w4 t (.slice (some ⟨b,o,none⟩) n c):=by rw[hw4];exact hT3.later (bl1 _ _)
      have hsz3:w.heap.size+2<w3.heap.size:=(zG hT3.hr);have hp4:w4.heap[w3.heap.size]?=some (.cells #[.int .i64 pA, .int .i64 pL] 26):=by rw[hw4];exact aB _ rfl
      clear hw4 hT3;obtain⟨b0,b1⟩:=aR hT4.hb rfl rfl;go_wp2_with fail;refine(dZ t (some ⟨b,o,none⟩) n c ps w4 (hk.later hT4.below) (by omega)).mono ?_;rintro e w5 ⟨v5,qs,rfl,hs,hOB,hb5⟩;have hql:i<qs.length:=by rw[<-hs.1,hpl.out];exact hi
      rcases hOB.row.2 with ⟨-,h0⟩|⟨g,cap,cur,rfl,hg1,hg2, -⟩
      ·omega
      clear b0 b1;go_upto_region 15 with fail
      obtain⟨w6,hw6⟩:∃w6,w6=w5.alloc (eZ t (.slice (some ⟨g,0,none⟩) qs.length cap)):=⟨_,rfl⟩;rw[<-hw6];have hT6:TB w w6 t (.slice (some ⟨b,o,none⟩) n c):=by rw[hw6];exact(hT4.later hb5).later (bl1 _ _)
      have hp6:w6.heap[w3.heap.size]?=some (.cells #[.int .i64 pA, .int .i64 pL] 26):=by rw[hw6];exact aG _ (aA hb5 hp4)
      have hn6:w6.heap[w5.heap.size]?=some (eZ t (.slice (some ⟨g,0,none⟩) qs.length cap)):=by rw[hw6];exact aB _ rfl
      have hg6:w6.heap[g]?=some (.cells cur 85):=by rw[hw6];exact aG _ hg2
      have hOB6:dJ w6.drew w4.heap.size (.slice (some ⟨g,0,none⟩) qs.length cap) qs qs.length:=by
       rw[hw6];exact hOB.later (bl1 _ _).drew
      have hs6:w4.heap.size<=w6.drew.heap.size:=by rw[hw6];have:=hb5.size;simp;omega
      clear hw6 hOB hb5 hg2 hp4;have hsp:=hs.2 i (by rw[hpl.out];exact hi);have hqn:(poAt qs i).n<=32:=by rw[<-hsp.2.2.2.2.2.2.2.2.1];omega
      have hql2:(i:Int)<qs.length:=by omega
      obtain⟨m0,m1⟩:=aR hn6 rfl rfl;obtain⟨p0,p1⟩:=aR hp6 rfl rfl;have hadd:=sO ⟨pA,pL,1,ow,0⟩ w4.heap.size g qs.length cap qs i w6.drew hOB6 hql hqn hs6;go_region_with (go_at_call 88;refine hadd.mono ?_;rintro e w7 ⟨rfl,x',c',ls',hput,hOB7,hg7⟩);all_goals have hgd:w6.grownBy w7 (some g):=⟨hg7.os,hg7.tape,hg7.output,hg7.size,hg7.block⟩
      all_goals have hT7:=hT6.grown hgd hg6 (Nat.le_trans hT4.below.size hg1)
      all_goals have hp7:=fF hgd hp6 (lS hg6 hp6 (by decide))
      all_goals have hn7:=fF hgd hn6 (lS hg6 hn6 (by decide))
      all_goals clear m0 m1 p0 p1 hadd
      all_goals obtain⟨m0,m1⟩:=aR hn7 rfl rfl
      all_goals obtain⟨p0,p1⟩:=aR hp7 rfl rfl
      all_goals have n1:¬w3.heap.size=w.heap.size+1:=by omega
      all_goals have n2:¬w3.heap.size=w.heap.size+1+1:=by omega
      all_goals have n3:¬w3.heap.size=w.heap.size+2:=by omega
      all_goals have hsz:w.heap.size+2<w4.heap.size:=(zG hT4.hr)
      all_goals obtain⟨b0,b1⟩:=aR hT7.hb rfl rfl
      all_goals obtain⟨s0,s1⟩:=aR hT7.hs rfl rfl
      all_goals obtain⟨r0,r1⟩:=aR hT7.hr rfl rfl
      all_goals obtain⟨zs0,zs1⟩:=bW hT7.hs
      all_goals obtain⟨zr0,zr1⟩:=bW hT7.hr
      all_goals go_wp2_with fail
      all_goals go_region_with fail
      all_goals go_wp2
      all_goals refine bodyPost_ret (v:= .tuple #[.agg #[.int .i64 t, .slice (some ⟨g,0,none⟩) qs.length cap], .agg #[.int .i64 pA, .int .i64 pL], .int .i64 0]) (by simp[results,Tryz.results97,go_sem,s0,s1,r0,r1]) rfl ?_
      all_goals have hsz1:w.heap.size+1<w4.heap.size:=by omega
      all_goals have hfin:=(hT7.fin (.int .i64 t) (.slice (some ⟨g,0,none⟩) qs.length cap) (.int .i64 pA) (.int .i64 pL)).drew
      all_goals have hob:=(((((hOB7.put (o:=0) (u:= .int .i64 t) hsz1).put (o:=1) (u:= .slice (some ⟨g,0,none⟩) qs.length cap) hsz1).put (o:=0) (u:= .int .i64 pA) hsz).put (o:=1) (u:= .int .i64 pL) hsz).later (zD).drew).low hT4.below.size
      all_goals have hput2:gG ⟨pA,pL,1,ow,0⟩ (poAt ps i).ls ls':=by rw[hsp.2.2.2.2.2.2.2.2.2];exact hput
      all_goals exact⟨_,qs.set i (aW (poAt qs i) x' ls'.length c' ls'),t,pA,pL,by rw[hE0],hfin,hob,fun h=>absurd hE0 h,fun _=>⟨rfl,by rw[hto,<-hzz.out,hpA.out,hpL.out],qs,x',c',ls',hs,by rw[hto];exact hput2,by rw[hto]⟩⟩
     ·have hne:cE t ps id z ow=dR (poAt ps i) zz/\dR (poAt ps i) zz≠0:=⟨hE1,hpe⟩;go_wp2_with fail;refine hpf.mono ?_;rintro e w3 ⟨rfl,hb3⟩;have hT3:=hT2.later hb3;clear b0 b1 s0 s1 r0 r1 zs0 zs1 zr0 zr1 hb3 c0 c1 c2 c3 c4 c5 c6 c7 c8;go_upto_region 12 with fail
      obtain⟨w4,hw4⟩:∃w4,w4=w3.alloc (.cells #[.int .i64 (dS (poAt ps i) zz).1, .int .i64 (dS (poAt ps i) zz).2] 26):=⟨_,rfl⟩;rw[<-hw4];have hT4:TB w w4 t (.slice (some ⟨b,o,none⟩) n c):=by rw[hw4];exact hT3.later (bl1 _ _)
      clear hw4 hT3;obtain⟨b0,b1⟩:=aR hT4.hb rfl rfl;obtain⟨s0,s1⟩:=aR hT4.hs rfl rfl;obtain⟨r0,r1⟩:=aR hT4.hr rfl rfl;obtain⟨zs0,zs1⟩:=bW hT4.hs;obtain⟨zr0,zr1⟩:=bW hT4.hr;go_wp2;refine bodyPost_ret (v:= .tuple #[.agg #[.int .i64 0, .slice none 0 0], .agg #[.int .i64 0, .int .i64 0], .int .i64 (dR (poAt ps i) zz)]) (by simp[results,Tryz.results97,go_sem,s0,s1,r0,r1]) rfl ?_;exact jS.err hne (hT4.fin _ _ _ _)
 ·have hne:cE t ps id z ow=aS t ps/\aS t ps≠0:=⟨if_pos hc0,hc0⟩;go_wp2_with fail;refine hck.mono ?_;rintro e w1 ⟨rfl,hb1⟩;have hT1:=hT0.later hb1;clear b0 b1 s0 s1 r0 r1 zs0 zs1 zr0 zr1 hck hb1;obtain⟨b0,b1⟩:=aR hT1.hb rfl rfl;obtain⟨s0,s1⟩:=aR hT1.hs rfl rfl;obtain⟨r0,r1⟩:=aR hT1.hr rfl rfl;obtain⟨zs0,zs1⟩:=bW hT1.hs;obtain⟨zr0,zr1⟩:=bW hT1.hr;go_wp2;refine bodyPost_ret (v:= .tuple #[.agg #[.int .i64 0, .slice none 0 0], .agg #[.int .i64 0, .int .i64 0], .int .i64 (aS t ps)]) (by simp[results,Tryz.results97,go_sem,s0,s1,r0,r1]) rfl ?_;exact jS.err hne (hT1.fin _ _ _ _)
theorem oC(hi:i<=qs.length)(j:Nat):poAt (qs.take i++[e]++qs.drop i) j=if j<i then poAt qs j else if j=i then e else poAt qs (j- 1):=by
 have hl:(qs.take i).length=i:=by rw[List.length_take];omega
 unfold poAt;simp only[zF,List.append_assoc];by_cases h1:j<i
 ·rw[if_pos h1,List.getElem?_append_left (by omega),List.getElem?_take_of_lt h1]
 ·rw[if_neg h1,List.getElem?_append_right (by omega),hl];by_cases h2:j=i
  ·subst h2;simp
  ·rw[if_neg h2,show j- i=(j- i- 1)+1 by omega];simp only[List.singleton_append,List.getElem?_cons_succ,List.getElem?_drop];rw[show i+(j- i- 1)=j- 1 by omega]
theorem dJ.ins(h:dJ W base v qs qs.length)(hi:i<=qs.length)(hb:Below W.heap.size W W')(h1:e.x=none)(h2:e.n=0)(h3:e.c=0)(h4:e.ls=[])(hr:dD W' base v' (qs.take i++[e]++qs.drop i)):
  dJ W' base v' (qs.take i++[e]++qs.drop i) (qs.take i++[e]++qs.drop i).length:=by
 have hl:(qs.take i++[e]++qs.drop i).length=qs.length+1:=by simp;omega
 have heo:(Value.slice e.x e.n e.c).ownBlock=none:=by rw[h1,h2,h3];rfl
 refine⟨hr,fun j hj=>?_,fun j hj hj2=>by omega,fun j k hj hk hjk b hbj hbk=>?_⟩
 ·rw[oC hi];by_cases c1:j<i
  ·rw[if_pos c1];exact(h.own j (by omega)).later hb
  ·rw[if_neg c1];by_cases c2:j=i
   ·rw[if_pos c2,h1,h2,h3,h4];exact World.ownsRow_nil _ _ _ _
   ·rw[if_neg c2];exact(h.own (j- 1) (by omega)).later hb
 ·rw[oC hi]at hbj hbk;by_cases c1:j<i
  ·rw[if_pos c1]at hbj;by_cases d1:k<i
   ·rw[if_pos d1]at hbk;exact h.apart j k (by omega) (by omega) hjk b hbj hbk
   ·rw[if_neg d1]at hbk;by_cases d2:k=i
    ·rw[if_pos d2,heo]at hbk;cases hbk
    ·rw[if_neg d2]at hbk;exact h.apart j (k- 1) (by omega) (by omega) (by omega) b hbj hbk
  ·rw[if_neg c1]at hbj;by_cases c2:j=i
   ·rw[if_pos c2,heo]at hbj;cases hbj
   ·rw[if_neg c2]at hbj;by_cases d1:k<i
    ·rw[if_pos d1]at hbk;exact h.apart (j- 1) k (by omega) (by omega) (by omega) b hbj hbk
    ·rw[if_neg d1]at hbk;by_cases d2:k=i
     ·rw[if_pos d2,heo]at hbk;cases hbk
     ·rw[if_neg d2]at hbk;exact h.apart (j- 1) (k- 1) (by omega) (by omega) (by omega) b hbj hbk
theorem dJ.putBox{t:TypeId}(h:dJ w base v ps ps.length)(hb:w.heap[b]?=some (.cells cs t))(h1:t≠85)(h2:t≠87):dJ (w.setCell ⟨b,o,none⟩ u) base v ps ps.length:=
 ⟨h.row.kept (aI _ _ _ _) (fun k hk e=>by subst e;exact h.row.ne hb h1 hk),fun i hi=>(h.own i hi).kept (aI _ _ _ _) (fun k hk e=>by subst e;exact(h.own i hi).ne hb h2 hk),fun i hi hi2=>by omega,h.apart⟩
def gZ(e:Po)(qs rs:List Po):Prop:=∃i,i<=qs.length/\(∀j,j<i->¬e.id<(poAt qs j).id)/\(i<qs.length->e.id<(poAt qs i).id)/\rs=qs.take i++[e]++qs.drop i
def Q1(t:Int)(ps:List Po)(e:Po)(w:World)(r:Ending)(w':World):Prop:=
 ∃v qs rs,r= .returned (.agg #[.int .i64 t,v])/\Below w.heap.size w w'/\cB ps qs/\gZ e qs rs/\dJ w' w.heap.size v rs rs.length
theorem sQ(t:Int)(x:Option Addr)(n c:Nat)(ps:List Po)(e:Po)(w:World)(hk:Bk w x n c ps)(hn:n<=8)(h1:e.x=none)(h2:e.n=0)(h3:e.c=0)(h4:e.ls=[]):
  Calls Tryz.prog 86 #[.agg #[.int .i64 t, .slice x n c], .agg #[.int .i64 e.id, .int .i64 e.up, .int .i64 e.a, .int .i64 e.l, .int .i64 e.mn, .int .i64 e.mx, .int .i64 e.us, .int .i64 e.co, .slice none 0 0]] w (Q1 t ps e w):=by
 have hpl:Hid (ps.length=n):=hk.ps.len;go_enter Tryz.func86,Tryz.ntmps86;go_upto_region 1 with fail
 obtain⟨w0,hw0⟩:∃w0,w0=((w.alloc (eZ t (.slice x n c))).alloc (.cells #[.int .i64 e.id, .int .i64 e.up, .int .i64 e.a, .int .i64 e.l, .int .i64 e.mn, .int .i64 e.mx, .int .i64 e.us, .int .i64 e.co, .slice none 0 0] 85)).alloc (eZ 0 (.slice none 0 0)):=⟨_,rfl⟩;rw[<-hw0];have hB0:Below w.heap.size w w0:=by rw[hw0];exact(bO w _ _).alloc (by simp;omega) _
 have hx0:w0.heap[w.heap.size]?=some (eZ t (.slice x n c)):=by rw[hw0];exact aG _ (aG _ (aB _ rfl))
 have hx1:w0.heap[w.heap.size+1]?=some (.cells #[.int .i64 e.id, .int .i64 e.up, .int .i64 e.a, .int .i64 e.l, .int .i64 e.mn, .int .i64 e.mx, .int .i64 e.us, .int .i64 e.co, .slice none 0 0] 85):=by rw[hw0];exact aG _ (aB _ (by simp))
 have hx2:w0.heap[w.heap.size+2]?=some (eZ 0 (.slice none 0 0)):=by rw[hw0];exact aB _ (by simp)
 clear hw0;have hsz:w.heap.size+2<w0.heap.size:=(zG hx2);obtain⟨b0,b1⟩:=aR hx0 rfl rfl;go_wp2_with fail;refine(dZ t x n c ps w0 (hk.later hB0) (by omega)).mono ?_;rintro r w1 ⟨v1,qs,rfl,hs,hOB,hb1⟩;obtain⟨xq,cq,rfl,hbk⟩:=hOB.bk (fun i hi=>by rw[<-(hs.2 i (by rw[hs.1];exact hi)).2.2.2.2.2.2.2.2.1];exact(hk.ps.leases i (by rw[<-hpl.out,hs.1];exact hi)).2.1);have hxq:(xq=none/\cq=0)\/∃b o,xq=some ⟨b,o,none⟩:=by
  rcases hOB.row.2 with ⟨hv, -⟩|⟨g2,cap2,cur2,hv, -⟩
  ·simp only[Value.slice.injEq]at hv;exact .inl ⟨hv.1,hv.2.2⟩
  ·simp only[Value.slice.injEq]at hv;exact .inr ⟨_,_,hv.1⟩
 have hql:Hid (qs.length=n):=by unfold Hid;rw[<-hs.1];exact hpl.out
 clear b0 b1;go_upto_region 2 with fail
 obtain⟨w2,hw2⟩:∃w2,w2=w1.alloc (eZ t (.slice xq qs.length cq)):=⟨_,rfl⟩;rw[<-hw2];have hb12:Below w1.heap.size w1 w2:=by rw[hw2];exact bl1 _ _
 have hb2:Below w0.heap.size w0 w2:=hb1.trans (hb12.mono hb1.size);have hn2:w2.heap[w1.heap.size]?=some (eZ t (.slice xq qs.length cq)):=by rw[hw2];exact aB _ rfl
 clear hw2;have hp2:=aA hb2 hx1;have hr2:=aA hb2 hx2;have n1:=aP hn2 1 rfl;have n1':∀o,(w2.alloc o).cell? ⟨w1.heap.size,1,none⟩=some (.slice xq qs.length cq):=fun o=>aF (bl1 w2 o) n1;have p0:=aP hp2 0 rfl;have p0':∀o,(w2.alloc o).cell? ⟨w.heap.size+1,0,none⟩=some (.int .i64 e.id):=fun o=>aF (bl1 w2 o) p0;have p1:=aP hp2 1 rfl;have p1':∀o,(w2.alloc o).cell? ⟨w.heap.size+1,1,none⟩=some (.int .i64 e.up):=fun o=>aF (bl1 w2 o) p1;have p2:=aP hp2 2 rfl;have p2':∀o,(w2.alloc o).cell? ⟨w.heap.size+1,2,none⟩=some (.int .i64 e.a):=fun o=>aF (bl1 w2 o) p2;have p3:=aP hp2 3 rfl;have p3':∀o,(w2.alloc o).cell? ⟨w.heap.size+1,3,none⟩=some (.int .i64 e.l):=fun o=>aF (bl1 w2 o) p3;have p4:=aP hp2 4 rfl;have p4':∀o,(w2.alloc o).cell? ⟨w.heap.size+1,4,none⟩=some (.int .i64 e.mn):=fun o=>aF (bl1 w2 o) p4;have p5:=aP hp2 5 rfl;have p5':∀o,(w2.alloc o).cell? ⟨w.heap.size+1,5,none⟩=some (.int .i64 e.mx):=fun o=>aF (bl1 w2 o) p5;have p6:=aP hp2 6 rfl;have p6':∀o,(w2.alloc o).cell? ⟨w.heap.size+1,6,none⟩=some (.int .i64 e.us):=fun o=>aF (bl1 w2 o) p6;have p7:=aP hp2 7 rfl;have p7':∀o,(w2.alloc o).cell? ⟨w.heap.size+1,7,none⟩=some (.int .i64 e.co):=fun o=>aF (bl1 w2 o) p7;have p8:=aP hp2 8 rfl;have p8':∀o,(w2.alloc o).cell? ⟨w.heap.size+1,8,none⟩=some (.slice none 0 0):=fun o=>aF (bl1 w2 o) p8;have hput:=fun W (hW:Below w2.heap.size w2 W) hby=>Q0 e xq qs.length cq qs w2.heap.size 1 W ((hbk.later hb12).later hW).ps (by rw[hql.out];omega) hbk.nc hbk.cm hxq hby;rw[h1,h2,h3]at hput;go_wp2_with fail;refine(hput _ (bl1 w2 _) (by simp)).mono ?_;rintro r w3 ⟨v3,rfl,hb3,i,hi,hlow,hup,hO3⟩;obtain⟨rs,hrs⟩:∃rs,Hid (rs=qs.take i++[e]++qs.drop i):=⟨_,rfl⟩;have hb23:Below w2.heap.size w2 w3:=(bl1 w2 _).trans (hb3.mono (by simp));have hb13:Below w1.heap.size w1 w3:=hb12.trans (hb23.mono hb12.size);have hins:=hOB.ins hi hb13 h1 h2 h3 h4 (hO3.low (by have:=hb2.size;simp;omega));rw[<-hrs.out]at hO3 hins;obtain⟨x3,c3,rfl, -⟩:=hO3.mem;have hn3:=aA hb23 hn2;have hr3:=aA hb23 hr2;have hB3:Below w.heap.size w w3:=hB0.trans ((hb1.trans (hb13.mono hb1.size)).mono hB0.size);have hs1:w.heap.size+2<w1.heap.size:=Nat.lt_of_lt_of_le hsz hb1.size;clear hb3 hb23 hput n1 n1';have m0:=aP hn3 0 rfl;have m1:=aP hn3 1 rfl;have zm:=(aC hn3).2 1;obtain⟨s0,s1⟩:=aR hr3 rfl rfl;obtain⟨zs0,zs1⟩:=bW hr3;have ne1:¬w1.heap.size=w.heap.size+2:=by omega
 have ne2:¬w.heap.size+2=w1.heap.size:=by omega
 go_wp2;refine bodyPost_ret (v:= .agg #[.int .i64 t, .slice x3 rs.length c3]) (by simp[results,Tryz.results86,go_sem,s0,s1]) rfl ?_;have hfin:=((hB3.setCell (p:=⟨w1.heap.size,1,none⟩) (by show w.heap.size<=w1.heap.size;omega) (.slice x3 rs.length c3)).setCell (p:=⟨w.heap.size+2,0,none⟩) (zA) (.int .i64 t)).setCell (p:=⟨w.heap.size+2,1,none⟩) (zA) (.slice x3 rs.length c3);have hob:=(((hins.putBox (o:=1) (u:= .slice x3 rs.length c3) hn3 (by decide) (by decide)).put (o:=0) (u:= .int .i64 t) hsz).put (o:=1) (u:= .slice x3 rs.length c3) hsz).low hB0.size;exact⟨_,qs,rs,rfl,hfin,hs,⟨i,hi,fun j hj=>by have:=hlow j hj;omega,hup,hrs.out⟩,hob⟩
def lT(ps:List Po)(l mn mx us co:Int):Int:=if dC mn mx us co l=false then 1 else if ps.length=8 then 2 else 0
theorem sR(t a l mn mx us co:Int)(x:Option Addr)(n c:Nat)(ps:List Po)(hl:ps.length=n)(w:World):
  Calls Tryz.prog 85 #[.agg #[.int .i64 t, .slice x n c], .agg #[.int .i64 a, .int .i64 l], .agg #[.int .i64 mn, .int .i64 mx, .int .i64 us, .int .i64 co]] w fun e w'=>e= .returned (.int .i64 (lT ps l mn mx us co))/\Below w.heap.size w w':=by
 unfold lT;rw[hl];have hB:Below w.heap.size w (((w.alloc (.cells #[.int .i64 t, .slice x n c] 37)).alloc (.cells #[.int .i64 a, .int .i64 l] 26)).alloc (.cells #[.int .i64 mn, .int .i64 mx, .int .i64 us, .int .i64 co] 32)):=(bO w _ _).alloc (by simp;omega) _;have hru:=qG mn mx us co a l (((w.alloc (.cells #[.int .i64 t, .slice x n c] 37)).alloc (.cells #[.int .i64 a, .int .i64 l] 26)).alloc (.cells #[.int .i64 mn, .int .i64 mx, .int .i64 us, .int .i64 co] 32))
 cases hr:dC mn mx us co l with
 |false=>
  rw[hr]at hru
  rw[if_pos rfl]
  go_enter Tryz.func85,Tryz.ntmps85
  go_wp2_with fail
  refine hru.mono ?_
  rintro e w1 ⟨rfl,hb1⟩
  go_wp2
  go_ret
  exact⟨rfl,hB.trans (hb1.mono hB.size)⟩
 |true=>
  rw[hr]at hru
  rw[if_neg (by simp)]
  by_cases h8:n=8
  ·rw[if_pos h8];subst h8;go_enter Tryz.func85,Tryz.ntmps85;go_wp2_with fail;refine hru.mono ?_;rintro e w1 ⟨rfl,hb1⟩;have hx:w1.heap[w.heap.size]?=some (.cells #[.int .i64 t, .slice x 8 c] 37):=aA hb1 (aG _ (aG _ (aB _ rfl)));have d1:=aP hx 1 rfl;have hB2:=hB.trans (hb1.mono hB.size);clear hb1;go_wp2;go_ret;exact⟨rfl,hB2⟩
  ·have h8':¬(n:Int)=8:=by omega
   rw[if_neg h8];go_enter Tryz.func85,Tryz.ntmps85;go_wp2_with fail;refine hru.mono ?_;rintro e w1 ⟨rfl,hb1⟩;have hx:w1.heap[w.heap.size]?=some (.cells #[.int .i64 t, .slice x n c] 37):=aA hb1 (aG _ (aG _ (aB _ rfl)));have d1:=aP hx 1 rfl;have hB2:=hB.trans (hb1.mono hB.size);clear hb1;go_wp2;go_ret;exact⟨rfl,hB2⟩
def eV(t:Int)(ps:List Po)(id a l mn mx us co:Int):Int:=
 if aS t ps≠0 then aS t ps else if dE id 1 65536=false\/tW a l≠0 then 3 else if 0<=aO ps id\/anyAt ps.length (iX ps a l)=true then 6 else lT ps l mn mx us co
def fO(t:Int)(ps:List Po)(id a l mn mx us co:Int)(w:World)(r:Ending)(w':World):Prop:=
 ∃v rs t',r= .returned (.tuple #[.agg #[.int .i64 t',v], .int .i64 (eV t ps id a l mn mx us co)])/\Below w.heap.size w w'/\dJ w' w.heap.size v rs rs.length/\
  (eV t ps id a l mn mx us co≠0->t'=0/\rs=[])/\(eV t ps id a l mn mx us co=0->t'=t/\∃qs,cB ps qs/\gZ ⟨id,0,a,l,mn,mx,us,co,none,0,0,[]⟩ qs rs)
theorem fO.err{id:Int}(hE:eV t ps id a l mn mx us co=E/\E≠0)(hb:Below w.heap.size w w'):
  fO t ps id a l mn mx us co w (.returned (.tuple #[.agg #[.int .i64 0, .slice none 0 0], .int .i64 E])) w':=
 ⟨_,[],0,by rw[hE.1],hb,dJ.nil _ _,fun _=>⟨rfl,rfl⟩,fun h=>absurd (hE.1.symm.trans h) hE.2⟩
structure TO(w W:World)(t a l mn mx us co:Int)(v:Value):Prop where
 hb:W.heap[w.heap.size]?=some (eZ t v)
 hp:W.heap[w.heap.size+1]?=some (.cells #[.int .i64 a, .int .i64 l] 26)
 hu:W.heap[w.heap.size+2]?=some (.cells #[.int .i64 mn, .int .i64 mx, .int .i64 us, .int .i64 co] 32)
 hs:W.heap[w.heap.size+3]?=some (eZ 0 (.slice none 0 0))
 below:Below w.heap.size w W
theorem TO.later(h:TO w W t a l mn mx us co v)(hb:Below W.heap.size W W'):TO w W' t a l mn mx us co v:=
 ⟨aA hb h.hb,aA hb h.hp,aA hb h.hu,aA hb h.hs,h.below.trans (hb.mono h.below.size)⟩
theorem Q2(t:Int)(x:Option Addr)(n c:Nat)(ps:List Po)(id a l mn mx us co:Int)(w:World)(hk:Bk w x n c ps):
  Calls Tryz.prog 46 #[.agg #[.int .i64 t, .slice x n c], .int .i64 id, .agg #[.int .i64 a, .int .i64 l], .agg #[.int .i64 mn, .int .i64 mx, .int .i64 us, .int .i64 co]] w (fO t ps id a l mn mx us co w):=by
 have hpl:Hid (ps.length=n):=hk.ps.len;go_enter Tryz.func46,Tryz.ntmps46;go_upto_region 1 with fail
 obtain⟨w0,hw0⟩:∃w0,w0=(((w.alloc (eZ t (.slice x n c))).alloc (.cells #[.int .i64 a, .int .i64 l] 26)).alloc (.cells #[.int .i64 mn, .int .i64 mx, .int .i64 us, .int .i64 co] 32)).alloc (eZ 0 (.slice none 0 0)):=⟨_,rfl⟩;rw[<-hw0];have hT0:TO w w0 t a l mn mx us co (.slice x n c):=by
  rw[hw0];exact⟨aG _ (aG _ (aG _ (aB _ rfl))),aG _ (aG _ (aB _ (by simp))),aG _ (aB _ (by simp)),aB _ (by simp),((bO w _ _).alloc (by simp;omega) _).alloc (by simp;omega) _⟩
 clear hw0;obtain⟨b0,b1⟩:=aR hT0.hb rfl rfl;obtain⟨a0,a1⟩:=aR hT0.hp rfl rfl;obtain⟨u0,u1,u2,u3⟩:=dL hT0.hu rfl rfl rfl rfl;obtain⟨s0,s1⟩:=aR hT0.hs rfl rfl;obtain⟨zs0,zs1⟩:=bW hT0.hs;have hck:=fA t x n c ps w0 (hk.later hT0.below);by_cases hc0:aS t ps=0
 ·rw[hc0]at hck;have hE1:Hid (eV t ps id a l mn mx us co=if dE id 1 65536=false\/tW a l≠0 then 3 else if 0<=aO ps id\/anyAt ps.length (iX ps a l)=true then 6 else lT ps l mn mx us co):=if_neg (c:=aS t ps≠0) (by simp[hc0]);have hn8:n<=8:=by rw[<-hpl.out];exact sP hc0
  go_wp2_with fail;refine(hck).mono ?_;rintro e w1 ⟨rfl,hb1⟩;have hT1:=hT0.later hb1;clear b0 b1 a0 a1 u0 u1 u2 u3 s0 s1 zs0 zs1;obtain⟨b0,b1⟩:=aR hT1.hb rfl rfl;obtain⟨a0,a1⟩:=aR hT1.hp rfl rfl;obtain⟨u0,u1,u2,u3⟩:=dL hT1.hu rfl rfl rfl rfl;obtain⟨s0,s1⟩:=aR hT1.hs rfl rfl;obtain⟨zs0,zs1⟩:=bW hT1.hs
  cases hid:dE id 1 65536 with
  |false=>
   have hne:eV t ps id a l mn mx us co=3/\(3:Int)≠0:=⟨hE1.out.trans (if_pos (.inl hid)),by decide⟩
   go_wp2_with fail
   refine(isId_is id false hid _).mono ?_
   rintro e w1 ⟨rfl,rfl⟩
   go_wp2
   refine bodyPost_ret (v:= .tuple #[.agg #[.int .i64 0, .slice none 0 0], .int .i64 3]) (by simp[results,Tryz.results46,go_sem,s0,s1]) rfl ?_
   exact fO.err hne ((hT1.below.setCell (p:=⟨w.heap.size+3,0,none⟩) (zA) _).setCell (p:=⟨w.heap.size+3,1,none⟩) (zA) _)
  |true=>
   go_wp2_with fail
   refine(isId_is id true hid _).mono ?_
   rintro e w1 ⟨rfl,rfl⟩
   have hcp:=check_any a l w1
   by_cases hcz:tW a l=0
   ·rw[hcz]at hcp;have hE2:Hid (eV t ps id a l mn mx us co=if 0<=aO ps id\/anyAt ps.length (iX ps a l)=true then 6 else lT ps l mn mx us co):=hE1.out.trans (if_neg (c:=dE id 1 65536=false\/tW a l≠0) (by simp[hid,hcz]));go_wp2_with fail;refine(hcp).mono ?_;rintro e w2 ⟨rfl,hb2⟩;have hT2:=hT1.later hb2;clear b0 b1 a0 a1 u0 u1 u2 u3 s0 s1 zs0 zs1;obtain⟨b0,b1⟩:=aR hT2.hb rfl rfl;obtain⟨a0,a1⟩:=aR hT2.hp rfl rfl;obtain⟨u0,u1,u2,u3⟩:=dL hT2.hu rfl rfl rfl rfl;obtain⟨s0,s1⟩:=aR hT2.hs rfl rfl;obtain⟨zs0,zs1⟩:=bW hT2.hs;have hpc:=pplace_any t id x n c ps w2 (hk.later hT2.below).ps (by omega);by_cases hat:aO ps id<0
    ·have hge:¬(0<=aO ps id):=by omega
     go_wp2_with fail;refine(hpc).mono ?_;rintro e w3 ⟨rfl,hb3⟩;have hT3:=hT2.later hb3;clear b0 b1 a0 a1 u0 u1 u2 u3 s0 s1 zs0 zs1;obtain⟨b0,b1⟩:=aR hT3.hb rfl rfl;obtain⟨a0,a1⟩:=aR hT3.hp rfl rfl;obtain⟨u0,u1,u2,u3⟩:=dL hT3.hu rfl rfl rfl rfl;obtain⟨s0,s1⟩:=aR hT3.hs rfl rfl;obtain⟨zs0,zs1⟩:=bW hT3.hs;have hmt:=sJ a l x n c ps w3 (hk.later hT3.below).ps (by omega)
     cases hany:anyAt n (iX ps a l)with
     |true=>
      rw[hany]at hmt
      have hne:eV t ps id a l mn mx us co=6/\(6:Int)≠0:=⟨hE2.out.trans (if_pos (.inr (by rw[hpl.out];exact hany))),by decide⟩
      go_wp2_with fail
      refine(hmt).mono ?_
      rintro e w4 ⟨rfl,hb4⟩
      have hT4:=hT3.later hb4
      clear b0 b1 a0 a1 u0 u1 u2 u3 s0 s1 zs0 zs1
      obtain⟨b0,b1⟩:=aR hT4.hb rfl rfl
      obtain⟨a0,a1⟩:=aR hT4.hp rfl rfl
      obtain⟨u0,u1,u2,u3⟩:=dL hT4.hu rfl rfl rfl rfl
      obtain⟨s0,s1⟩:=aR hT4.hs rfl rfl
      obtain⟨zs0,zs1⟩:=bW hT4.hs
      go_wp2
      refine bodyPost_ret (v:= .tuple #[.agg #[.int .i64 0, .slice none 0 0], .int .i64 6]) (by simp[results,Tryz.results46,go_sem,s0,s1]) rfl ?_
      exact fO.err hne ((hT4.below.setCell (p:=⟨w.heap.size+3,0,none⟩) (zA) _).setCell (p:=⟨w.heap.size+3,1,none⟩) (zA) _)
     |false=>
      rw[hany]at hmt
      have hE3:eV t ps id a l mn mx us co=lT ps l mn mx us co:=hE2.out.trans (if_neg (c:=0<=aO ps id\/anyAt ps.length (iX ps a l)=true) (by rw[hpl.out,hany];simp;omega))
      go_wp2_with fail
      refine(hmt).mono ?_
      rintro e w4 ⟨rfl,hb4⟩
      have hT4:=hT3.later hb4
      clear b0 b1 a0 a1 u0 u1 u2 u3 s0 s1 zs0 zs1
      obtain⟨b0,b1⟩:=aR hT4.hb rfl rfl
      obtain⟨a0,a1⟩:=aR hT4.hp rfl rfl
      obtain⟨u0,u1,u2,u3⟩:=dL hT4.hu rfl rfl rfl rfl
      obtain⟨s0,s1⟩:=aR hT4.hs rfl rfl
      obtain⟨zs0,zs1⟩:=bW hT4.hs
      have hae:=sR t a l mn mx us co x n c ps hpl.out w4
      by_cases hz:lT ps l mn mx us co=0
      ·rw[hz]at hae;have hE0:eV t ps id a l mn mx us co=0:=hE3.trans hz;go_wp2_with fail;refine(hae).mono ?_;rintro e w5 ⟨rfl,hb5⟩;have hT5:=hT4.later hb5;clear b0 b1 a0 a1 u0 u1 u2 u3 s0 s1 zs0 zs1;obtain⟨b0,b1⟩:=aR hT5.hb rfl rfl;obtain⟨a0,a1⟩:=aR hT5.hp rfl rfl;obtain⟨u0,u1,u2,u3⟩:=dL hT5.hu rfl rfl rfl rfl;obtain⟨s0,s1⟩:=aR hT5.hs rfl rfl;obtain⟨zs0,zs1⟩:=bW hT5.hs;have hsz5:w.heap.size+3<w5.heap.size:=(zG hT5.hs);go_wp2_with fail;refine(sQ t x n c ps ⟨id,0,a,l,mn,mx,us,co,none,0,0,[]⟩ w5 (hk.later hT5.below) hn8 rfl rfl rfl rfl).mono ?_;rintro e w6 ⟨v6,qs,rs,rfl,hb6,hs,hput,hOB⟩;obtain⟨x6,c6,rfl, -⟩:=hOB.row.mem;have hT6:=hT5.later hb6;clear b0 b1 a0 a1 u0 u1 u2 u3 s0 s1 zs0 zs1;obtain⟨b0,b1⟩:=aR hT6.hb rfl rfl;obtain⟨a0,a1⟩:=aR hT6.hp rfl rfl;obtain⟨u0,u1,u2,u3⟩:=dL hT6.hu rfl rfl rfl rfl;obtain⟨s0,s1⟩:=aR hT6.hs rfl rfl;obtain⟨zs0,zs1⟩:=bW hT6.hs;go_wp2;refine bodyPost_ret (v:= .tuple #[.agg #[.int .i64 t, .slice x6 rs.length c6], .int .i64 0]) (by simp[results,Tryz.results46,go_sem,s0,s1]) rfl ?_;have hfin:=(hT6.below.setCell (p:=⟨w.heap.size+3,0,none⟩) (zA) (.int .i64 t)).setCell (p:=⟨w.heap.size+3,1,none⟩) (zA) (.slice x6 rs.length c6);have hob:=((hOB.put (o:=0) (u:= .int .i64 t) hsz5).put (o:=1) (u:= .slice x6 rs.length c6) hsz5).low hT5.below.size;exact⟨_,rs,t,by rw[hE0],hfin,hob,fun h=>absurd hE0 h,fun _=>⟨rfl,qs,hs,hput⟩⟩
      ·have hne:eV t ps id a l mn mx us co=lT ps l mn mx us co/\lT ps l mn mx us co≠0:=⟨hE3,hz⟩;go_wp2_with fail;refine(hae).mono ?_;rintro e w5 ⟨rfl,hb5⟩;have hT5:=hT4.later hb5;clear b0 b1 a0 a1 u0 u1 u2 u3 s0 s1 zs0 zs1;obtain⟨b0,b1⟩:=aR hT5.hb rfl rfl;obtain⟨a0,a1⟩:=aR hT5.hp rfl rfl;obtain⟨u0,u1,u2,u3⟩:=dL hT5.hu rfl rfl rfl rfl;obtain⟨s0,s1⟩:=aR hT5.hs rfl rfl;obtain⟨zs0,zs1⟩:=bW hT5.hs;go_wp2;refine bodyPost_ret (v:= .tuple #[.agg #[.int .i64 0, .slice none 0 0], .int .i64 (lT ps l mn mx us co)]) (by simp[results,Tryz.results46,go_sem,s0,s1]) rfl ?_;exact fO.err hne ((hT5.below.setCell (p:=⟨w.heap.size+3,0,none⟩) (zA) _).setCell (p:=⟨w.heap.size+3,1,none⟩) (zA) _)
    ·have hge:0<=aO ps id:=by omega
     have hne:eV t ps id a l mn mx us co=6/\(6:Int)≠0:=⟨hE2.out.trans (if_pos (.inl (by omega))),by decide⟩;go_wp2_with fail;refine(hpc).mono ?_;rintro e w3 ⟨rfl,hb3⟩;have hT3:=hT2.later hb3;clear b0 b1 a0 a1 u0 u1 u2 u3 s0 s1 zs0 zs1;obtain⟨b0,b1⟩:=aR hT3.hb rfl rfl;obtain⟨a0,a1⟩:=aR hT3.hp rfl rfl;obtain⟨u0,u1,u2,u3⟩:=dL hT3.hu rfl rfl rfl rfl;obtain⟨s0,s1⟩:=aR hT3.hs rfl rfl;obtain⟨zs0,zs1⟩:=bW hT3.hs;go_wp2;refine bodyPost_ret (v:= .tuple #[.agg #[.int .i64 0, .slice none 0 0], .int .i64 6]) (by simp[results,Tryz.results46,go_sem,s0,s1]) rfl ?_;exact fO.err hne ((hT3.below.setCell (p:=⟨w.heap.size+3,0,none⟩) (zA) _).setCell (p:=⟨w.heap.size+3,1,none⟩) (zA) _)
   ·have hne:eV t ps id a l mn mx us co=3/\(3:Int)≠0:=⟨hE1.out.trans (if_pos (.inr hcz)),by decide⟩;go_wp2_with fail;refine(hcp).mono ?_;rintro e w2 ⟨rfl,hb2⟩;have hT2:=hT1.later hb2;clear b0 b1 a0 a1 u0 u1 u2 u3 s0 s1 zs0 zs1;obtain⟨b0,b1⟩:=aR hT2.hb rfl rfl;obtain⟨a0,a1⟩:=aR hT2.hp rfl rfl;obtain⟨u0,u1,u2,u3⟩:=dL hT2.hu rfl rfl rfl rfl;obtain⟨s0,s1⟩:=aR hT2.hs rfl rfl;obtain⟨zs0,zs1⟩:=bW hT2.hs;go_wp2;refine bodyPost_ret (v:= .tuple #[.agg #[.int .i64 0, .slice none 0 0], .int .i64 3]) (by simp[results,Tryz.results46,go_sem,s0,s1]) rfl ?_;exact fO.err hne ((hT2.below.setCell (p:=⟨w.heap.size+3,0,none⟩) (zA) _).setCell (p:=⟨w.heap.size+3,1,none⟩) (zA) _)
 ·have hne:eV t ps id a l mn mx us co=aS t ps/\aS t ps≠0:=⟨if_pos hc0,hc0⟩;go_wp2_with fail;refine(hck).mono ?_;rintro e w1 ⟨rfl,hb1⟩;have hT1:=hT0.later hb1;clear b0 b1 a0 a1 u0 u1 u2 u3 s0 s1 zs0 zs1;obtain⟨b0,b1⟩:=aR hT1.hb rfl rfl;obtain⟨a0,a1⟩:=aR hT1.hp rfl rfl;obtain⟨u0,u1,u2,u3⟩:=dL hT1.hu rfl rfl rfl rfl;obtain⟨s0,s1⟩:=aR hT1.hs rfl rfl;obtain⟨zs0,zs1⟩:=bW hT1.hs;go_wp2;refine bodyPost_ret (v:= .tuple #[.agg #[.int .i64 0, .slice none 0 0], .int .i64 (aS t ps)]) (by simp[results,Tryz.results46,go_sem,s0,s1]) rfl ?_;exact fO.err hne ((hT1.below.setCell (p:=⟨w.heap.size+3,0,none⟩) (zA) _).setCell (p:=⟨w.heap.size+3,1,none⟩) (zA) _)
theorem cD.take(h:cD w base (.slice (some ⟨g,0,none⟩) n cap) es)(i:Nat)(hi:i<=es.length):cD w base (.slice (some ⟨g,0,none⟩) i cap) (es.take i):=by
 have:=GH h i hi;unfold cD;rw[EE flatL gM uO es i,List.length_take,Nat.min_eq_left hi];exact this
theorem JL(hO:cD w base (.slice (some ⟨g,0,none⟩) m cap) es)(n c:Nat)(hn:0<n)(hm:es.length+n<=cap)(ty:TypeId):
  ∃w',(Builtin.clear_ #[83] ty #[.slice (some ⟨g,es.length*5,none⟩) n c]).run Tryz.prog w= .ok (.tuple #[]) w'/\cD w' base (.slice (some ⟨g,0,none⟩) m cap) es/\w.grownBy w' (some g):=CM VG hO n c hn hm ty
theorem GU(base g k cap i j:Nat)(es:List Le)(w:World)(hO:cD w base (.slice (some ⟨g,0,none⟩) (k+1) cap) es)(hn:es.length=k+1)(hi:i<=k)(hj:j=i+1)(hn64:k<=64)(hnc:k+1<=cap)(hcm:cap<=9223372036854775807):
  Calls Tryz.prog 152 #[.slice (some ⟨g,0,none⟩) (k+1) cap, .int .i64 i, .int .i64 j] w fun e w'=>e= .returned (.slice (some ⟨g,0,none⟩) k cap)/\cD w' base (.slice (some ⟨g,0,none⟩) k cap) (es.take i++es.drop j)/\w.grownBy w' (some g):=
 (pM.1 _ _ VG base g k cap i j (flatL es) w (by unfold cD at hO;rw[hn]at hO;exact hO) (pP es) hi hj hn64 hnc hcm).mono fun e w1 h=>⟨h.1,pJ flatL gM uO hn (by omega) hj h.2.1,h.2.2⟩
theorem GV(base g k cap i j:Nat)(es:List Po)(w:World)(hO:dD w base (.slice (some ⟨g,0,none⟩) (k+1) cap) es)(hn:es.length=k+1)(hi:i<=k)(hj:j=i+1)(hn64:k<=64)(hnc:k+1<=cap)(hcm:cap<=9223372036854775807):
  Calls Tryz.prog 93 #[.slice (some ⟨g,0,none⟩) (k+1) cap, .int .i64 i, .int .i64 j] w fun e w'=>e= .returned (.slice (some ⟨g,0,none⟩) k cap)/\dD w' base (.slice (some ⟨g,0,none⟩) k cap) (es.take i++es.drop j)/\w.grownBy w' (some g):=
 (pM.2.1 _ _ YH base g k cap i j (flatP es) w (by unfold dD at hO;rw[hn]at hO;exact hO) (pQ es) hi hj hn64 hnc hcm).mono fun e w1 h=>⟨h.1,pJ flatP eN CQ hn (by omega) hj h.2.1,h.2.2⟩
structure dT(base:Nat)(w w':World):Prop where
 os:w'.os=w.os
 tape:w'.tape=w.tape
 output:w'.output=w.output
 size:w.heap.size<=w'.heap.size
 low:∀k,k<base->w'.heap[k]?=w.heap[k]?
 box:∀(k:Nat) (cs:Array Value) (t:TypeId),w.heap[k]?=some (.cells cs t)->t≠85->t≠87->w'.heap[k]?=some (.cells cs t)
theorem dT.below(h:dT base w w'):Below base w w':=⟨h.os,h.tape,h.output,h.size,h.low⟩
theorem dT.trans(h:dT base w w')(h2:dT base w' w''):dT base w w'':=
 ⟨h2.os.trans h.os,h2.tape.trans h.tape,h2.output.trans h.output,Nat.le_trans h.size h2.size,fun k hk=>(h2.low k hk).trans (h.low k hk),fun k cs t hc h1 h3=>h2.box k cs t (h.box k cs t hc h1 h3) h1 h3⟩
theorem dT.of_below(hb:Below w.heap.size w w')(hs:base<=w.heap.size):dT base w w':=
 ⟨hb.os,hb.tape,hb.output,hb.size,fun k hk=>hb.block k (Nat.lt_of_lt_of_le hk hs),fun _ _ _ h _ _=>aA hb h⟩
theorem dT.of_grown(hg:w.grownBy w' (some g))(hb:base<=g)(hs:base<=w.heap.size)(hc:w.heap[g]?=some (.cells cur T))(hT:T=85\/T=87):dT base w w':=
 ⟨hg.os,hg.tape,hg.output,hg.size,fun k hk=>hg.block k (Nat.lt_of_lt_of_le hk hs) (fun e=>by simp only[Option.some.injEq]at e;omega),fun k cs t h h1 h2=>fF hg h (lS hc h (fun e=>by rcases hT with rfl|rfl;exact h1 e.symm;exact h2 e.symm))⟩
theorem eK(h3:w.grownBy w' r)(h6:w'.grownBy w'' r):w.grownBy w'' r:=
 ⟨h6.os.trans h3.os,h6.tape.trans h3.tape,h6.output.trans h3.output,Nat.le_trans h3.size h6.size,fun m hm hne=>(h6.block m (Nat.lt_of_lt_of_le hm h3.size) hne).trans (h3.block m hm hne)⟩
theorem yX{ps:List Le}{p:Le}(hi:i<ps.length):aN (ps.set i p) j=if i=j then p else aN ps j:=by
 unfold aN;rw[zF,zF,List.getElem?_set];by_cases h:i=j
 ·subst h;rw[if_pos rfl,if_pos rfl,if_pos hi];rfl
 ·rw[if_neg h,if_neg h]
theorem NH(es:List Le)(j:Nat)(e:Le)(hj:j<es.length):
  (((((flatL es).set (j*5) (.int .i64 e.a)).set (j*5+1) (.int .i64 e.l)).set (j*5+2) (.int .i64 e.kd)).set (j*5+3) (.int .i64 e.ow)).set (j*5+4) (.int .i64 e.un)=flatL (es.set j e):=by
 refine List.ext_getElem? fun q=>?_;by_cases hq:q<es.length*5
 ·have hi:q/5<es.length:=by omega
  have hr:q%5<5:=by omega
  have e1:q=(q/5)*5+q%5:=by omega
  rw[e1];generalize q/5=i at hi;generalize q%5=r at hr;clear hq e1;rw[yU _ _ _ (by rw[List.length_set];exact hi) hr,yX hj];simp only[List.getElem?_set,List.length_set,gM];by_cases h1:j=i
  ·subst h1;rw[if_pos rfl];rcases r with _|_|_|_|_|r
   case succ.succ.succ.succ.succ=>omega
   all_goals simp only[cL,List.getElem?_cons_zero,List.getElem?_cons_succ]
   all_goals repeat(first|rw[if_pos trivial]|rw[if_pos (by omega)]|rw[if_neg (by omega)])
  ·rw[if_neg h1,if_neg (by omega),if_neg (by omega),if_neg (by omega),if_neg (by omega),if_neg (by omega),yU _ _ _ hi hr]
 ·rw[List.getElem?_eq_none (by simp only[List.length_set,gM];omega),List.getElem?_eq_none (by rw[gM,List.length_set];omega)]
theorem hZ{z:Nat}{cs:List Value}(h:w.ownsRow base T z (.slice (some ⟨g,0,none⟩) n cap) m cs)(k:Nat)(u:Value)(hk:k<m*z):
  (w.setCell ⟨g,k,none⟩ u).ownsRow base T z (.slice (some ⟨g,0,none⟩) n cap) m (cs.set k u):=by
 rcases h.2 with ⟨hv, -⟩|⟨g',cap',cur,hv,h1,h2,h3,h4,h5,h6⟩
 ·simp at hv
 ·simp only[Value.slice.injEq,Option.some.injEq,Addr.mk.injEq]at hv;obtain⟨⟨rfl, -⟩,rfl,rfl⟩:=hv;refine⟨by rw[List.length_set];exact h.1, .inr ⟨g,cap,cur.setIfInBounds k u,rfl,h1,heap_setCell_same w g _ _ _ _ h2,h3,h4,by simpa using h5,?_⟩⟩;rw[Array.toList_setIfInBounds,List.take_set,h6]
theorem cD.set(h:cD w base (.slice (some ⟨g,0,none⟩) n cap) es)(j:Nat)(e:Le)(hj:j<es.length):
  cD (((((w.setCell ⟨g,j*5,none⟩ (.int .i64 e.a)).setCell ⟨g,j*5+1,none⟩ (.int .i64 e.l)).setCell ⟨g,j*5+2,none⟩ (.int .i64 e.kd)).setCell ⟨g,j*5+3,none⟩ (.int .i64 e.ow)).setCell ⟨g,j*5+4,none⟩ (.int .i64 e.un)) base (.slice (some ⟨g,0,none⟩) n cap) (es.set j e):=by
 unfold cD at h⊢;rw[<-NH es j e hj,List.length_set];exact hZ (hZ (hZ (hZ (hZ h _ _ (by omega)) _ _ (by omega)) _ _ (by omega)) _ _ (by omega)) _ _ (by omega)
theorem yY(w:World)(g o1 o2 o3 o4 o5:Nat)(a b c d e:Value):w.grownBy (((((w.setCell ⟨g,o1,none⟩ a).setCell ⟨g,o2,none⟩ b).setCell ⟨g,o3,none⟩ c).setCell ⟨g,o4,none⟩ d).setCell ⟨g,o5,none⟩ e) (some g):=
 eK (eK (eK (eK (aI _ _ _ _) (aI _ _ _ _)) (aI _ _ _ _)) (aI _ _ _ _)) (aI _ _ _ _)
theorem cD.block(h:cD w base (.slice (some ⟨g,0,none⟩) n cap) es):base<=g/\∃cur,w.heap[g]?=some (.cells cur 87):=pI h
theorem JM(qs:List Po)(i:Nat)(hi:i<qs.length)(ls:List Le):flatP (qs.set i (aW (poAt qs i) (poAt qs i).x (poAt qs i).n (poAt qs i).c ls))=flatP qs:=by
 refine List.ext_getElem? fun q=>?_;by_cases hq:q<qs.length*9
 ·have e1:q=(q/9)*9+q%9:=by omega
  rw[e1,lR _ _ _ (by rw[List.length_set];omega) (by omega),lR _ _ _ (by omega) (by omega),dF hi];by_cases h1:i=q/9
  ·rw[if_pos h1,<-h1];rfl
  ·rw[if_neg h1]
 ·rw[List.getElem?_eq_none (by rw[eN,List.length_set];omega),List.getElem?_eq_none (by rw[eN];omega)]
theorem dJ.turned{ls:List Le}(h:dJ W base (.slice (some ⟨g,0,none⟩) n cap) qs qs.length)(hi:i<qs.length)(hx:(poAt qs i).x=some ⟨g2,0,none⟩)(hg:W.grownBy W1 (some g2))(ho:cD W1 base (.slice (some ⟨g2,0,none⟩) m c') ls):
  dD W1 base (.slice (some ⟨g,0,none⟩) n cap) qs/\g≠g2/\(∀j,j<qs.length->cD W1 base (.slice (poAt (qs.set i (aW (poAt qs i) (some ⟨g2,0,none⟩) m c' ls)) j).x (poAt (qs.set i (aW (poAt qs i) (some ⟨g2,0,none⟩) m c' ls)) j).n (poAt (qs.set i (aW (poAt qs i) (some ⟨g2,0,none⟩) m c' ls)) j).c) (poAt (qs.set i (aW (poAt qs i) (some ⟨g2,0,none⟩) m c' ls)) j).ls)/\
   (∀j k,j<qs.length->k<qs.length->j≠k->∀b,(Value.slice (poAt (qs.set i (aW (poAt qs i) (some ⟨g2,0,none⟩) m c' ls)) j).x (poAt (qs.set i (aW (poAt qs i) (some ⟨g2,0,none⟩) m c' ls)) j).n (poAt (qs.set i (aW (poAt qs i) (some ⟨g2,0,none⟩) m c' ls)) j).c).ownBlock=some b->(Value.slice (poAt (qs.set i (aW (poAt qs i) (some ⟨g2,0,none⟩) m c' ls)) k).x (poAt (qs.set i (aW (poAt qs i) (some ⟨g2,0,none⟩) m c' ls)) k).n (poAt (qs.set i (aW (poAt qs i) (some ⟨g2,0,none⟩) m c' ls)) k).c).ownBlock≠some b):=by
 obtain⟨hbg,cur,hgc⟩:=h.row.block;have hob:(Value.slice (poAt qs i).x (poAt qs i).n (poAt qs i).c).ownBlock=some g2:=by rw[hx];rfl
 have hne:g≠g2:=fun e=>(h.own i hi).ne hgc (by decide) (by rw[hob,e]);refine⟨h.row.kept hg (fun k hk=>?_),hne,fun j hj=>?_,fun j k hj hk hjk b hbj hbk=>?_⟩
 ·simp only[Value.ownBlock,Option.some.injEq]at hk;rw[<-hk];exact hne
 ·rw[dF hi];by_cases e:i=j
  ·rw[if_pos e];exact ho
  ·rw[if_neg e];exact(h.own j hj).kept hg (fun k hk e2=>h.apart j i hj hi (fun e3=>e e3.symm) k hk (by rw[hob,e2]))
 ·rw[dF hi]at hbj hbk;by_cases e:i=j
  ·rw[if_pos e]at hbj;rw[if_neg (by omega)]at hbk;have hb2:some g2=some b:=hbj;exact h.apart i k hi hk (by omega) b (by rw[hob,hb2]) hbk
  ·rw[if_neg e]at hbj;by_cases e2:i=k
   ·rw[if_pos e2]at hbk;have hb2:some g2=some b:=hbk;exact h.apart j i hj hi (fun e3=>e e3.symm) b hbj (by rw[hob,hb2])
   ·rw[if_neg e2]at hbk;exact h.apart j k hj hk hjk b hbj hbk
theorem dJ.turn{ls:List Le}(h:dJ W base (.slice (some ⟨g,0,none⟩) n cap) qs qs.length)(hi:i<qs.length)(hx:(poAt qs i).x=some ⟨g2,0,none⟩)(hg:W.grownBy W1 (some g2))(ho:cD W1 base (.slice (some ⟨g2,0,none⟩) m c') ls):
  dJ (W1.setCell ⟨g,i*9+8,none⟩ (.slice (some ⟨g2,0,none⟩) m c')) base (.slice (some ⟨g,0,none⟩) n cap) (qs.set i (aW (poAt qs i) (some ⟨g2,0,none⟩) m c' ls)) (qs.set i (aW (poAt qs i) (some ⟨g2,0,none⟩) m c' ls)).length:=by
 obtain⟨hr,hne,hall,hap⟩:=h.turned hi hx hg ho;obtain⟨-,cur,hgc⟩:=hr.block;have hlen:(qs.set i (aW (poAt qs i) (some ⟨g2,0,none⟩) m c' ls)).length=qs.length:=List.length_set;exact⟨hr.set i hi _ _ c' _,fun j hj=>(hall j (by omega)).kept (aI _ _ _ _) (fun q hq e=>by subst e;exact(hall j (by omega)).ne hgc (by decide) hq),fun j hj hj2=>by omega,fun j k hj hk=>hap j k (by omega) (by omega)⟩
theorem dJ.turnIn{ls:List Le}(h:dJ W base (.slice (some ⟨g,0,none⟩) n cap) qs qs.length)(hi:i<qs.length)(hx:(poAt qs i).x=some ⟨g2,0,none⟩)(hg:W.grownBy W1 (some g2))(ho:cD W1 base (.slice (some ⟨g2,0,none⟩) (poAt qs i).n (poAt qs i).c) ls):
  dJ W1 base (.slice (some ⟨g,0,none⟩) n cap) (qs.set i (aW (poAt qs i) (some ⟨g2,0,none⟩) (poAt qs i).n (poAt qs i).c ls)) (qs.set i (aW (poAt qs i) (some ⟨g2,0,none⟩) (poAt qs i).n (poAt qs i).c ls)).length:=by
 obtain⟨hr,hne,hall,hap⟩:=h.turned hi hx hg ho;have hlen:(qs.set i (aW (poAt qs i) (some ⟨g2,0,none⟩) (poAt qs i).n (poAt qs i).c ls)).length=qs.length:=List.length_set;refine⟨?_,fun j hj=>hall j (by omega),fun j hj hj2=>by omega,fun j k hj hk=>hap j k (by omega) (by omega)⟩;have e:=JM qs i hi ls;rw[hx]at e;unfold dD at hr⊢;rw[e,hlen];exact hr
theorem Q3{v:Int}(h1: -4611686018427387904<=v)(h2:v<=4611686018427387904):IntKind.i64.wrap v=v:=by
 rw[IntKind.wrap_i64];omega
def cI(p:Po)(j:Nat)(t:Int):List Le:=if p.co=0 then p.ls.take j++p.ls.drop (j+1)else p.ls.set j ⟨(aN p.ls j).a,(aN p.ls j).l,3,0,t+p.co⟩
def Q4(base g n cap:Nat)(qs:List Po)(i j:Nat)(t:Int)(w:World)(r:Ending)(w':World):Prop:=
 r= .returned (.tuple #[])/\∃x' c',dJ w' base (.slice (some ⟨g,0,none⟩) n cap) (qs.set i (aW (poAt qs i) x' (cI (poAt qs i) j t).length c' (cI (poAt qs i) j t))) (qs.set i (aW (poAt qs i) x' (cI (poAt qs i) j t).length c' (cI (poAt qs i) j t))).length/\dT base w w'
theorem GW(base g n cap:Nat)(qs:List Po)(i j:Nat)(t:Int)(w:World)(h:dJ w base (.slice (some ⟨g,0,none⟩) n cap) qs qs.length)(hi:i<qs.length)(hj:j<(poAt qs i).n)(hn:(poAt qs i).n<=32)(hwb:base<=w.heap.size)(ht0:0<=t)(ht1:t<=1073741824)(hc0:0<=(poAt qs i).co)(hc1:(poAt qs i).co<=1024):
  Calls Tryz.prog 91 #[.pointer (some ⟨g,i*9,none⟩), .int .i64 j, .int .i64 t] w (Q4 base g n cap qs i j t w):=by
 obtain⟨hbg,cur,hg⟩:=h.row.block;obtain⟨xv,cv,he2, -, -, -,hm⟩:=h.row.mem;obtain⟨b2,o2,he3, -, -, -, -, -, -, -,c7,c8⟩:=hm i hi;simp only[Value.slice.injEq]at he2;obtain⟨hx2, -, -⟩:=he2;rw[<-hx2]at he3;simp only[Option.some.injEq,Addr.mk.injEq]at he3;obtain⟨rfl,rfl, -⟩:=he3;clear hx2 hm;have hO:=h.own i hi;obtain⟨hLS,hll,hnc,hc63⟩:=hO.ls;obtain⟨g2,hxs⟩:∃g2,(poAt qs i).x=some ⟨g2,0,none⟩:=by
  rcases hO.2 with ⟨hv, -⟩|⟨g2,cap2,cur2,hv, -⟩
  ·simp only[Value.slice.injEq]at hv;omega
  ·simp only[Value.slice.injEq]at hv;exact⟨_,hv.1⟩
 rw[hxs]at c8 hO hLS;obtain⟨hb2,cur2,hg2⟩:=hO.block;obtain⟨b3,o3,hx3,d0,d1,d2,d3,d4⟩:=hLS.cells j hj;simp only[Option.some.injEq,Addr.mk.injEq]at hx3;obtain⟨rfl,rfl, -⟩:=hx3;have c7':w.cell? ⟨g,i*9+7,none⟩=some (.int .i64 (poAt qs i).co):=by simpa using c7
 have c8':w.cell? ⟨g,i*9+8,none⟩=some (.slice (some ⟨g2,0,none⟩) (poAt qs i).n (poAt qs i).c):=by simpa using c8
 have d0':w.cell? ⟨g2,j*5,none⟩=some (.int .i64 (aN (poAt qs i).ls j).a):=by simpa using d0
 have d1':w.cell? ⟨g2,j*5+1,none⟩=some (.int .i64 (aN (poAt qs i).ls j).l):=by simpa using d1
 have d2':w.cell? ⟨g2,j*5+2,none⟩=some (.int .i64 (aN (poAt qs i).ls j).kd):=by simpa using d2
 have d3':w.cell? ⟨g2,j*5+3,none⟩=some (.int .i64 (aN (poAt qs i).ls j).ow):=by simpa using d3
 have d4':w.cell? ⟨g2,j*5+4,none⟩=some (.int .i64 (aN (poAt qs i).ls j).un):=by simpa using d4
 clear c7 c8 d0 d1 d2 d3 d4;by_cases hco:(poAt qs i).co=0
 ·obtain⟨k,hk⟩:∃k,(poAt qs i).n=k+1:=⟨(poAt qs i).n- 1,by omega⟩;rw[hk]at hO hll hnc c8';have hdel:=GU base g2 k (poAt qs i).c j (j+1) (poAt qs i).ls w hO hll (by omega) rfl (by omega) hnc hc63;rw[show((j+1:Nat):Int)=(j:Int)+1 by omega]at hdel;have hcl:Hid (cI (poAt qs i) j t=(poAt qs i).ls.take j++(poAt qs i).ls.drop (j+1)):=if_pos hco;have hlen:(cI (poAt qs i) j t).length=k:=by rw[hcl.out];simp;omega
  rw[hco]at c7';have hjk:(j:Int)<=32:=by omega
  have hj0:(0:Int)<=j:=by omega
  go_enter Tryz.func91,Tryz.ntmps91;go_wp2_with fail;refine hdel.mono ?_;rintro e w1 ⟨rfl,hO1,hg1⟩;rw[<-hcl.out]at hO1;have hk1:=dT.of_grown hg1 hb2 hwb hg2 (.inr rfl);obtain⟨hr1,hne, -, -⟩:=h.turned hi hxs hg1 hO1;obtain⟨-,cur1,hgc1⟩:=hr1.block;have f8:=(aC hgc1).2 (i*9+8);obtain⟨xw,cw,he4, -, -, -,hm4⟩:=hr1.mem;obtain⟨b4,o4,he5, -, -, -, -, -, -, -, -,k8⟩:=hm4 i hi;simp only[Value.slice.injEq]at he4;rw[<-he4.1]at he5;simp only[Option.some.injEq,Addr.mk.injEq]at he5;obtain⟨rfl,rfl, -⟩:=he5;simp only[Nat.zero_add]at k8;clear hm4 he4 c7' c8';have hOB:=h.turn hi hxs hg1 hO1;go_wp2;refine bodyPost_end (results_none Tryz.results91 _ _ _) rfl ?_;refine⟨rfl,some ⟨g2,0,none⟩,(poAt qs i).c,by rw[hlen];exact hOB,hk1.trans (dT.of_grown (aI _ _ _ _) hbg (Nat.le_trans hwb hk1.size) hgc1 (.inl rfl))⟩
 ·have hcl:Hid (cI (poAt qs i) j t=(poAt qs i).ls.set j ⟨(aN (poAt qs i).ls j).a,(aN (poAt qs i).ls j).l,3,0,t+(poAt qs i).co⟩):=if_neg hco;have hlen:(cI (poAt qs i) j t).length=(poAt qs i).n:=by rw[hcl.out,List.length_set];exact hll
  have hj0:(0:Int)<=j:=by omega
  have hjn:(j:Int)<(poAt qs i).n:=by omega
  have z0:=(aC hg2).2;have hO1:=hO.set j ⟨(aN (poAt qs i).ls j).a,(aN (poAt qs i).ls j).l,3,0,t+(poAt qs i).co⟩ (by omega);rw[<-hcl.out]at hO1;have hgr:=yY w g2 (j*5) (j*5+1) (j*5+2) (j*5+3) (j*5+4) (.int .i64 (aN (poAt qs i).ls j).a) (.int .i64 (aN (poAt qs i).ls j).l) (.int .i64 3) (.int .i64 0) (.int .i64 (t+(poAt qs i).co));have hOB:=(h.turnIn hi hxs hgr hO1).later (zD).drew;rw[<-hlen]at hOB;have hKe:dT base w _:=(dT.of_grown hgr hb2 hwb hg2 (.inr rfl)).trans (dT.of_below (zD).drew (Nat.le_trans hwb hgr.size));have hwr:Hid (IntKind.i64.wrap (t+(poAt qs i).co)=t+(poAt qs i).co):=Q3 (by omega) (by omega);go_enter Tryz.func91,Tryz.ntmps91;go_upto_region 2 with fail
  go_region_with fail;all_goals refine bodyPost_end (results_none Tryz.results91 _ _ _) rfl ?_
  all_goals rw[hwr.out]
  all_goals exact⟨rfl,some ⟨g2,0,none⟩,(poAt qs i).c,hOB,hKe⟩
end Go.Proofs.YtjphnaccgfjnjaaGreatDoor
