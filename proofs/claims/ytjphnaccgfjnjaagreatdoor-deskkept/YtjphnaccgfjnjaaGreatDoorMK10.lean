/- A part of the proof. -/
import Derived.Test.YtjphnaccgfjnjaaGreatDoorMK09
set_option maxRecDepth 100000
set_option maxHeartbeats 20000000
namespace Go.Proofs.YtjphnaccgfjnjaaGreatDoor
variable {w w' W w0 w2 : World} {base g base' b n cap i o k c ln lc rn sn : Nat} {v u vV vK V : Value} {es ls ms : List (Int × Int)} {cs : Array Value} {t : TypeId} {fr : Nat × Nat} {ad : Addr} {x lx : Option Addr} {fs us : List Vn} {e : Vn} {E vid : Int} {p q : Int × Int} {f : Nat → Bool} {rs : List Rg} {ss : List Sb} {r : Rg}
open Go.RowKit Go.Shelf
def lkAt(ls:List (Int×Int))(i:Nat):Int×Int:=ls.getD i (0,0)
def cV(e:Vn):List Value:=[.int .i64 e.id, .slice e.rx e.rn e.rc, .slice e.sx e.sn e.sc]
def flatV(es:List Vn):List Value:=es.flatMap cV
theorem KN(e:Vn):(cV e).length=3:=rfl
theorem jH:∀es:List Vn,(flatV es).length=es.length*3:=mF KN
theorem ON(es fs:List Vn):flatV (es++fs)=flatV es++flatV fs:=by simp[flatV]
theorem AO:∀(es:List Vn) (i j:Nat),i<es.length->j<3->(flatV es)[i*3+j]?=(cV (aE es i))[j]?:=sG KN X8
theorem vF(es:List Vn):∀u∈flatV es,u.oneCell'=true:=fun u hu=>by
 obtain⟨e, -,hu⟩:=List.mem_flatMap.1 hu;simp only[cV,List.mem_cons,List.not_mem_nil,or_false]at hu;rcases hu with rfl|rfl|rfl<;>rfl
def bZ(w:World)(base:Nat)(v:Value)(es:List Vn):Prop:=w.ownsRow base 92 3 v es.length (flatV es)
theorem bZ.later{es:List Vn}(h:bZ w base v es)(hb:Below w.heap.size w w'):bZ w' base v es:=eG h hb
theorem bZ.kept{es:List Vn}(h:bZ w base v es)(hg:w.grownBy w' (some g))(hne:∀k,v.ownBlock=some k->k≠g):bZ w' base v es:=fN h hg hne
theorem bZ.low{es:List Vn}(h:bZ w base v es)(hb:base'<=base):bZ w base' v es:=iV h hb
theorem bZ.lt{es:List Vn}(h:bZ w base v es):∀k,v.ownBlock=some k->base<=k/\k<w.heap.size:=World.ownsRow.lt h
theorem bZ.ne{es:List Vn}(h:bZ w base v es)(hb:w.heap[b]?=some (.cells cs t fr))(ht:t≠92):v.ownBlock≠some b:=jP h hb ht
theorem aBf:Ty 92 38 3 (.agg #[.int .i64 0, .slice none 0 0, .slice none 0 0]) 56:=sF (by kernel_rfl) (by kernel_rfl) rfl (vF [X8]) (by decide) (by decide)
theorem VS.flatV_cells{es:List Vn}(h:VS w (some ad) n es):∀j u,(flatV es)[j]?=some u->w.cell? (ad.add j)=some u:=
 jO (by decide) KN X8 h.len fun i hi=>by
  obtain⟨b,o,hx,d0,d1,d2⟩:=h.cells i hi;exact⟨b,o,hx,by rintro(_|_|_|q) u hu<;>first|(cases hu;assumption)|simp[cV]at hu⟩
theorem VS.rw{es:List Vn}(h:VS w x n es):Rw w x n 3 (flatV es):=
 ⟨by rw[jH,h.len],fun h0 e=>(by obtain⟨b,o,hx, -⟩:=h.cells 0 h0;rw[e]at hx;cases hx),vF es,fun ad hx=>by subst hx;exact h.flatV_cells⟩
theorem bZ.mem{es:List Vn}(h:bZ w base v es):∃x c,v= .slice x es.length c/\es.length<=c/\c<=9223372036854775807/\(x=none->es.length=0/\c=0)/\∀i,i<es.length->∃b o,x=some ⟨b,o,none⟩/\w.cell? ⟨b,o+i*3,none⟩=some (.int .i64 (aE es i).id)/\w.cell? ⟨b,o+i*3+1,none⟩=some (.slice (aE es i).rx (aE es i).rn (aE es i).rc)/\w.cell? ⟨b,o+i*3+2,none⟩=some (.slice (aE es i).sx (aE es i).sn (aE es i).sc):=by
 obtain⟨x,c,hv,h1,h2,h3,h4⟩:=kP h;refine⟨x,c,hv,h1,h2,h3,fun i hi=>?_⟩;obtain⟨b,o,hx,e⟩:=h4 i hi;have e:=fun j u hj hu=>e j u hj ((AO es i j hi hj).trans hu);exact⟨b,o,hx,e 0 _ (by decide) rfl,e 1 _ (by decide) rfl,e 2 _ (by decide) rfl⟩
def cK(e:(Int×Int)):List Value:=[.int .i64 e.1, .int .i64 e.2]
def flatK(es:List (Int×Int)):List Value:=es.flatMap cK
theorem KO(e:(Int×Int)):(cK e).length=2:=rfl
theorem vG:∀es:List (Int×Int),(flatK es).length=es.length*2:=mF KO
theorem DI(es fs:List (Int×Int)):flatK (es++fs)=flatK es++flatK fs:=by simp[flatK]
theorem SE:∀(es:List (Int×Int)) (i j:Nat),i<es.length->j<2->(flatK es)[i*2+j]?=(cK (lkAt es i))[j]?:=sG KO ((0:Int),(0:Int))
theorem pY(es:List (Int×Int)):∀u∈flatK es,u.oneCell'=true:=fun u hu=>by
 obtain⟨e, -,hu⟩:=List.mem_flatMap.1 hu;simp only[cK,List.mem_cons,List.not_mem_nil,or_false]at hu;rcases hu with rfl|rfl<;>rfl
def bU(w:World)(base:Nat)(v:Value)(es:List (Int×Int)):Prop:=w.ownsRow base 94 2 v es.length (flatK es)
theorem bU.later(h:bU w base v es)(hb:Below w.heap.size w w'):bU w' base v es:=eG h hb
theorem bU.kept(h:bU w base v es)(hg:w.grownBy w' (some g))(hne:∀k,v.ownBlock=some k->k≠g):bU w' base v es:=fN h hg hne
theorem bU.low(h:bU w base v es)(hb:base'<=base):bU w base' v es:=iV h hb
theorem bU.lt(h:bU w base v es):∀k,v.ownBlock=some k->base<=k/\k<w.heap.size:=World.ownsRow.lt h
theorem bU.ne(h:bU w base v es)(hb:w.heap[b]?=some (.cells cs t fr))(ht:t≠94):v.ownBlock≠some b:=jP h hb ht
theorem YX:Ty 94 39 2 (.agg #[.int .i64 0, .int .i64 0]) 16:=sF (by kernel_rfl) (by kernel_rfl) rfl (pY [((0:Int),(0:Int))]) (by decide) (by decide)
theorem PS.flatK_cells(h:PS w (some ad) n es):∀j u,(flatK es)[j]?=some u->w.cell? (ad.add j)=some u:=
 jO (by decide) KO ((0:Int),(0:Int)) h.len fun i hi=>by
  obtain⟨b,o,hx,d0,d1⟩:=h.cells i hi;exact⟨b,o,hx,by rintro(_|_|q) u hu<;>first|(cases hu;assumption)|simp[cK]at hu⟩
theorem PS.rwK(h:PS w x n es):Rw w x n 2 (flatK es):=
 ⟨by rw[vG,h.len],fun h0 e=>(by obtain⟨b,o,hx, -⟩:=h.cells 0 h0;rw[e]at hx;cases hx),pY es,fun ad hx=>by subst hx;exact h.flatK_cells⟩
theorem bU.mem(h:bU w base v es):∃x c,v= .slice x es.length c/\es.length<=c/\c<=9223372036854775807/\(x=none->es.length=0/\c=0)/\∀i,i<es.length->∃b o,x=some ⟨b,o,none⟩/\w.cell? ⟨b,o+i*2,none⟩=some (.int .i64 (lkAt es i).1)/\w.cell? ⟨b,o+i*2+1,none⟩=some (.int .i64 (lkAt es i).2):=by
 obtain⟨x,c,hv,h1,h2,h3,h4⟩:=kP h;refine⟨x,c,hv,h1,h2,h3,fun i hi=>?_⟩;obtain⟨b,o,hx,e⟩:=h4 i hi;have e:=fun j u hj hu=>e j u hj ((SE es i j hi hj).trans hu);exact⟨b,o,hx,e 0 _ (by decide) rfl,e 1 _ (by decide) rfl⟩
theorem AP(x:Option Addr)(n c:Nat)(es:List Vn)(w:World)(hl:VS w x n es)(hn:n<=1048576):
  Calls Tryz.prog 78 #[.slice x n c] w fun e w'=>∃v,e= .returned v/\bZ w' w.heap.size v es/\Below w.heap.size w w':=by
 obtain rfl:=hl.len;exact nX.2.2.2.2.2.2.1 _ _ aBf x _ c _ w hl.rw hn
theorem rP(x:Option Addr)(n c:Nat)(es:List (Int×Int))(w:World)(hl:PS w x n es)(hn:n<=1048576):
  Calls Tryz.prog 79 #[.slice x n c] w fun e w'=>∃v,e= .returned v/\bU w' w.heap.size v es/\Below w.heap.size w w':=by
 obtain rfl:=hl.len;exact nX.2.2.2.2.2.2.2 _ _ YX x _ c _ w hl.rwK hn
def SF(e:Vn)(n:Nat)(ps:List Vn)(w:World)(r:Ending)(w':World):Prop:=
 ∃v,r= .returned v/\Below w.heap.size w w'/\∃i,i<=n/\(∀j,j<i->¬e.id<(aE ps j).id)/\(i<n->e.id<(aE ps i).id)/\bZ w' w.heap.size v (ps.take i++[e]++ps.drop i)
theorem SG(e:Vn)(x:Option Addr)(n c:Nat)(ps:List Vn)(bf k:Nat)(w:World)(hp:VS w x n ps)(hn:n<=32)(hnc:n<=c)(hc63:c<=9223372036854775807)(hx:(x=none/\c=0)\/∃b o,x=some ⟨b,o,none⟩)
 (hby:w.cell? ⟨bf,0,none⟩=some (.func (.func 125) #[] #[])):
  Calls Tryz.prog 157 #[.slice x n c, .agg #[.int .i64 e.id, .slice e.rx e.rn e.rc, .slice e.sx e.sn e.sc], .slice (some ⟨bf,0,none⟩) 1 k] w (SF e n ps w):=by
 have hB2:=bO w (.cells #[.int .i64 e.id, .slice e.rx e.rn e.rc, .slice e.sx e.sn e.sc] 92) (.cells #[.slice (some ⟨bf,0,none⟩) 1 k] 263);refine(GJ.2.2.2.2.2.2.1 _ _ aBf e x n c bf 1 k (flatV ps) (fun i=>decide (e.id<(aE ps i).id)) w hp.rw (vF [e]) hn hnc hc63 hx (iL _ _ x n c ps _ _ (hp.later hB2) (by omega) (fun i hi W hW=>?_) iP.2.2.2.2.2.2.1.2)).mono ?_
 ·obtain⟨v,hv,hd⟩:=qY e.id (aE ps i).id;exact(iP.2.2.2.2.2.2.1.1 e (aE ps i) v w.heap.size (w.heap.size+1) bf 1 k W (fun i=>(hW.cell (p:=⟨w.heap.size,i,none⟩) (by show w.heap.size<_;simp;omega)).trans (by simp)) (cell_later hW (by simp)) fun W9 h9=>wN e _ v hv bf k W9 (cell_later h9 (cell_later hW (cell_later hB2 hby)))).mono fun _ _ h=>⟨h.1.trans (congrArg (fun t=>Ending.returned (.bool t)) hd.symm),h.2⟩
 ·rintro r w1 ⟨v,rfl,hb,i,hi,hlow,hup,ho⟩;exact⟨v,rfl,hb,i,hi,fun j hj=>of_decide_eq_false (hlow j hj),fun h=>of_decide_eq_true (hup h),kQ flatV jH ON hp.len hi ho⟩
def kD(p r:Int×Int):Bool:=decide (p.1<r.1)||(decide (p.1=r.1)&&decide (p.2<r.2))
theorem SH(p r:Int×Int):∃v,VQ p.1 p.2 r.1 r.2 v/\(kD p r=decide (v<0)):=by
 unfold kD;rcases Int.lt_trichotomy p.1 r.1 with h|h|h
 ·exact⟨-1, .inl ⟨h,rfl⟩,by simp[h]⟩
 ·rcases Int.lt_trichotomy p.2 r.2 with h2|h2|h2
  ·exact⟨-1, .inr (.inl ⟨h, .inl ⟨h2,rfl⟩⟩),by simp[h,h2]⟩
  ·exact⟨0, .inr (.inl ⟨h, .inr (.inl ⟨h2,rfl⟩)⟩),by simp[h,h2]⟩
  ·exact⟨1, .inr (.inl ⟨h, .inr (.inr ⟨h2,rfl⟩)⟩),by simp[h];omega⟩
 ·exact⟨1, .inr (.inr ⟨h,rfl⟩),by simp;omega⟩
def SI(e:(Int×Int))(n:Nat)(ps:List (Int×Int))(w:World)(r:Ending)(w':World):Prop:=
 ∃v,r= .returned v/\Below w.heap.size w w'/\∃i,i<=n/\(∀j,j<i->kD e (lkAt ps j)=false)/\(i<n->kD e (lkAt ps i)=true)/\bU w' w.heap.size v (ps.take i++[e]++ps.drop i)
theorem SJ(e:(Int×Int))(x:Option Addr)(n c:Nat)(ps:List (Int×Int))(bf k:Nat)(w:World)(hp:PS w x n ps)(hn:n<=32)(hnc:n<=c)(hc63:c<=9223372036854775807)(hx:(x=none/\c=0)\/∃b o,x=some ⟨b,o,none⟩)
 (hby:w.cell? ⟨bf,0,none⟩=some (.func (.func 111) #[] #[]))(hby2:w.cell? ⟨bf,1,none⟩=some (.func (.func 112) #[] #[])):
  Calls Tryz.prog 110 #[.slice x n c, .agg #[.int .i64 e.1, .int .i64 e.2], .slice (some ⟨bf,0,none⟩) 2 k] w (SI e n ps w):=by
 have hB2:=bO w (.cells #[.int .i64 e.1, .int .i64 e.2] 94) (.cells #[.slice (some ⟨bf,0,none⟩) 2 k] 256);refine(GJ.2.2.2.2.2.2.2 _ _ YX e x n c bf 2 k (flatK ps) (fun i=>kD e (lkAt ps i)) w hp.rwK (pY [e]) hn hnc hc63 hx (xL _ _ x n c ps _ _ (hp.later hB2) (by omega) (fun i hi W hW=>?_) iP.2.2.2.2.2.2.2.2)).mono ?_
 ·obtain⟨v,hv,hd⟩:=SH e (lkAt ps i);exact(iP.2.2.2.2.2.2.2.1 e (lkAt ps i) v w.heap.size (w.heap.size+1) bf 2 k W (fun i=>(hW.cell (p:=⟨w.heap.size,i,none⟩) (by show w.heap.size<_;simp;omega)).trans (by simp)) (cell_later hW (by simp)) fun W9 h9=>wO e.1 e.2 _ _ v hv bf k W9 (cell_later h9 (cell_later hW (cell_later hB2 hby))) (cell_later h9 (cell_later hW (cell_later hB2 hby2)))).mono fun _ _ h=>⟨h.1.trans (congrArg (fun t=>Ending.returned (.bool t)) hd.symm),h.2⟩
 ·rintro r w1 ⟨v,rfl,hb,i,hi,hlow,hup,ho⟩;exact⟨v,rfl,hb,i,hi,hlow,hup,kQ flatK vG DI hp.len hi ho⟩
theorem HZ(base g k cap i j:Nat)(es:List (Int×Int))(w:World)(hO:bU w base (.slice (some ⟨g,0,none⟩) (k+1) cap) es)(hn:es.length=k+1)(hi:i<=k)(hj:j=i+1)(hn64:k<=64)(hnc:k+1<=cap)(hcm:cap<=9223372036854775807):
  Calls Tryz.prog 114 #[.slice (some ⟨g,0,none⟩) (k+1) cap, .int .i64 i, .int .i64 j] w fun e w'=>e= .returned (.slice (some ⟨g,0,none⟩) k cap)/\bU w' base (.slice (some ⟨g,0,none⟩) k cap) (es.take i++es.drop j)/\w.grownBy w' (some g):=
 (pM.2.2.2.2.2 _ _ YX base g k cap i j (flatK es) w (by unfold bU at hO;rw[hn]at hO;exact hO) (pY es) hi hj hn64 hnc hcm).mono fun e w1 h=>⟨h.1,pJ flatK vG DI hn (by omega) hj h.2.1,h.2.2⟩
theorem bZ.frozen(h:bZ w base (.slice (some ⟨g,0,none⟩) n cap) fs)(i:Nat):w.frozen? ⟨g,i,none⟩=false:=mG h i
theorem bZ.block(h:bZ w base (.slice (some ⟨g,0,none⟩) n cap) fs):base<=g/\∃cur,w.heap[g]?=some (.cells cur 92):=pI h
theorem bZ.cells(h:bZ w base (.slice (some ⟨g,0,none⟩) n cap) fs)(q:Nat)(hq:q<fs.length):
  w.cell? ⟨g,q*3,none⟩=some (.int .i64 (aE fs q).id)/\w.cell? ⟨g,q*3+1,none⟩=some (.slice (aE fs q).rx (aE fs q).rn (aE fs q).rc)/\w.cell? ⟨g,q*3+2,none⟩=some (.slice (aE fs q).sx (aE fs q).sn (aE fs q).sc):=by
 obtain⟨x2,c2,he2, -, -, -,hm'⟩:=h.mem;simp only[Value.slice.injEq]at he2;obtain⟨b2,o2,he3,c7,c8,c9⟩:=hm' q hq;rw[<-he2.1]at he3;simp only[Option.some.injEq,Addr.mk.injEq]at he3;obtain⟨rfl,rfl, -⟩:=he3;exact⟨by simpa using c7,by simpa using c8,by simpa using c9⟩
theorem bZ.held(h:bZ w base v fs)(hf:0<fs.length):∃g cap,v= .slice (some ⟨g,0,none⟩) fs.length cap:=by
 rcases h.2 with ⟨-,h0⟩|⟨g,cap,cur,hv, -⟩
 ·omega
 ·exact⟨g,cap,hv⟩
theorem eO(hi:i<fs.length)(e:Vn)(j:Nat):aE (fs.set i e) j=if i=j then e else aE fs j:=by
 unfold aE;rw[zF,List.getElem?_set,zF];by_cases h:i=j
 ·subst h;rw[if_pos rfl,if_pos rfl,if_pos hi];rfl
 ·rw[if_neg h,if_neg h]
theorem KP(fs:List Vn)(i:Nat)(e:Vn)(hi:i<fs.length):(((flatV fs).set (i*3) (.int .i64 e.id)).set (i*3+1) (.slice e.rx e.rn e.rc)).set (i*3+2) (.slice e.sx e.sn e.sc)=flatV (fs.set i e):=by
 refine List.ext_getElem? fun j=>?_;by_cases hj:j<fs.length*3
 ·have e1:j=(j/3)*3+j%3:=by omega
  have hq:j/3<fs.length:=by omega
  rw[e1,AO _ _ _ (by rw[List.length_set];exact hq) (by omega),eO hi,List.getElem?_set,List.length_set,List.length_set,List.getElem?_set,List.length_set,List.getElem?_set,jH];by_cases h1:i=j/3
  ·rw[if_pos h1];have h3:j%3=0\/j%3=1\/j%3=2:=by omega
   rcases h3 with h3|h3|h3
   ·rw[if_neg (by omega),if_neg (by omega),if_pos (by omega),if_pos (by omega),h3];rfl
   ·rw[if_neg (by omega),if_pos (by omega),if_pos (by omega),h3];rfl
   ·rw[if_pos (by omega),if_pos (by omega),h3];rfl
  ·rw[if_neg h1,if_neg (by omega),if_neg (by omega),if_neg (by omega),AO _ _ _ hq (by omega)]
 ·rw[List.getElem?_eq_none (by rw[List.length_set,List.length_set,List.length_set,jH];omega),List.getElem?_eq_none (by rw[jH,List.length_set];omega)]
def iZ(w:World)(g i:Nat)(e:Vn):World:=((w.setCell ⟨g,i*3,none⟩ (.int .i64 e.id)).setCell ⟨g,i*3+1,none⟩ (.slice e.rx e.rn e.rc)).setCell ⟨g,i*3+2,none⟩ (.slice e.sx e.sn e.sc)
theorem bZ.setE(h:bZ w base (.slice (some ⟨g,0,none⟩) n cap) fs)(i:Nat)(hi:i<fs.length)(e:Vn):
  bZ (iZ w g i e) base (.slice (some ⟨g,0,none⟩) n cap) (fs.set i e):=by
 rcases h.2 with ⟨hv, -⟩|⟨g',cap',cur,hv,h1,h2,h3,h4,h5,h6⟩
 ·simp at hv
 ·simp only[Value.slice.injEq,Option.some.injEq,Addr.mk.injEq]at hv;obtain⟨⟨rfl, -⟩,rfl,rfl⟩:=hv;refine⟨jH _, .inr ⟨g,cap,((cur.setIfInBounds (i*3) (.int .i64 e.id)).setIfInBounds (i*3+1) (.slice e.rx e.rn e.rc)).setIfInBounds (i*3+2) (.slice e.sx e.sn e.sc),by rw[List.length_set],h1,heap_setCell_same _ g _ _ _ _ (heap_setCell_same _ g _ _ _ _ (heap_setCell_same w g _ _ _ _ h2)),by rw[List.length_set];exact h3,h4,by simpa using h5,?_⟩⟩;rw[List.length_set,Array.toList_setIfInBounds,Array.toList_setIfInBounds,Array.toList_setIfInBounds,List.take_set,List.take_set,List.take_set,h6,KP fs i e hi]
theorem fZ(h:b≠g):(iZ w g i e).heap[b]?=w.heap[b]?:=
 (zB h).trans ((zB h).trans (zB h))
theorem mN(h:Below n w W)(hg:n<=g):Below n w (iZ W g i e):=
 ((h.setCell (p:=⟨g,i*3,none⟩) hg _).setCell (p:=⟨g,i*3+1,none⟩) hg _).setCell (p:=⟨g,i*3+2,none⟩) hg _
theorem kW(a b:Int)(w:World):
  Calls Tryz.prog 109 #[.int .i64 a, .int .i64 b] w fun e w'=>e= .returned (.agg #[.int .i64 (min a b), .int .i64 (max a b)])/\Below w.heap.size w w':=by
 go_enter Tryz.func109,Tryz.ntmps109;go_wp2;refine bodyPost_ret (v:= .agg #[.int .i64 (min a b), .int .i64 (max a b)]) (by simp[results,Tryz.results109,go_sem]) rfl ⟨rfl,?_⟩;exact bl1 _ _
def mC(w:World)(base:Nat)(v:Vn):Prop:=bM w base (.slice v.rx v.rn v.rc) v.rs/\iR w base (.slice v.sx v.sn v.sc) v.ss v.ss.length
theorem mC.later{v:Vn}(h:mC w base v)(hb:Below w.heap.size w w'):mC w' base v:=⟨bM.later h.1 hb,h.2.later hb⟩
theorem mC.low{v:Vn}(h:mC w base v)(hb:base'<=base):mC w base' v:=⟨h.1.low hb,h.2.low hb⟩
theorem mC.putBox{v:Vn}(h:mC w base v)(hb:w.heap[b]?=some (.cells cs t))(h0:t≠127)(h1:t≠130)(h2:t≠133)(h3:t≠3):mC (w.setCell ⟨b,o,none⟩ u) base v:=
 ⟨h.1.putBox hb h0,h.2.putBox hb h1 h2 h3⟩
theorem mC.put{v:Vn}(h:mC w base v)(hb:b<base):mC (w.setCell ⟨b,o,none⟩ u) base v:=⟨h.1.put hb,h.2.put hb⟩
theorem mC.vp{v:Vn}(h:mC w base v):v.rn<=9223372036854775807/\v.sn<=9223372036854775807/\v.rc<=9223372036854775807/\Vp w v.rx v.rn v.rc v.rs v.sx v.sn v.sc v.ss:=by
 obtain⟨x1,c1,e1,h1,h2,h3⟩:=h.1.rs;obtain⟨x2,c2,e2,g1,g2,g3⟩:=h.2.subs;simp only[Value.slice.injEq]at e1 e2;obtain⟨rfl,hrn,rfl⟩:=e1;obtain⟨rfl,hsn,rfl⟩:=e2;rw[hrn,hsn];exact⟨by omega,by omega,h3,⟨h2,g2,h1,g1⟩⟩
def nF(v u:Vn):Prop:=v.id=u.id/\v.rn=u.rn/\v.rs=u.rs/\v.sn=u.sn/\bQ v.ss u.ss
def bV(vs us:List Vn):Prop:=vs.length=us.length/\∀i,i<vs.length->nF (aE vs i) (aE us i)
theorem nF.refl(v:Vn):nF v v:=⟨rfl,rfl,rfl,rfl,bQ.refl _⟩
theorem bV.refl(vs:List Vn):bV vs vs:=⟨rfl,fun _ _=>nF.refl _⟩
theorem bV.set{vs:List Vn}{u:Vn}(h:bV vs us)(hk:k<us.length)(hu:nF (aE vs k) u):bV vs (us.set k u):=by
 refine⟨by rw[List.length_set];exact h.1,fun i hi=>?_⟩;rw[eO hk];split
 ·rename_i e;rw[<-e];exact hu
 ·exact h.2 i hi
theorem mC.setN{v:Vn}(h:mC w base v)(hO:bZ w base' (.slice (some ⟨g,0,none⟩) n cap) fs):mC (iZ w g k e) base v:=by
 obtain⟨-,cur,hg⟩:=hO.block;have h1:=h.putBox (o:=k*3) (u:= .int .i64 e.id) hg (by decide) (by decide) (by decide) (by decide);have g1:=heap_setCell_same w g (k*3) _ _ (.int .i64 e.id) hg;have h2:=h1.putBox (o:=k*3+1) (u:= .slice e.rx e.rn e.rc) g1 (by decide) (by decide) (by decide) (by decide);have g2:=heap_setCell_same _ g (k*3+1) _ _ (.slice e.rx e.rn e.rc) g1;exact h2.putBox (o:=k*3+2) (u:= .slice e.sx e.sn e.sc) g2 (by decide) (by decide) (by decide) (by decide)
theorem bU.setN(h:bU w base v ls)(hO:bZ w base' (.slice (some ⟨g,0,none⟩) n cap) fs):bU (iZ w g k e) base v ls:=by
 obtain⟨-,cur,hg⟩:=hO.block;have h1:bU (w.setCell ⟨g,k*3,none⟩ (.int .i64 e.id)) base v ls:=h.kept (aI _ _ _ _) (fun q hq e=>by subst e;exact h.ne hg (by decide) hq);have g1:=heap_setCell_same w g (k*3) _ _ (.int .i64 e.id) hg;have h2:bU ((w.setCell ⟨g,k*3,none⟩ (.int .i64 e.id)).setCell ⟨g,k*3+1,none⟩ (.slice e.rx e.rn e.rc)) base v ls:=h1.kept (aI _ _ _ _) (fun q hq e=>by subst e;exact h1.ne g1 (by decide) hq);have g2:=heap_setCell_same _ g (k*3+1) _ _ (.slice e.rx e.rn e.rc) g1;exact h2.kept (aI _ _ _ _) (fun q hq e=>by subst e;exact h2.ne g2 (by decide) hq)
theorem bZ.put{vs:List Vn}(h:bZ w base v vs)(hb:b<base):bZ (w.setCell ⟨b,o,none⟩ u) base v vs:=
 h.kept (aI _ _ _ _) (fun k hk=>by have:=h.lt k hk;omega)
theorem bU.put(h:bU w base v ls)(hb:b<base):bU (w.setCell ⟨b,o,none⟩ u) base v ls:=
 h.kept (aI _ _ _ _) (fun k hk=>by have:=h.lt k hk;omega)
abbrev eD(v l:Value):Obj:= .cells #[v,l] 41
theorem E9{vs:List Vn}(hy:w2.heap[b]?=some (eD (.slice none 0 0) (.slice none 0 0)))(hb:w0.heap.size<=b)(hO1:bZ w2 w0.heap.size vV vs)(hO2:bU w2 w0.heap.size vK ls)(hB:Below w0.heap.size w0 w2):
  bZ ((w2.setCell ⟨b,0,none⟩ vV).setCell ⟨b,1,none⟩ vK) w0.heap.size vV vs/\bU ((w2.setCell ⟨b,0,none⟩ vV).setCell ⟨b,1,none⟩ vK) w0.heap.size vK ls/\((w2.setCell ⟨b,0,none⟩ vV).setCell ⟨b,1,none⟩ vK).heap[b]?=some (eD vV vK)/\Below w0.heap.size w0 ((w2.setCell ⟨b,0,none⟩ vV).setCell ⟨b,1,none⟩ vK):=by
 have n1:∀k,vV.ownBlock=some k->k≠b:=fun k hk e=>by subst e;exact hO1.ne hy (by decide) hk
 have n2:∀k,vK.ownBlock=some k->k≠b:=fun k hk e=>by subst e;exact hO2.ne hy (by decide) hk
 refine⟨(hO1.kept (aI _ _ _ _) n1).kept (aI _ _ _ _) n1,(hO2.kept (aI _ _ _ _) n2).kept (aI _ _ _ _) n2,?_,(hB.setCell hb _).setCell hb _⟩;have h1:=heap_setCell_same w2 b 0 _ _ vV hy;have h2:=heap_setCell_same _ b 1 _ _ vK h1;simpa using h2
def YY(vs:List Vn)(ls:List (Int×Int))(w:World)(e:Ending)(w':World):Prop:=
 ∃vV vK us,e= .returned (.agg #[vV,vK])/\bV vs us/\bZ w' w.heap.size vV us/\(∀i,i<us.length->mC w' w.heap.size (aE us i))/\bU w' w.heap.size vK ls/\Below w.heap.size w w'
def YZ(v:Vn):Prop:=v.rn<=64/\v.sn<=64/\(∀i,i<v.sn->(sbAt v.ss i).n<=64)/\∀i,i<v.sn->∀j,j<(sbAt v.ss i).n->(fcAt (sbAt v.ss i).fs j).n<=64
def XJ(vs:List Vn)(ls:List (Int×Int))(n ln nb:Nat)(xv:Option Addr)(cv:Nat)(xl:Option Addr)(cl:Nat)(w0:World)(i:Value)(wr:World):Prop:=∃(q:Nat) (us:List Vn),q<=n/\i= .int .i64 q/\bV vs us/\(∀i,q<=i->aE us i=aE vs i)/\bZ wr w0.heap.size (.slice xv n cv) us/\(∀i,i<q->mC wr w0.heap.size (aE us i))/\bU wr w0.heap.size (.slice xl ln cl) ls/\wr.heap[nb]?=some (eD (.slice xv n cv) (.slice xl ln cl))/\Below w0.heap.size w0 wr
theorem gA(x:Option Addr)(n c:Nat)(vs:List Vn)(lx:Option Addr)(ln lc:Nat)(ls:List (Int×Int))(w:World)(hp:VS w x n vs)(hn:n<=64)(hl:PS w lx ln ls)(hln:ln<=64)(hfew:∀i,i<n->YZ (aE vs i)):
  Calls Tryz.prog 45 #[.agg #[.slice x n c, .slice lx ln lc]] w (YY vs ls w):=by
 have hvl:Hid (vs.length=n):=hp.len;have hll:Hid (ls.length=ln):=hl.len;go_enter Tryz.func45,Tryz.ntmps45;go_upto_region 1 with fail
 obtain⟨w0,hw0⟩:∃w0,w0=(w.alloc (nH x n c lx ln lc)).alloc (eD (.slice none 0 0) (.slice none 0 0)):=⟨_,rfl⟩;rw[<-hw0];have hB0:Below w.heap.size w w0:=by rw[hw0];exact bO w _ _
 have hb0:w0.heap[w.heap.size]?=some (nH x n c lx ln lc):=by rw[hw0];exact aG _ (aB _ rfl)
 have hr0:w0.heap[w.heap.size+1]?=some (eD (.slice none 0 0) (.slice none 0 0)):=by rw[hw0];exact aB _ (by simp)
 clear hw0;have hsz:w.heap.size+1<w0.heap.size:=(zG hr0);have hp0:=hp.later hB0;have hl0:=hl.later hB0;have a0:=Ws.here (aP hb0 0 rfl);have a1:=Ws.here (aP hb0 1 rfl);go_cut [3] (fun p wc=>∃nb vV vK,p= .pointer (some ⟨nb,0,none⟩)/\w0.heap.size<=nb/\bZ wc w0.heap.size vV vs/\bU wc w0.heap.size vK ls/\wc.heap[nb]?=some (eD vV vK)/\Below w0.heap.size w0 wc)
 case first=>
  have hbd:Below w0.heap.size w0 w0.drew:=(zD).drew
  refine bN (fun w'=>∃u:Ws w0.heap.size w0,w'=u.val) (fun j=>decide (j<8)) 9 _ (by kernel_rfl) rfl rfl ?_
  refine bL 5 [0,1,3,4] rfl _ rfl (by kernel_rfl) (fun d _ _ _ _ h=>by cases d<;>exact h) ⟨⟨_,hbd⟩,rfl⟩ ?_
  simp only[zK,zM,zI,zJ]
  repeat(go_big_quiet_step (fail))
  refine wpQuiet_nil ?_
  clear a0 a1
  refine kO 2 7 _ _ _ _ (by kernel_rfl) (by kernel_rfl) rfl rfl rfl rfl ?_ ?_
  ·intro K hK;simp only[zI,zJ];go_wp2_with fail;refine(AP x n c vs w0.drew (hp0.later hbd) (by omega)).mono ?_;rintro e w1 ⟨v1,rfl,hO1,hb1⟩;obtain⟨x1,c1,hv1, -⟩:=hO1.mem;subst hv1;have hB1:Below w0.heap.size w0 w1:=⟨hb1.os,hb1.tape,hb1.output,hb1.size,hb1.block⟩;go_wp2_with fail;refine aD (hK.out _ _ ⟨⟨_,hB1⟩,rfl⟩ ?_);clear hK K;refine kO 5 7 _ _ _ _ (by kernel_rfl) (by kernel_rfl) rfl rfl rfl rfl ?_ ?_
   ·intro K hK;simp only[zI,zJ];go_wp2_with fail;refine(rP lx ln lc ls w1 (hl0.later hB1) (by omega)).mono ?_;rintro e w2 ⟨v2,rfl,hO2,hb2⟩;obtain⟨x2,c2,hv2, -⟩:=hO2.mem;subst hv2;have hB2:Below w0.heap.size w0 w2:=hB1.trans (hb2.mono hB1.size);go_wp2_with fail;refine aD (hK.out _ _ ⟨⟨_,hB2⟩,rfl⟩ ?_);clear hK K;refine bL 2 [6] rfl _ rfl (by kernel_rfl) (fun d _ _ _ _ h=>by cases d<;>exact h) ⟨⟨_,hB2⟩,rfl⟩ ?_;simp only[zK,zM,zI,zJ];repeat(go_big_quiet_step (fail))
    refine wpQuiet_nil ?_;refine aZ 7 _ _ (by kernel_rfl) (by kernel_rfl) rfl rfl ?_;intro K hK;simp only[zI,zJ];go_wp2_with fail;have hB3:Below w0.heap.size w0 (w2.alloc (eD (.slice none 0 0) (.slice none 0 0))):=hB2.trans ((bl1 w2 _).mono hB2.size);refine aD (hK.out _ _ ⟨⟨_,hB3⟩,rfl⟩ ?_);clear hK K;obtain⟨w3,hw3⟩:∃w3,w3=w2.alloc (eD (.slice none 0 0) (.slice none 0 0)):=⟨_,rfl⟩;rw[<-hw3]at hB3⊢;have h23:Below w2.heap.size w2 w3:=by rw[hw3];exact bl1 w2 _
    have hy:w3.heap[w2.heap.size]?=some (eD (.slice none 0 0) (.slice none 0 0)):=by rw[hw3];exact aB _ rfl
    clear hw3;have hnb:w0.heap.size<=w2.heap.size:=hB2.size;have hO1':=((hO1.low (base':=w0.heap.size) (zE)).later hb2).later h23;have hO2':=(hO2.low (base':=w0.heap.size) hB1.size).later h23;have hBf:=hB3;refine bB [8] rfl (by kernel_rfl) ?_;simp only[zK,zM,zI,zJ];obtain⟨q0,q1⟩:=aR hy rfl rfl;obtain⟨f0,f1⟩:=bW hy;go_wp2_with fail;go_meet
    case rel=>exact⟨_,_,_,rfl,hnb,E9 hy hnb hO1' hO2' hBf⟩
   ·intro K hK;simp only[zI,zJ];go_wp2_with fail;have hB2:Below w0.heap.size w0 (w1.alloc (eD (.slice none 0 0) (.slice none 0 0))):=hB1.trans ((bl1 w1 _).mono hB1.size);refine aD (hK.out _ _ ⟨⟨_,hB2⟩,rfl⟩ ?_);clear hK K;obtain⟨w2,hw2⟩:∃w2,w2=w1.alloc (eD (.slice none 0 0) (.slice none 0 0)):=⟨_,rfl⟩;rw[<-hw2]at hB2⊢;have h12:Below w1.heap.size w1 w2:=by rw[hw2];exact bl1 w1 _
    have hy1:w2.heap[w1.heap.size]?=some (eD (.slice none 0 0) (.slice none 0 0)):=by rw[hw2];exact aB _ rfl
    clear hw2;refine aZ 5 _ _ (by kernel_rfl) (by kernel_rfl) rfl rfl ?_;intro K hK;simp only[zI,zJ];go_wp2_with fail;refine(rP lx ln lc ls w2 (hl0.later hB2) (by omega)).mono ?_;rintro e w3 ⟨v2,rfl,hO2,hb3⟩;obtain⟨x2,c2,hv2, -⟩:=hO2.mem;subst hv2;have hB3:Below w0.heap.size w0 w3:=hB2.trans (hb3.mono hB2.size);go_wp2_with fail;refine aD (hK.out _ _ ⟨⟨_,hB3⟩,rfl⟩ ?_);clear hK K;refine bL 1 [6] rfl _ rfl (by kernel_rfl) (fun d _ _ _ _ h=>by cases d<;>exact h) ⟨⟨_,hB3⟩,rfl⟩ ?_;simp only[zK,zM,zI,zJ];repeat(go_big_quiet_step (fail))
    refine wpQuiet_nil ?_;have hy:=aA hb3 hy1;have hnb:w0.heap.size<=w1.heap.size:=hB1.size;have hO1':=((hO1.low (base':=w0.heap.size) (zE)).later h12).later hb3;have hO2':=hO2.low (base':=w0.heap.size) hB2.size;have hBf:=hB3;refine bB [8] rfl (by kernel_rfl) ?_;simp only[zK,zM,zI,zJ];obtain⟨q0,q1⟩:=aR hy rfl rfl;obtain⟨f0,f1⟩:=bW hy;go_wp2_with fail;go_meet
    case rel=>exact⟨_,_,_,rfl,hnb,E9 hy hnb hO1' hO2' hBf⟩
  ·intro K hK;simp only[zI,zJ];go_wp2_with fail;have hB1:Below w0.heap.size w0 (w0.alloc (eD (.slice none 0 0) (.slice none 0 0))).drew:=(bl1 w0 _).drew;refine aD (hK.out _ _ ⟨⟨_,hB1⟩,rfl⟩ ?_);clear hK K;have hy0:((w0.alloc (eD (.slice none 0 0) (.slice none 0 0))).drew).heap[w0.heap.size]?=some (eD (.slice none 0 0) (.slice none 0 0)):=aB (W:=w0) _ rfl;refine aZ 2 _ _ (by kernel_rfl) (by kernel_rfl) rfl rfl ?_;intro K hK;simp only[zI,zJ];go_wp2_with fail;refine(AP x n c vs (w0.alloc (eD (.slice none 0 0) (.slice none 0 0))).drew (hp0.later hB1) (by omega)).mono ?_;rintro e w2 ⟨v1,rfl,hO1,hb2⟩;obtain⟨x1,c1,hv1, -⟩:=hO1.mem;subst hv1;have hB2:Below w0.heap.size w0 w2:=hB1.trans (hb2.mono hB1.size);go_wp2_with fail;refine aD (hK.out _ _ ⟨⟨_,hB2⟩,rfl⟩ ?_);clear hK K;refine aZ 5 _ _ (by kernel_rfl) (by kernel_rfl) rfl rfl ?_;intro K hK;simp only[zI,zJ];go_wp2_with fail;refine(rP lx ln lc ls w2 (hl0.later hB2) (by omega)).mono ?_;rintro e w3 ⟨v2,rfl,hO2,hb3⟩;obtain⟨x2,c2,hv2, -⟩:=hO2.mem;subst hv2;have hB3:Below w0.heap.size w0 w3:=hB2.trans (hb3.mono hB2.size);go_wp2_with fail;refine aD (hK.out _ _ ⟨⟨_,hB3⟩,rfl⟩ ?_);clear hK K;refine bL 1 [6] rfl _ rfl (by kernel_rfl) (fun d _ _ _ _ h=>by cases d<;>exact h) ⟨⟨_,hB3⟩,rfl⟩ ?_;simp only[zK,zM,zI,zJ];repeat(go_big_quiet_step (fail))
   refine wpQuiet_nil ?_;have hy:=aA hb3 (aA hb2 hy0);have hnb:w0.heap.size<=w0.heap.size:=zE;have hO1':=(hO1.low (base':=w0.heap.size) hB1.size).later hb3;have hO2':=hO2.low (base':=w0.heap.size) hB2.size;have hBf:=hB3;refine bB [8] rfl (by kernel_rfl) ?_;simp only[zK,zM,zI,zJ];obtain⟨q0,q1⟩:=aR hy rfl rfl;obtain⟨f0,f1⟩:=bW hy;go_wp2_with fail;go_meet
   case rel=>exact⟨_,_,_,rfl,hnb,E9 hy hnb hO1' hO2' hBf⟩
 case rest=>
  clear a0 a1
  obtain⟨nb,vV,vK,rfl,hnb,hOV,hOK,hbx,hBc⟩:=hcut
  obtain⟨xv,cv,hvv, -⟩:=hOV.mem
  obtain⟨xl,cl,hvk, -⟩:=hOK.mem
  rw[hvl.out]at hvv
  rw[hll.out]at hvk
  subst hvv
  subst hvk
  have e1:=aP hbx 0 rfl
  go_wp2
  clear e1
  go_loopw [15] (fun i wr=>XJ vs ls n ln nb xv cv xl cl w0 i wr) (fun i _=>n- (intOf i).toNat)
  case atStart=>exact⟨0,vs,by omega,rfl,bV.refl _,fun _ _=>rfl,hOV,fun i hi=>by omega,hOK,hbx,hBc⟩
  case round=>
   clear hOV hOK hbx hBc
   obtain⟨q,us,hq,rfl,hs,htl,hO,hV,hK',hbr,hBr⟩:=hrel
   have hul:Hid (us.length=n):=by show _=_;rw[<-hs.1];exact hvl.out
   by_cases hlt:q<n
   ·have hlt':Hid (q<n):=hlt;have hqu:q<us.length:=by rw[hul.out];exact hlt
    obtain⟨g,cap,hgv⟩:=hO.held (by omega);simp only[Value.slice.injEq]at hgv;obtain⟨rfl, -,rfl⟩:=hgv;obtain⟨d0,d1,d2⟩:=hO.cells q hqu;obtain⟨hbg,cur,hcur⟩:=hO.block;have hgl:g<wr.heap.size:=(zG hcur);obtain⟨f1,f2,f3,f4⟩:=hfew q hlt;have hvp:=(hp0.later hBr).vps q hlt;have hfv:=cZ (aE vs q).id (aE vs q).rx (aE vs q).rn (aE vs q).rc (aE vs q).rs (aE vs q).sx (aE vs q).sn (aE vs q).sc (aE vs q).ss wr.drew (hvp.2.2.2.later (zD).drew) f1 f2 f3 f4;rw[htl q (zE)]at d0 d1 d2;have hrsl:Hid ((aE vs q).rs.length=(aE vs q).rn/\(aE vs q).ss.length=(aE vs q).sn):=⟨hvp.2.2.2.ranges.len,hvp.2.2.2.subs.len⟩;have htl':Hid (∀i,q<=i->aE us i=aE vs i):=htl;clear htl hvp f1 f2 f3 f4;have a0:=Ws.here (aP hbr 0 rfl);have a1:=Ws.here d0;have a2:=Ws.here d1;have a3:=Ws.here d2;go_upto_region 5 with fail
    clear d0 d1 d2;have hbd:Below wr.heap.size wr wr.drew:=(zD).drew;refine bN (fun w'=>∃u:Ws wr.heap.size wr,w'=u.val) (fun j=>decide (j<9)) 11 _ (by kernel_rfl) rfl rfl ?_;refine bL 3 [0,1,2,3,4,5,6,7] rfl _ rfl (by kernel_rfl) (fun d _ _ _ _ h=>by cases d<;>exact h) ⟨⟨_,hbd⟩,rfl⟩ ?_;simp only[zK,zM,zI,zJ];repeat(go_big_quiet_step (fail))
    refine wpQuiet_nil ?_;clear a0 a1 a2 a3;refine aZ 8 _ _ (by kernel_rfl) (by kernel_rfl) rfl rfl ?_;intro K hK;simp only[zI,zJ];go_wp2_with fail;refine hfv.mono ?_;rintro e w1 ⟨vR,vS,ts,rfl,hOR,hss,hOS,hb1⟩;have hB1:Below wr.heap.size wr w1:=⟨hb1.os,hb1.tape,hb1.output,hb1.size,hb1.block⟩;obtain⟨x1,c1,hv1, -⟩:=hOR.rs;obtain⟨x2,c2,hv2, -⟩:=hOS.subs;subst hv1;subst hv2;obtain⟨u,hu⟩:∃u:Vn,u=⟨(aE vs q).id,x1,(aE vs q).rs.length,c1,(aE vs q).rs,x2,ts.length,c2,ts⟩:=⟨_,rfl⟩;have hVu:mC w1 w0.heap.size u:=by
     rw[hu];exact mC.low (v:=⟨(aE vs q).id,x1,(aE vs q).rs.length,c1,(aE vs q).rs,x2,ts.length,c2,ts⟩) ⟨hOR,hOS⟩ hBr.size
    have hsu:nF (aE vs q) u:=by
     rw[hu];exact⟨rfl,hrsl.out.1.symm,rfl,by rw[<-hrsl.out.2];exact hss.1,hss⟩
    go_wp2_with fail;refine aD (hK.out _ _ ⟨⟨_,hB1⟩,rfl⟩ ?_);clear hK K hfv;have hO1:=hO.later hB1;obtain⟨y0,y1,y2⟩:=hO1.cells q hqu;have z0:=hO1.frozen (q*3);have z1:=hO1.frozen (q*3+1);have z2:=hO1.frozen (q*3+2);have hnbg:nb≠g:=fun e=>by rw[e]at hbr;rw[hbr]at hcur;simp at hcur
    have hOs:=hO1.setE q hqu u;have hBs:Below w0.heap.size w0 (iZ w1 g q u):=mN (hBr.trans (hB1.mono hBr.size)) hbg;have hbs:(iZ w1 g q u).heap[nb]?=some (eD (.slice (some ⟨g,0,none⟩) n cv) (.slice xl ln cl)):=(fZ hnbg).trans (aA hB1 hbr);have hKs:bU (iZ w1 g q u) w0.heap.size (.slice xl ln cl) ls:=(hK'.later hB1).setN hO1;have hVs:∀i,i<q+1->mC (iZ w1 g q u) w0.heap.size (aE (us.set q u) i):=fun i hi=>by
     rw[eO hqu];split
     ·exact hVu.setN hO1
     ·exact((hV i (by omega)).later hB1).setN hO1
    have hss':=hs.set hqu hsu;have hts:∀i,q+1<=i->aE (us.set q u) i=aE vs i:=fun i hi=>by rw[eO hqu,if_neg (by omega)];exact htl'.out i (by omega)
    have hfin:Hid (XJ vs ls n ln nb (some ⟨g,0,none⟩) cv xl cl w0 (.int .i64 ((q:Int)+1)) (iZ w1 g q u)):=⟨q+1,us.set q u,hlt'.out,by simp,hss',hts,hOs,hVs,hKs,hbs,hBs⟩;unfold iZ at hfin;rw[hu]at hfin;clear hO1 hOs hBs hbs hKs hVs hss' hts hVu hsu;refine bB [9,10] rfl (by kernel_rfl) ?_;simp only[zK,zM,zI,zJ];go_wp2;go_roundw
    case rel=>exact hfin.out
    case measure=>simp[intOf];have:=hlt'.out;omega
   ·obtain rfl:n=q:=by omega
    have hrr:wr.heap[w.heap.size+1]?=some (eD (.slice none 0 0) (.slice none 0 0)):=(hBr.block _ hsz).trans hr0;obtain⟨e0,e1⟩:=aR hbr rfl rfl;obtain⟨r0,r1⟩:=aR hrr rfl rfl;obtain⟨z0,z1⟩:=bW hrr;go_wp2;refine bodyPost_ret (v:= .agg #[.slice xv n cv, .slice xl ln cl]) (by simp[results,Tryz.results45,go_sem,r0,r1]) rfl ?_;exact⟨_,_,us,rfl,hs,((hO.put hsz).put hsz).low hB0.size,fun i hi=>(((hV i (by rw[<-hul.out];exact hi)).put hsz).put hsz).low hB0.size,((hK'.put hsz).put hsz).low hB0.size,((hB0.trans (hBr.mono hB0.size)).setCell (by simp) _).setCell (by simp) _⟩
def kE(w:World)(v:Vn):Prop:=v.rn<=9223372036854775807/\v.sn<=9223372036854775807/\v.rc<=9223372036854775807/\Vp w v.rx v.rn v.rc v.rs v.sx v.sn v.sc v.ss
theorem kE.later{v:Vn}(h:kE w v)(hb:Below w.heap.size w w'):kE w' v:=⟨h.1,h.2.1,h.2.2.1,h.2.2.2.later hb⟩
def newV(id:Int):Vn:=⟨id,none,0,0,[],none,0,0,[]⟩
theorem eA{vs:List Vn}(h:i<vs.length):aE vs i∈vs:=by
 rw[fU h];exact List.getElem_mem h
theorem dH{vs:List Vn}{v:Vn}(h:v∈vs):∃i,i<vs.length/\aE vs i=v:=by
 obtain⟨i,hi,rfl⟩:=List.getElem_of_mem h;exact⟨i,hi,fU hi⟩
theorem bZ.vs(h:bZ w base v us)(hv:∀u∈us,kE w u):∃X C,v= .slice X us.length C/\VS w X us.length us/\us.length<=C/\C<=9223372036854775807/\((X=none/\C=0)\/∃b o,X=some ⟨b,o,none⟩):=by
 obtain⟨X,C,e,h1,h2,h3,h4⟩:=h.mem;refine⟨X,C,e,⟨rfl,h4,fun i hi=>hv _ (eA hi)⟩,h1,h2,?_⟩;rcases h.2 with ⟨e1,e2⟩|⟨g,cap,cur,e1, -⟩
 ·rw[e]at e1;simp only[Value.slice.injEq]at e1;exact .inl ⟨e1.1,e1.2.2⟩
 ·rw[e]at e1;simp only[Value.slice.injEq]at e1;exact .inr ⟨g,0,e1.1⟩
theorem bU.ps(h:bU w base v ms):∃X C,v= .slice X ms.length C/\PS w X ms.length ms/\ms.length<=C/\C<=9223372036854775807/\((X=none/\C=0)\/∃b o,X=some ⟨b,o,none⟩):=by
 obtain⟨X,C,e,h1,h2,h3,h4⟩:=h.mem;refine⟨X,C,e,⟨rfl,h4⟩,h1,h2,?_⟩;rcases h.2 with ⟨e1,e2⟩|⟨g,cap,cur,e1, -⟩
 ·rw[e]at e1;simp only[Value.slice.injEq]at e1;exact .inl ⟨e1.1,e1.2.2⟩
 ·rw[e]at e1;simp only[Value.slice.injEq]at e1;exact .inr ⟨g,0,e1.1⟩
def NN(w:World)(V:Value)(us:List Vn)(ms:List (Int×Int)):Prop:=
 ∃X C LX LC,V= .agg #[.slice X us.length C, .slice LX ms.length LC]/\VS w X us.length us/\PS w LX ms.length ms/\us.length<=C/\C<=9223372036854775807/\ms.length<=LC/\LC<=9223372036854775807
theorem NN.later(h:NN w V us ms)(hb:Below w.heap.size w w'):NN w' V us ms:=by
 obtain⟨X,C,LX,LC,h1,h2,h3,h4⟩:=h;exact⟨X,C,LX,LC,h1,h2.later hb,h3.later hb,h4⟩
theorem NN.of(h:bZ w base vV us)(hv:∀u∈us,kE w u)(g:bU w base' vK ms):NN w (.agg #[vV,vK]) us ms:=by
 obtain⟨X,C,rfl,h1,h2,h3, -⟩:=h.vs hv;obtain⟨Y,D,rfl,g1,g2,g3, -⟩:=g.ps;exact⟨X,C,Y,D,rfl,h1,g1,h2,h3,g2,g3⟩
theorem VV(w:World)(base:Nat)(id:Int):mC w base (newV id):=⟨World.ownsRow_nil _ _ _ _,iR.nil w base⟩
def NO(w:World)(base:Nat)(V:Value)(us:List Vn)(ms:List (Int×Int)):Prop:=∃vV vK,V= .agg #[vV,vK]/\bZ w base vV us/\(∀u∈us,mC w base u)/\bU w base vK ms
theorem NO.of{b1 b2 b3:Nat}(h:bZ w b1 vV us)(h1:base<=b1)(hv:∀u∈us,mC w b2 u)(h2:base<=b2)(g:bU w b3 vK ms)(h3:base<=b3):NO w base (.agg #[vV,vK]) us ms:=
 ⟨vV,vK,rfl,h.low h1,fun u hu=>(hv u hu).low h2,g.low h3⟩
theorem NO.nn(h:NO w base V us ms):NN w V us ms:=by
 obtain⟨vV,vK,rfl,h1,h2,h3⟩:=h;exact NN.of h1 (fun u hu=>(h2 u hu).vp) h3
def dA(E:Int)(R:List Vn->List (Int×Int)->Prop)(w:World)(e:Ending)(w':World):Prop:=
 ∃V,e= .returned (.tuple #[V, .int .i64 E])/\Below w.heap.size w w'/\(E≠0->V= .agg #[.slice none 0 0, .slice none 0 0])/\(E=0->∃us ms,NO w' w.heap.size V us ms/\R us ms)
theorem dA.err{t:Int}{R:List Vn->List (Int×Int)->Prop}(hE:E=t/\t≠0)(hb:Below w.heap.size w w'):dA E R w (.returned (.tuple #[.agg #[.slice none 0 0, .slice none 0 0], .int .i64 t])) w':=
 ⟨_,by rw[hE.1],hb,fun _=>rfl,fun h=>absurd (hE.1.symm.trans h) hE.2⟩
theorem dA.ok{R:List Vn->List (Int×Int)->Prop}(hE:E=0)(hb:Below w.heap.size w w')(h:NO w' w.heap.size V us ms)(hR:R us ms):dA E R w (.returned (.tuple #[V, .int .i64 0])) w':=
 ⟨V,by rw[hE],hb,fun h=>absurd hE h,fun _=>⟨us,ms,h,hR⟩⟩
structure TM(w W:World)(x:Option Addr)(n c:Nat)(lx:Option Addr)(ln lc:Nat):Prop where
 hb:W.heap[w.heap.size]?=some (nH x n c lx ln lc)
 hs:W.heap[w.heap.size+1]?=some (eD (.slice none 0 0) (.slice none 0 0))
 below:Below w.heap.size w W
theorem TM.later{W':World}(h:TM w W x n c lx ln lc)(hb:Below W.heap.size W W'):TM w W' x n c lx ln lc:=
 ⟨aA hb h.hb,aA hb h.hs,h.below.trans (hb.mono h.below.size)⟩
theorem mO{vs:List Vn}(h:cW n vs ln ls=0):n<=6/\ln<=12/\∀i,i<n->YZ (aE vs i):=by
 obtain⟨h6,h12,hv, -, -⟩:=lW h;refine⟨h6,h12,fun i hi=>?_⟩;obtain⟨f1,f2,f3,f4⟩:=dU (HX hv i hi);exact⟨by omega,by omega,fun i hi=>by have:=f3 i hi;omega,fun i hi j hj=>by have:=f4 i hi j hj;omega⟩
theorem bZ.putBox{vs:List Vn}(h:bZ w base v vs)(hb:w.heap[b]?=some (.cells cs t))(h1:t≠92):bZ (w.setCell ⟨b,o,none⟩ u) base v vs:=
 h.kept (aI _ _ _ _) (fun k hk e=>by subst e;exact h.ne hb h1 hk)
theorem bU.putBox(h:bU w base v ls)(hb:w.heap[b]?=some (.cells cs t))(h1:t≠94):bU (w.setCell ⟨b,o,none⟩ u) base v ls:=
 h.kept (aI _ _ _ _) (fun k hk e=>by subst e;exact h.ne hb h1 hk)
theorem kE.of{v:Vn}(h:mC w base v):kE w v:=h.vp
def iS(n:Nat)(vs:List Vn)(ln:Nat)(ls:List (Int×Int))(id:Int):Int:=
 if cW n vs ln ls=0 then(if dE id 1 65536=false then 3 else if 0<=aJ n vs id then 6 else if n=6 then 2 else 0)else cW n vs ln ls
def SK(id:Int)(vs us:List Vn):Prop:=∃us0 i,bV vs us0/\i<=us0.length/\(∀j,j<i->¬id<(aE us0 j).id)/\(i<us0.length->id<(aE us0 i).id)/\us=us0.take i++[newV id]++us0.drop i
def H0(vs:List Vn)(ls:List (Int×Int))(id:Int)(us:List Vn)(ms:List (Int×Int)):Prop:=SK id vs us/\ms=ls
theorem SL(x:Option Addr)(n c:Nat)(vs:List Vn)(lx:Option Addr)(ln lc:Nat)(ls:List (Int×Int))(id:Int)(w:World)(hp:VS w x n vs)(hn:n<=9223372036854775807)(hnc:n<=c)(hl:PS w lx ln ls)(hln:ln<=9223372036854775807):
  Calls Tryz.prog 99 #[.agg #[.slice x n c, .slice lx ln lc], .int .i64 id] w (dA (iS n vs ln ls id) (H0 vs ls id) w):=by
 have hvl:Hid (vs.length=n):=hp.len;have hE:Hid (iS n vs ln ls id=if cW n vs ln ls=0 then(if dE id 1 65536=false then 3 else if 0<=aJ n vs id then 6 else if n=6 then 2 else 0)else cW n vs ln ls):=rfl;go_enter Tryz.func99,Tryz.ntmps99;go_upto_region 1 with fail
 obtain⟨w0,hw0⟩:∃w0,w0=(w.alloc (nH x n c lx ln lc)).alloc (eD (.slice none 0 0) (.slice none 0 0)):=⟨_,rfl⟩;rw[<-hw0];have hT0:TM w w0 x n c lx ln lc:=by
  rw[hw0];exact⟨aG _ (aB _ rfl),aB _ (by simp),bO w _ _⟩
 clear hw0;obtain⟨k0,k1⟩:=aR hT0.hb rfl rfl;obtain⟨ks0,ks1⟩:=aR hT0.hs rfl rfl;obtain⟨kz0,kz1⟩:=bW hT0.hs;by_cases hc0:cW n vs ln ls=0
 ·have hck:=fI x n c vs lx ln lc ls 0 hc0 w0 (hp.later hT0.below) hn hnc (hl.later hT0.below) hln;obtain⟨h6,h12,hfew⟩:=mO hc0;have hE1:Hid (iS n vs ln ls id=if dE id 1 65536=false then 3 else if 0<=aJ n vs id then 6 else if n=6 then 2 else 0):=hE.out.trans (if_pos hc0);clear hc0 hE;go_wp2_with fail;refine hck.mono ?_;rintro e w1 ⟨rfl,hb⟩;have hT1:=hT0.later hb;clear k0 k1 ks0 ks1 kz0 kz1;obtain⟨k0,k1⟩:=aR hT1.hb rfl rfl;obtain⟨ks0,ks1⟩:=aR hT1.hs rfl rfl;obtain⟨kz0,kz1⟩:=bW hT1.hs;clear hck
  cases hwi:dE id 1 65536 with
  |false=>
   have hi:=isId_is id false hwi w1
   have hE2:Hid (iS n vs ln ls id=3/\(3:Int)≠0):=⟨hE1.out.trans (if_pos hwi),by decide⟩
   clear hwi hE1
   go_wp2_with fail
   refine hi.mono ?_
   rintro e w2 ⟨rfl,rfl⟩
   clear hi
   go_wp2
   refine bodyPost_ret (v:= .tuple #[.agg #[.slice none 0 0, .slice none 0 0], .int .i64 3]) (by simp[results,Tryz.results99,go_sem,ks0,ks1]) rfl ?_
   exact dA.err hE2.out ((hT1.below.setCell (p:=⟨w.heap.size+1,0,none⟩) (zA) _).setCell (p:=⟨w.heap.size+1,1,none⟩) (zA) _)
  |true=>
   have hi:=isId_is id true hwi w1
   have hE2:Hid (iS n vs ln ls id=if 0<=aJ n vs id then 6 else if n=6 then 2 else 0):=hE1.out.trans (if_neg (c:=dE id 1 65536=false) (by rw[hwi];decide))
   clear hwi hE1
   go_wp2_with fail
   refine hi.mono ?_
   rintro e w2 ⟨rfl,rfl⟩
   clear hi
   obtain⟨t,ht⟩:∃t,aJ n vs id=t:=⟨_,rfl⟩
   have hpl:=tB id x n c vs lx ln lc t ht w2 (hp.later hT1.below) (by omega)
   rw[ht]at hE2
   clear ht
   go_wp2_with fail
   refine hpl.mono ?_
   rintro e w3 ⟨rfl,hb⟩
   have hT3:=hT1.later hb
   clear k0 k1 ks0 ks1 kz0 kz1
   obtain⟨k0,k1⟩:=aR hT3.hb rfl rfl
   obtain⟨ks0,ks1⟩:=aR hT3.hs rfl rfl
   obtain⟨kz0,kz1⟩:=bW hT3.hs
   clear hpl
   by_cases ht0:t<0
   ·have ht1:¬(t≥0):=by omega
    by_cases hn6:n=6
    ·have hE3:Hid (iS n vs ln ls id=2/\(2:Int)≠0):=⟨hE2.out.trans (by rw[if_neg (show¬(0:Int)<=t by omega),if_pos hn6]),by decide⟩;have hn6':((n:Int)==6)=true:=by simp;omega
     have hn6'':(n:Int)=6:=by omega
     clear hE2 hn6;go_wp2;refine bodyPost_ret (v:= .tuple #[.agg #[.slice none 0 0, .slice none 0 0], .int .i64 2]) (by simp[results,Tryz.results99,go_sem,ks0,ks1]) rfl ?_;exact dA.err hE3.out ((hT3.below.setCell (p:=⟨w.heap.size+1,0,none⟩) (zA) _).setCell (p:=⟨w.heap.size+1,1,none⟩) (zA) _)
    ·have hE3:Hid (iS n vs ln ls id=0):=hE2.out.trans (by rw[if_neg (show¬(0:Int)<=t by omega),if_neg hn6]);have hn6':((n:Int)==6)=false:=by simp;omega
     have hn6'':¬(n:Int)=6:=by omega
     have hfn:=gA x n c vs lx ln lc ls w3 (hp.later hT3.below) (by omega) (hl.later hT3.below) (by omega) hfew;clear hE2 hn6;go_wp2_with fail;refine hfn.mono ?_;rintro e w4 ⟨vV,vK,us,rfl,hsv,hOV,hVo,hOK,hb4⟩;have hT4:=hT3.later hb4;clear hfn hn6' hn6'';obtain⟨X,C,hvV,hVS4,hXC,hC63,hX0⟩:=hOV.vs (fun u hu=>by
      obtain⟨i,hi,rfl⟩:=dH hu;exact kE.of (hVo i hi))
     obtain⟨Y,D,hvK,hPS4, -, -, -⟩:=hOK.ps;subst hvV;subst hvK;have hul:Hid (us.length=n):=by show _=_;rw[<-hsv.1];exact hvl.out
     have hw3s:Hid (w.heap.size+1<w3.heap.size):=(zG hT3.hs);clear k0 k1 ks0 ks1 kz0 kz1;go_upto_region 12 with fail
     obtain⟨w5,hw5⟩:∃w5,w5=w4.alloc (eD (.slice X us.length C) (.slice Y ls.length D)):=⟨_,rfl⟩;rw[<-hw5];have hb5:Below w4.heap.size w4 w5:=by rw[hw5];exact bl1 w4 _
     have hbx5:w5.heap[w4.heap.size]?=some (eD (.slice X us.length C) (.slice Y ls.length D)):=by rw[hw5];exact aB _ rfl
     clear hw5;have hT5:=hT4.later hb5;have m0:=aP hbx5 0 rfl;have hVS5:=hVS4.later hb5;have hput:=fun W hW bf hby=>SG (newV id) X us.length C us bf 1 W (hVS5.later hW) (by rw[hul.out];omega) hXC hC63 hX0 hby;go_wp2_with fail;have hba:Below w5.heap.size w5 (w5.alloc (.cells #[.func (.func 125) #[] #[]] 210)):=bl1 w5 _;refine(hput _ hba w5.heap.size (by simp)).mono ?_;rintro e w6 ⟨v6,rfl,hb6,i,hi,hlo,hup,hO6⟩;have hb56:Below w5.heap.size w5 w6:=hba.trans (hb6.mono hba.size);have hT6:=hT5.later hb56;have hbx6:=aA hb56 hbx5;have hVo6:∀u∈us.take i++[newV id]++us.drop i,mC w6 w3.heap.size u\/u=newV id:=fun u hu=>by
      rcases List.mem_append.1 hu with hu|hu
      ·rcases List.mem_append.1 hu with hu|hu
       ·obtain⟨j,hj,rfl⟩:=dH (List.mem_of_mem_take hu);exact .inl (((hVo j hj).later hb5).later hb56)
       ·exact .inr (by simpa using hu)
      ·obtain⟨j,hj,rfl⟩:=dH (List.mem_of_mem_drop hu);exact .inl (((hVo j hj).later hb5).later hb56)
     have hOK6:=(hOK.later hb5).later hb56;have hR:Hid (H0 vs ls id (us.take i++[newV id]++us.drop i) ls):=⟨⟨us,i,hsv,hi,hlo,hup,rfl⟩,rfl⟩;obtain⟨u6,hu6⟩:∃u6,u6=us.take i++[newV id]++us.drop i:=⟨_,rfl⟩;rw[<-hu6]at hVo6 hO6 hR;have hO6b:bZ w6 w3.heap.size v6 u6:=hO6.low (by have:=hb4.size;have:=hb5.size;have:=hba.size;omega);obtain⟨X6,C6,hv6, -⟩:=hO6.mem;subst hv6;have g0:=aP hbx6 0 rfl;have gz:=(aC hbx6).2 0;clear m0 hput hlo hup hu6 hO6;go_upto_region 13 with fail
     obtain⟨w7,hw7⟩:∃w7,w7=w6.setCell ⟨w4.heap.size,0,none⟩ (.slice X6 u6.length C6):=⟨_,rfl⟩;rw[<-hw7];have hbx7:w7.heap[w4.heap.size]?=some (eD (.slice X6 u6.length C6) (.slice Y ls.length D)):=by
      rw[hw7];simpa using heap_setCell_same w6 w4.heap.size 0 _ _ (.slice X6 u6.length C6) hbx6
     have hne0:w.heap.size≠w4.heap.size:=by have:=hw3s.out;have:=hb4.size;omega
     have hne1:w.heap.size+1≠w4.heap.size:=by have:=hw3s.out;have:=hb4.size;omega
     have hT7:TM w w7 x n c lx ln lc:=by
      rw[hw7];exact⟨(zB hne0).trans hT6.hb,(zB hne1).trans hT6.hs,hT6.below.setCell (p:=⟨w4.heap.size,0,none⟩) (by show w.heap.size<=w4.heap.size;have:=hw3s.out;have:=hb4.size;omega) _⟩
     have hO7:bZ w7 w3.heap.size (.slice X6 u6.length C6) u6:=by rw[hw7];exact hO6b.putBox hbx6 (by decide)
     have hVo7:∀u∈u6,mC w7 w3.heap.size u\/u=newV id:=fun u hu=>by
      rw[hw7];rcases hVo6 u hu with h|h
      ·exact .inl (h.putBox hbx6 (by decide) (by decide) (by decide) (by decide))
      ·exact .inr h
     have hOK7:bU w7 w3.heap.size (.slice Y ls.length D) ls:=by rw[hw7];exact hOK6.putBox hbx6 (by decide)
     clear hw7 g0 gz hO6b hVo6 hOK6 hbx6 hT6;obtain⟨g0,g1⟩:=aR hbx7 rfl rfl;obtain⟨k0,k1⟩:=aR hT7.hb rfl rfl;obtain⟨ks0,ks1⟩:=aR hT7.hs rfl rfl;obtain⟨kz0,kz1⟩:=bW hT7.hs;go_wp2;refine bodyPost_ret (v:= .tuple #[.agg #[.slice X6 u6.length C6, .slice Y ls.length D], .int .i64 0]) (by simp[results,Tryz.results99,go_sem,ks0,ks1]) rfl ?_;refine dA.ok hE3.out ((hT7.below.setCell (p:=⟨w.heap.size+1,0,none⟩) (zA) _).setCell (p:=⟨w.heap.size+1,1,none⟩) (zA) _) (us:=u6) (ms:=ls) (NO.of ((hO7.put hw3s.out).put hw3s.out) (by have:=hw3s.out;omega) (b2:=w3.heap.size) (fun u hu=>?_) (by have:=hw3s.out;omega) ((hOK7.put hw3s.out).put hw3s.out) (by have:=hw3s.out;omega)) hR.out;rcases hVo7 u hu with h|h
     ·exact(h.put hw3s.out).put hw3s.out
     ·rw[h];exact VV _ _ _
   ·have ht1:t≥0:=by omega
    have hE3:Hid (iS n vs ln ls id=6/\(6:Int)≠0):=⟨hE2.out.trans (if_pos (show(0:Int)<=t by omega)),by decide⟩;clear hE2;go_wp2;refine bodyPost_ret (v:= .tuple #[.agg #[.slice none 0 0, .slice none 0 0], .int .i64 6]) (by simp[results,Tryz.results99,go_sem,ks0,ks1]) rfl ?_;exact dA.err hE3.out ((hT3.below.setCell (p:=⟨w.heap.size+1,0,none⟩) (zA) _).setCell (p:=⟨w.heap.size+1,1,none⟩) (zA) _)
 ·obtain⟨t,ht⟩:∃t,cW n vs ln ls=t:=⟨_,rfl⟩;have hck:=fI x n c vs lx ln lc ls t ht w0 (hp.later hT0.below) hn hnc (hl.later hT0.below) hln;rw[ht]at hc0;have hE1:Hid (iS n vs ln ls id=t/\t≠0):=⟨by rw[hE.out,ht,if_neg hc0],hc0⟩;have hne:(t !=0)=true:=by simpa using hc0
  clear hE ht;go_wp2_with fail;refine hck.mono ?_;rintro e w1 ⟨rfl,hb⟩;have hT1:=hT0.later hb;clear k0 k1 ks0 ks1 kz0 kz1;obtain⟨k0,k1⟩:=aR hT1.hb rfl rfl;obtain⟨ks0,ks1⟩:=aR hT1.hs rfl rfl;obtain⟨kz0,kz1⟩:=bW hT1.hs;clear hck;go_wp2;refine bodyPost_ret (v:= .tuple #[.agg #[.slice none 0 0, .slice none 0 0], .int .i64 t]) (by simp[results,Tryz.results99,go_sem,ks0,ks1]) rfl ?_;exact dA.err hE1.out ((hT1.below.setCell (p:=⟨w.heap.size+1,0,none⟩) (zA) _).setCell (p:=⟨w.heap.size+1,1,none⟩) (zA) _)
theorem KQ(a l:Int)(x:Option Addr)(n c:Nat)(ps:List (Int×Int))(t:Int)(h:fstAt n (eqLk ps a l)=t)(w:World)(hp:PS w x n ps)(hn:n<=64):
  Calls Tryz.prog 113 #[.slice x n c, .agg #[.int .i64 a, .int .i64 l]] w fun e w'=>e= .returned (.int .i64 t)/\Below w.heap.size w w':=by
 refine(wS a l x n c ps w hp hn).mono ?_;rintro e w' ⟨⟨r,rfl,hr⟩,hb⟩;refine⟨?_,hb⟩;rcases fstAt_cases n (eqLk ps a l)with ⟨i,hi,hf,hno,he⟩|⟨hno,he⟩
 ·rcases hr with ⟨j,hj,hfj,hnoj,rfl⟩|⟨hno2, -⟩
  ·have:i=j:=by
    rcases Nat.lt_trichotomy i j with h1|h1|h1
    ·rw[hnoj i h1]at hf;cases hf
    ·exact h1
    ·rw[hno j h1]at hfj;cases hfj
   subst this;rw[<-h,he]
  ·rw[hno2 i hi]at hf;cases hf
 ·rcases hr with ⟨j,hj,hfj, -, -⟩|⟨-,rfl⟩
  ·rw[hno j hj]at hfj;cases hfj
  ·rw[<-h,he]
theorem mC.grown{v:Vn}(h:mC w base v)(hg:w.grownBy w' (some g))(hb:w.heap[g]?=some (.cells cs t))(h0:t≠127)(h1:t≠130)(h2:t≠133)(h3:t≠3):mC w' base v:=
 ⟨h.1.kept hg (fun k hk e=>by subst e;exact h.1.ne hb h0 hk),h.2.row.kept hg (fun k hk e=>by subst e;exact h.2.row.ne hb h1 hk),fun i hi=>(h.2.own i hi).kept_of hg hb h2 h3,h.2.apart⟩
def lX(n:Nat)(vs:List Vn)(ln:Nat)(ls:List (Int×Int))(a b:Int):Int:=
 if cW n vs ln ls=0 then(if jnB ln ls a b=true then 0 else 5)else cW n vs ln ls
def XK(a b:Int)(ls ms:List (Int×Int)):Prop:=∃i,i<ls.length/\eqLk ls (min a b) (max a b) i=true/\ms=ls.take i++ls.drop (i+1)
def SM(vs:List Vn)(ls:List (Int×Int))(a b:Int)(us:List Vn)(ms:List (Int×Int)):Prop:=bV vs us/\XK a b ls ms
theorem bU.block{fs:List (Int×Int)}(h:bU w base (.slice (some ⟨g,0,none⟩) n cap) fs):base<=g/\∃cur,w.heap[g]?=some (.cells cur 94):=pI h
theorem bU.held{fs:List (Int×Int)}(h:bU w base v fs)(hf:0<fs.length):∃g cap,v= .slice (some ⟨g,0,none⟩) fs.length cap/\fs.length<=cap/\cap<=9223372036854775807:=by
 obtain⟨x2,c2,he2,h1,h2, -⟩:=h.mem;rcases h.2 with ⟨-,h0⟩|⟨g,cap,cur,hv, -⟩
 ·omega
 ·rw[he2]at hv;simp only[Value.slice.injEq]at hv;obtain⟨rfl, -,rfl⟩:=hv;exact⟨g,c2,he2,h1,h2⟩
theorem SN(x:Option Addr)(n c:Nat)(vs:List Vn)(lx:Option Addr)(ln lc:Nat)(ls:List (Int×Int))(a b:Int)(w:World)(hp:VS w x n vs)(hn:n<=9223372036854775807)(hnc:n<=c)(hl:PS w lx ln ls)(hln:ln<=9223372036854775807):
  Calls Tryz.prog 57 #[.agg #[.slice x n c, .slice lx ln lc], .int .i64 a, .int .i64 b] w (dA (lX n vs ln ls a b) (SM vs ls a b) w):=by
 have hvl:Hid (vs.length=n):=hp.len;have hll:Hid (ls.length=ln):=hl.len;have hE:Hid (lX n vs ln ls a b=if cW n vs ln ls=0 then(if jnB ln ls a b=true then 0 else 5)else cW n vs ln ls):=rfl;go_enter Tryz.func57,Tryz.ntmps57;go_upto_region 1 with fail
 obtain⟨w0,hw0⟩:∃w0,w0=(w.alloc (nH x n c lx ln lc)).alloc (eD (.slice none 0 0) (.slice none 0 0)):=⟨_,rfl⟩;rw[<-hw0];have hT0:TM w w0 x n c lx ln lc:=by
  rw[hw0];exact⟨aG _ (aB _ rfl),aB _ (by simp),bO w _ _⟩
 clear hw0;obtain⟨k0,k1⟩:=aR hT0.hb rfl rfl;obtain⟨ks0,ks1⟩:=aR hT0.hs rfl rfl;obtain⟨kz0,kz1⟩:=bW hT0.hs;by_cases hc0:cW n vs ln ls=0
 ·have hck:=fI x n c vs lx ln lc ls 0 hc0 w0 (hp.later hT0.below) hn hnc (hl.later hT0.below) hln;obtain⟨h6,h12,hfew⟩:=mO hc0;have hE1:Hid (lX n vs ln ls a b=if jnB ln ls a b=true then 0 else 5):=hE.out.trans (if_pos hc0);clear hc0 hE;go_wp2_with fail;refine hck.mono ?_;rintro e w1 ⟨rfl,hb⟩;have hT1:=hT0.later hb;clear k0 k1 ks0 ks1 kz0 kz1;obtain⟨k0,k1⟩:=aR hT1.hb rfl rfl;obtain⟨ks0,ks1⟩:=aR hT1.hs rfl rfl;obtain⟨kz0,kz1⟩:=bW hT1.hs;clear hck;have hjn:Hid (jnB ln ls a b=anyAt ln (eqLk ls (min a b) (max a b))):=rfl;obtain⟨t,ht⟩:∃t,fstAt ln (eqLk ls (min a b) (max a b))=t:=⟨_,rfl⟩;have hix:=fun W (hW:Below w1.heap.size w1 W)=>KQ (min a b) (max a b) lx ln lc ls t ht W ((hl.later hT1.below).later hW) (by omega);have a0:=Ws.here k1;go_upto_region 4 with fail
  go_cut [9] (fun v wc=>v= .int .i64 t/\Below w1.heap.size w1 wc)
  case first=>
   clear k0 k1 ks0 ks1 kz0 kz1
   refine aH w1.heap.size (by kernel_rfl) (by kernel_rfl) ?_
   repeat(go_big_quiet_step (first|(go_at_call 109;exact Calls.in_ws (zE) (kW _ _ _))|(go_at_call 113;exact Calls.in_ws (zE) (hix _ (Ws.property _)))))
   refine wpQuiet_nil ?_
   rintro _ ⟨u,rfl⟩
   have hu:=u.property
   generalize u.val=wu at hu⊢
   clear u a0
   go_wp2
   go_meet
   case rel=>exact⟨rfl,hu⟩
  case rest=>
   obtain⟨rfl,hBc⟩:=hcut
   have hT2:=hT1.later hBc
   clear k0 k1 ks0 ks1 kz0 kz1
   clear a0 hix
   obtain⟨k0,k1⟩:=aR hT2.hb rfl rfl
   obtain⟨ks0,ks1⟩:=aR hT2.hs rfl rfl
   obtain⟨kz0,kz1⟩:=bW hT2.hs
   rcases fstAt_cases ln (eqLk ls (min a b) (max a b))with ⟨i,hi,hf,hno,hfp⟩|⟨hno,hfp⟩
   ·obtain rfl:t=i:=ht.symm.trans hfp;have hE2:Hid (lX n vs ln ls a b=0):=hE1.out.trans (if_pos (by rw[hjn.out];exact bR hi hf));have hi':Hid (i<ln/\eqLk ls (min a b) (max a b) i=true):=⟨hi,hf⟩;have hi0:¬((i:Int)<0):=by omega
    have hfn:=gA x n c vs lx ln lc ls wc (hp.later hT2.below) (by omega) (hl.later hT2.below) (by omega) hfew;clear hE1 hjn ht hfp hf hno;go_wp2_with fail;refine hfn.mono ?_;rintro e w4 ⟨vV,vK,us,rfl,hsv,hOV,hVo,hOK,hb4⟩;have hT4:=hT2.later hb4;clear hfn;obtain⟨g,cap,hvK,hgc,hg63⟩:=hOK.held (by rw[hll.out];omega);obtain⟨X,C,hvV, -⟩:=hOV.mem;obtain⟨kk,hkk⟩:∃kk,Hid (ls.length=kk+1):=⟨ls.length- 1,by show _=_;rw[hll.out];omega⟩;rw[hkk.out]at hvK hgc;subst hvV;subst hvK;have hw3s:Hid (w.heap.size+1<wc.heap.size):=(zG hT2.hs);have hik:i<=kk:=by have:=hkk.out;have:=hll.out;omega
    clear k0 k1 ks0 ks1 kz0 kz1;go_upto_region 8 with fail
    obtain⟨w5,hw5⟩:∃w5,w5=w4.alloc (eD (.slice X us.length C) (.slice (some ⟨g,0,none⟩) (kk+1) cap)):=⟨_,rfl⟩;rw[<-hw5];have hb5:Below w4.heap.size w4 w5:=by rw[hw5];exact bl1 w4 _
    have hbx5:w5.heap[w4.heap.size]?=some (eD (.slice X us.length C) (.slice (some ⟨g,0,none⟩) (kk+1) cap)):=by rw[hw5];exact aB _ rfl
    clear hw5;have hT5:=hT4.later hb5;have hOK5:=hOK.later hb5;have hOV5:=hOV.later hb5;have m1:=aP hbx5 1 rfl;have hdel:=HZ wc.heap.size g kk cap i (i+1) ls w5 hOK5 hkk.out hik rfl (by have:=hkk.out;have:=hll.out;omega) hgc hg63;have hw63:IntKind.i64.wrap ((i:Int)+1)=(i:Int)+1:=by rw[IntKind.wrap_i64];omega
    obtain⟨hgb,cur,hcur⟩:=hOK5.block;have hkk6:kk<=12:=by have:=hkk.out;have:=hll.out;omega
    go_wp2_with fail;refine hdel.mono ?_;rintro e w6 ⟨rfl,hO6,hg6⟩;have hbg:w4.heap.size≠g:=fun e=>by rw[<-e,hbx5]at hcur;simp at hcur
    have hng:g≠w.heap.size/\g≠w.heap.size+1:=by have:=hw3s.out;omega
    have hT6:TM w w6 x n c lx ln lc:=⟨cN hg6 (fun e=>hng.1 e.symm) hT5.hb,cN hg6 (fun e=>hng.2 e.symm) hT5.hs,dN hT5.below hg6 (fun q e=>by cases e;have:=hw3s.out;omega)⟩;have hbx6:=cN hg6 hbg hbx5;have hOV6:bZ w6 wc.heap.size (.slice X us.length C) us:=hOV5.kept hg6 (fun q hq e=>by subst e;exact hOV5.ne hcur (by decide) hq);have hVo6:∀i,i<us.length->mC w6 wc.heap.size (aE us i):=fun i hi=>((hVo i hi).later hb5).grown hg6 hcur (by decide) (by decide) (by decide) (by decide);have hR:Hid (SM vs ls a b us (ls.take i++ls.drop (i+1))):=⟨hsv,i,by rw[hll.out];exact hi'.out.1,hi'.out.2,rfl⟩;have hml:Hid ((ls.take i++ls.drop (i+1)).length=kk):=by show _=_;have:=hkk.out;simp;omega
    obtain⟨ms,hms⟩:∃ms,ms=ls.take i++ls.drop (i+1):=⟨_,rfl⟩;rw[<-hms]at hO6 hR hml;have g1:=aP hbx6 1 rfl;have gz:=(aC hbx6).2 1;clear m1 hdel hw63 hms hOV5 hVo hOK5 hOK hOV hg6;go_upto_region 9 with fail
    obtain⟨w7,hw7⟩:∃w7,w7=w6.setCell ⟨w4.heap.size,1,none⟩ (.slice (some ⟨g,0,none⟩) kk cap):=⟨_,rfl⟩;rw[<-hw7];have hbx7:w7.heap[w4.heap.size]?=some (eD (.slice X us.length C) (.slice (some ⟨g,0,none⟩) kk cap)):=by
     rw[hw7];simpa using heap_setCell_same w6 w4.heap.size 1 _ _ (.slice (some ⟨g,0,none⟩) kk cap) hbx6
    have hne0:w.heap.size≠w4.heap.size:=by have:=hw3s.out;have:=hb4.size;omega
    have hne1:w.heap.size+1≠w4.heap.size:=by have:=hw3s.out;have:=hb4.size;omega
    have hT7:TM w w7 x n c lx ln lc:=by
     rw[hw7];exact⟨(zB hne0).trans hT6.hb,(zB hne1).trans hT6.hs,hT6.below.setCell (p:=⟨w4.heap.size,1,none⟩) (by show w.heap.size<=w4.heap.size;have:=hw3s.out;have:=hb4.size;omega) _⟩
    have hO7:bZ w7 wc.heap.size (.slice X us.length C) us:=by rw[hw7];exact hOV6.putBox hbx6 (by decide)
    have hVo7:∀i,i<us.length->mC w7 wc.heap.size (aE us i):=fun i hi=>by rw[hw7];exact(hVo6 i hi).putBox hbx6 (by decide) (by decide) (by decide) (by decide)
    have hOK7:bU w7 wc.heap.size (.slice (some ⟨g,0,none⟩) kk cap) ms:=by rw[hw7];exact hO6.putBox hbx6 (by decide)
    clear hw7 g1 gz hOV6 hVo6 hO6 hbx6 hT6;obtain⟨g0,g1⟩:=aR hbx7 rfl rfl;obtain⟨k0,k1⟩:=aR hT7.hb rfl rfl;obtain⟨ks0,ks1⟩:=aR hT7.hs rfl rfl;obtain⟨kz0,kz1⟩:=bW hT7.hs;go_wp2;refine bodyPost_ret (v:= .tuple #[.agg #[.slice X us.length C, .slice (some ⟨g,0,none⟩) kk cap], .int .i64 0]) (by simp[results,Tryz.results57,go_sem,ks0,ks1]) rfl ?_;exact dA.ok hE2.out ((hT7.below.setCell (p:=⟨w.heap.size+1,0,none⟩) (zA) _).setCell (p:=⟨w.heap.size+1,1,none⟩) (zA) _) (us:=us) (ms:=ms) (NO.of ((hO7.put hw3s.out).put hw3s.out) (by have:=hw3s.out;omega) (b2:=wc.heap.size) (fun u hu=>by
     obtain⟨j,hj,rfl⟩:=dH hu;exact((hVo7 j hj).put hw3s.out).put hw3s.out) (by have:=hw3s.out;omega) ((hOK7.put hw3s.out).put hw3s.out) (by have:=hw3s.out;omega)) hR.out
   ·obtain rfl:t= -1:=ht.symm.trans hfp;have hE2:Hid (lX n vs ln ls a b=5/\(5:Int)≠0):=⟨hE1.out.trans (if_neg (by rw[hjn.out,nJ hno];decide)),by decide⟩;clear hE1 hjn ht hfp hno;go_wp2;refine bodyPost_ret (v:= .tuple #[.agg #[.slice none 0 0, .slice none 0 0], .int .i64 5]) (by simp[results,Tryz.results57,go_sem,ks0,ks1]) rfl ?_;exact dA.err hE2.out ((hT2.below.setCell (p:=⟨w.heap.size+1,0,none⟩) (zA) _).setCell (p:=⟨w.heap.size+1,1,none⟩) (zA) _)
 ·obtain⟨t,ht⟩:∃t,cW n vs ln ls=t:=⟨_,rfl⟩;have hck:=fI x n c vs lx ln lc ls t ht w0 (hp.later hT0.below) hn hnc (hl.later hT0.below) hln;rw[ht]at hc0;have hE1:Hid (lX n vs ln ls a b=t/\t≠0):=⟨by rw[hE.out,ht,if_neg hc0],hc0⟩;have hne:(t !=0)=true:=by simpa using hc0
  clear hE ht;go_wp2_with fail;refine hck.mono ?_;rintro e w1 ⟨rfl,hb⟩;have hT1:=hT0.later hb;clear k0 k1 ks0 ks1 kz0 kz1;obtain⟨k0,k1⟩:=aR hT1.hb rfl rfl;obtain⟨ks0,ks1⟩:=aR hT1.hs rfl rfl;obtain⟨kz0,kz1⟩:=bW hT1.hs;clear hck;go_wp2;refine bodyPost_ret (v:= .tuple #[.agg #[.slice none 0 0, .slice none 0 0], .int .i64 t]) (by simp[results,Tryz.results57,go_sem,ks0,ks1]) rfl ?_;exact dA.err hE1.out ((hT1.below.setCell (p:=⟨w.heap.size+1,0,none⟩) (zA) _).setCell (p:=⟨w.heap.size+1,1,none⟩) (zA) _)
theorem Hid.mk'{p:Prop}(h:p):Hid p:=h
def wT(p:Int×Int)(ls:List (Int×Int)):Nat:=((List.range ls.length).find? fun i=>kD p (lkAt ls i)).getD ls.length
def iE(p:Int×Int)(ls:List (Int×Int)):List (Int×Int):=ls.take (wT p ls)++[p]++ls.drop (wT p ls)
theorem SP(hi:i<=ls.length)(hlo:∀j,j<i->kD p (lkAt ls j)=false)(hup:i<ls.length->kD p (lkAt ls i)=true):wT p ls=i:=by
 unfold wT;by_cases h:i<ls.length
 ·have:(List.range ls.length).find? (fun i=>kD p (lkAt ls i))=some i:=by
   rw[List.find?_range_eq_some];exact⟨hup h,by simpa using h,fun j hj=>by simpa using hlo j hj⟩
  rw[this];rfl
 ·obtain rfl:i=ls.length:=by omega
  have:(List.range ls.length).find? (fun i=>kD p (lkAt ls i))=none:=by
   rw[List.find?_eq_none];intro j hj;rw[hlo j (by simpa using hj)];decide
  rw[this];rfl
theorem SQ(hi:i<=ls.length)(hlo:∀j,j<i->kD p (lkAt ls j)=false)(hup:i<ls.length->kD p (lkAt ls i)=true):iE p ls=ls.take i++[p]++ls.drop i:=by
 unfold iE;rw[SP hi hlo hup]
theorem VW:q∈iE p ls↔q=p\/q∈ls:=by
 unfold iE;conv=>rhs;rw[<-List.take_append_drop (wT p ls) ls]
 simp only[List.mem_append,List.mem_cons,List.not_mem_nil,or_false];constructor
 ·rintro((h|h)|h)
  ·exact .inr (.inl h)
  ·exact .inl h
  ·exact .inr (.inr h)
 ·rintro(h|h|h)
  ·exact .inl (.inr h)
  ·exact .inl (.inl h)
  ·exact .inr h
theorem VX:(iE p ls).length=ls.length+1:=by
 have h1:ls.length=(ls.take (wT p ls)).length+(ls.drop (wT p ls)).length:=by
  rw[<-List.length_append,List.take_append_drop]
 unfold iE;rw[List.length_append,List.length_append,List.length_singleton];omega
theorem gS{g:Nat->Bool}(h:∀i,i<n->f i=g i):(List.range n).all f=(List.range n).all g:=by
 rw[Bool.eq_iff_iff,List.all_eq_true,List.all_eq_true];constructor
 ·intro h1 i hi;rw[<-h i (by simpa using hi)];exact h1 i hi
 ·intro h1 i hi;rw[h i (by simpa using hi)];exact h1 i hi
theorem H2{vs:List Vn}(h:bV vs us):cQ us=cQ vs:=by
 unfold cQ;refine List.ext_getElem (by simp[h.1]) fun i h1 h2=>?_;have hi:i<vs.length:=by simpa using h2
 have hj:i<us.length:=by rw[<-h.1];exact hi
 rw[List.getElem_map,List.getElem_map,<-fU hi,<-fU hj,(h.2 i hi).1]
theorem H3{vs:List Vn}(hl:vs.length=n)(h:bV vs us):E1 ms n us=E1 ms n vs:=by
 unfold E1;refine gS fun i hi=>?_;unfold R4;refine gS fun j hj=>?_;unfold N6;obtain⟨a1,a2,a3, -⟩:=h.2 i (by omega);obtain⟨b1,b2,b3, -⟩:=h.2 j (by omega);rw[a1,a2,a3,b1,b2,b3]
def oV(n:Nat)(vs:List Vn)(ln:Nat)(ls:List (Int×Int))(a b:Int):Int:=
 if cW n vs ln ls=0 then(if a=b then 3 else if aJ n vs a<0 then 5 else if aJ n vs b<0 then 5 else if jnB ln ls a b=true then 6 else if E1 (iE (min a b,max a b) ls) n vs=false then 9 else if ln=12 then 2 else 0)else cW n vs ln ls
def LZ(vs:List Vn)(ls:List (Int×Int))(a b:Int)(us:List Vn)(ms:List (Int×Int)):Prop:=bV vs us/\ms=iE (min a b,max a b) ls
theorem SR(x:Option Addr)(n c:Nat)(vs:List Vn)(lx:Option Addr)(ln lc:Nat)(ls:List (Int×Int))(a b:Int)(w:World)(hp:VS w x n vs)(hn:n<=9223372036854775807)(hnc:n<=c)(hl:PS w lx ln ls)(hln:ln<=9223372036854775807):
  Calls Tryz.prog 56 #[.agg #[.slice x n c, .slice lx ln lc], .int .i64 a, .int .i64 b] w (dA (oV n vs ln ls a b) (LZ vs ls a b) w):=by
 have hvl:Hid (vs.length=n):=hp.len;have hll:Hid (ls.length=ln):=hl.len;obtain⟨E,hEE⟩:∃E,E=oV n vs ln ls a b:=⟨_,rfl⟩;rw[<-hEE];unfold oV at hEE;replace hEE:=Hid.mk' hEE;go_enter Tryz.func56,Tryz.ntmps56;go_upto_region 1 with fail
 obtain⟨w0,hw0⟩:∃w0,w0=(w.alloc (nH x n c lx ln lc)).alloc (eD (.slice none 0 0) (.slice none 0 0)):=⟨_,rfl⟩;rw[<-hw0];have hT0:TM w w0 x n c lx ln lc:=by
  rw[hw0];exact⟨aG _ (aB _ rfl),aB _ (by simp),bO w _ _⟩
 clear hw0;obtain⟨k0,k1⟩:=aR hT0.hb rfl rfl;obtain⟨ks0,ks1⟩:=aR hT0.hs rfl rfl;obtain⟨kz0,kz1⟩:=bW hT0.hs;by_cases hc0:cW n vs ln ls=0
 ·have hck:=fI x n c vs lx ln lc ls 0 hc0 w0 (hp.later hT0.below) hn hnc (hl.later hT0.below) hln;obtain⟨h6,h12,hfew⟩:=mO hc0;rw[if_pos hc0]at hEE;obtain⟨-, -,hvb,hlb, -⟩:=lW hc0;have hvf:=AF hvb;have hlk0:Hid (∀q∈ls,q.1∈cQ vs/\q.2∈cQ vs):=fun q hq=>by
   obtain⟨-,⟨k1,h1,e1⟩,k2,h2,e2⟩:=SD hvl.out hll.out hlb q hq;rw[<-e1,<-e2];exact⟨xZ (by rw[hvl.out];exact h1),xZ (by rw[hvl.out];exact h2)⟩
  clear hc0 hvb hlb;by_cases hab:a=b
  ·rw[if_pos hab]at hEE;have hE2:Hid (E=3/\(3:Int)≠0):=⟨hEE.out,by decide⟩;have hab':(a==b)=true:=by simpa using hab
   clear hEE hab;go_wp2_with fail;refine hck.mono ?_;rintro e w1 ⟨rfl,hb⟩;have hT1:=hT0.later hb;clear k0 k1 ks0 ks1 kz0 kz1;obtain⟨k0,k1⟩:=aR hT1.hb rfl rfl;obtain⟨ks0,ks1⟩:=aR hT1.hs rfl rfl;obtain⟨kz0,kz1⟩:=bW hT1.hs;clear hck;go_wp2;refine bodyPost_ret (v:= .tuple #[.agg #[.slice none 0 0, .slice none 0 0], .int .i64 3]) (by simp[results,Tryz.results56,go_sem,ks0,ks1]) rfl ?_;exact dA.err hE2.out ((hT1.below.setCell (p:=⟨w.heap.size+1,0,none⟩) (zA) _).setCell (p:=⟨w.heap.size+1,1,none⟩) (zA) _)
  rw[if_neg hab]at hEE;have hab':(a==b)=false:=by simpa using hab
  clear hab;go_wp2_with fail;refine hck.mono ?_;rintro e w1 ⟨rfl,hb⟩;have hT1:=hT0.later hb;clear k0 k1 ks0 ks1 kz0 kz1;obtain⟨k0,k1⟩:=aR hT1.hb rfl rfl;obtain⟨ks0,ks1⟩:=aR hT1.hs rfl rfl;obtain⟨kz0,kz1⟩:=bW hT1.hs;clear hck;obtain⟨ta,hta⟩:∃t,aJ n vs a=t:=⟨_,rfl⟩;obtain⟨tb,htb⟩:∃t,aJ n vs b=t:=⟨_,rfl⟩;have hpa:=tB a x n c vs lx ln lc ta hta w1 (hp.later hT1.below) (by omega);have hmA:Hid (0<=ta->a∈cQ vs):=fun h=>mL hvl.out (by rw[hta];omega);have hmB:Hid (0<=tb->b∈cQ vs):=fun h=>mL hvl.out (by rw[htb];omega);have hpb:=fun W (hW:Below w1.heap.size w1 W)=>tB b x n c vs lx ln lc tb htb W ((hp.later hT1.below).later hW) (by omega);rw[hta,htb]at hEE;clear hta htb;by_cases ha0:ta<0
  ·rw[if_pos ha0]at hEE;have hE2:Hid (E=5/\(5:Int)≠0):=⟨hEE.out,by decide⟩;clear hEE hpb hmA hmB;go_wp2_with fail;refine hpa.mono ?_;rintro e w2 ⟨rfl,hb⟩;have hT2:=hT1.later hb;clear k0 k1 ks0 ks1 kz0 kz1;obtain⟨k0,k1⟩:=aR hT2.hb rfl rfl;obtain⟨ks0,ks1⟩:=aR hT2.hs rfl rfl;obtain⟨kz0,kz1⟩:=bW hT2.hs;clear hpa;go_wp2;refine bodyPost_ret (v:= .tuple #[.agg #[.slice none 0 0, .slice none 0 0], .int .i64 5]) (by simp[results,Tryz.results56,go_sem,ks0,ks1]) rfl ?_;exact dA.err hE2.out ((hT2.below.setCell (p:=⟨w.heap.size+1,0,none⟩) (zA) _).setCell (p:=⟨w.heap.size+1,1,none⟩) (zA) _)
  rw[if_neg ha0]at hEE;have hma:=hmA.out (by omega);go_wp2_with fail;refine hpa.mono ?_;rintro e w2 ⟨rfl,hb2⟩;have hT2:=hT1.later hb2;have hpb2:=hpb w2 hb2;clear k0 k1 ks0 ks1 kz0 kz1;obtain⟨k0,k1⟩:=aR hT2.hb rfl rfl;obtain⟨ks0,ks1⟩:=aR hT2.hs rfl rfl;obtain⟨kz0,kz1⟩:=bW hT2.hs;clear hpa hpb hmA;by_cases hb0:tb<0
  ·rw[if_pos hb0]at hEE;have hE2:Hid (E=5/\(5:Int)≠0):=⟨hEE.out,by decide⟩;clear hEE hmB;go_wp2_with fail;refine hpb2.mono ?_;rintro e w3 ⟨rfl,hb⟩;have hT3:=hT2.later hb;clear k0 k1 ks0 ks1 kz0 kz1;obtain⟨k0,k1⟩:=aR hT3.hb rfl rfl;obtain⟨ks0,ks1⟩:=aR hT3.hs rfl rfl;obtain⟨kz0,kz1⟩:=bW hT3.hs;clear hpb2;go_wp2;refine bodyPost_ret (v:= .tuple #[.agg #[.slice none 0 0, .slice none 0 0], .int .i64 5]) (by simp[results,Tryz.results56,go_sem,ks0,ks1]) rfl ?_;exact dA.err hE2.out ((hT3.below.setCell (p:=⟨w.heap.size+1,0,none⟩) (zA) _).setCell (p:=⟨w.heap.size+1,1,none⟩) (zA) _)
  rw[if_neg hb0]at hEE;have hmb:=hmB.out (by omega);go_wp2_with fail;refine hpb2.mono ?_;rintro e w3 ⟨rfl,hb3⟩;have hT3:=hT2.later hb3;clear k0 k1 ks0 ks1 kz0 kz1;obtain⟨k0,k1⟩:=aR hT3.hb rfl rfl;obtain⟨ks0,ks1⟩:=aR hT3.hs rfl rfl;obtain⟨kz0,kz1⟩:=bW hT3.hs;clear hpb2 hmB;have hma':Hid (a∈cQ vs/\b∈cQ vs):=⟨hma,hmb⟩;clear hma hmb;obtain⟨tj,htj⟩:∃t,jnB ln ls a b=t:=⟨_,rfl⟩;have htj':anyAt ln (eqLk ls (min a b) (max a b))=tj:=htj;have hcn:=fun W (hW:Below w3.heap.size w3 W)=>AN (min a b) (max a b) lx ln lc ls W ((hl.later hT3.below).later hW) (by omega);rw[htj']at hcn;rw[htj]at hEE;clear htj htj';have a0:=Ws.here k1;go_upto_region 7 with fail
  go_cut [30] (fun v wc=>v= .bool tj/\Below w3.heap.size w3 wc)
  case first=>
   clear k0 k1 ks0 ks1 kz0 kz1
   refine aH w3.heap.size (by kernel_rfl) (by kernel_rfl) ?_
   repeat(go_big_quiet_step (first|(go_at_call 109;exact Calls.in_ws (zE) (kW _ _ _))|(go_at_call 108;exact Calls.in_ws (zE) (hcn _ (Ws.property _)))))
   refine wpQuiet_nil ?_
   rintro _ ⟨u,rfl⟩
   have hu:=u.property
   generalize u.val=wu at hu⊢
   clear u a0
   go_wp2
   go_meet
   case rel=>exact⟨rfl,hu⟩
  case rest=>
   obtain⟨rfl,hBc⟩:=hcut
   obtain⟨wo,hwo⟩:∃wo,wo=wc:=⟨_,rfl⟩
   subst hwo
   have hTc:=hT3.later hBc
   clear k0 k1 ks0 ks1 kz0 kz1
   clear a0 hcn
   obtain⟨k0,k1⟩:=aR hTc.hb rfl rfl
   obtain⟨ks0,ks1⟩:=aR hTc.hs rfl rfl
   obtain⟨kz0,kz1⟩:=bW hTc.hs
   cases tj with
   |true=>
    rw[if_pos rfl]at hEE
    have hE2:Hid (E=6/\(6:Int)≠0):=⟨hEE.out,by decide⟩
    clear hEE
    go_wp2
    refine bodyPost_ret (v:= .tuple #[.agg #[.slice none 0 0, .slice none 0 0], .int .i64 6]) (by simp[results,Tryz.results56,go_sem,ks0,ks1]) rfl ?_
    exact dA.err hE2.out ((hTc.below.setCell (p:=⟨w.heap.size+1,0,none⟩) (zA) _).setCell (p:=⟨w.heap.size+1,1,none⟩) (zA) _)
   |false=>
    rw[if_neg (by decide)]at hEE
    have hfn:=gA x n c vs lx ln lc ls wo (hp.later hTc.below) (by omega) (hl.later hTc.below) (by omega) hfew
    have hEH:Hid (E=if E1 (iE (min a b,max a b) ls) n vs=false then 9 else if ln=12 then 2 else 0):=hEE.out
    clear hEE
    go_wp2_with fail
    refine hfn.mono ?_
    rintro e w4 ⟨vV,vK,us,rfl,hsv,hOV,hVo,hOK,hb4⟩
    have hT4:=hTc.later hb4
    clear hfn
    obtain⟨X,C,hvV,hVS4,hXC,hC63, -⟩:=hOV.vs (fun u hu=>by
     obtain⟨i,hi,rfl⟩:=dH hu;exact kE.of (hVo i hi))
    obtain⟨Y,D,hvK,hPS4,hYD,hD63,hY0⟩:=hOK.ps
    subst hvV
    subst hvK
    have hul:Hid (us.length=n):=by show _=_;rw[<-hsv.1];exact hvl.out
    have hw3s:Hid (w.heap.size+1<wo.heap.size):=(zG hTc.hs)
    have hll12:ls.length<=12:=by rw[hll.out];exact h12
    clear k0 k1 ks0 ks1 kz0 kz1
    go_upto_region 12 with fail
    obtain⟨w5,hw5⟩:∃w5,w5=w4.alloc (eD (.slice X us.length C) (.slice Y ls.length D)):=⟨_,rfl⟩
    rw[<-hw5]
    have hb5:Below w4.heap.size w4 w5:=by rw[hw5];exact bl1 w4 _
    have hbx5:w5.heap[w4.heap.size]?=some (eD (.slice X us.length C) (.slice Y ls.length D)):=by rw[hw5];exact aB _ rfl
    clear hw5
    have hT5:=hT4.later hb5
    have hPS5:=hPS4.later hb5
    have hput:=fun W (hW:Below w5.heap.size w5 W) bf hby hby2=>SJ (min a b,max a b) Y ls.length D ls bf 2 W (hPS5.later hW) (by omega) hYD hD63 hY0 hby hby2
    have a1:=Ws.here (aP hbx5 1 rfl)
    go_cut [9] (fun p wd=>p= .pointer (some ⟨w4.heap.size,0,none⟩)/\∃w6 X6 C6,Below w5.heap.size w5 w6/\bU w6 wo.heap.size (.slice X6 (iE (min a b,max a b) ls).length C6) (iE (min a b,max a b) ls)/\wd=w6.setCell ⟨w4.heap.size,1,none⟩ (.slice X6 (iE (min a b,max a b) ls).length C6))
    case first=>
     have hbd:Below w5.heap.size w5 w5.drew:=(zD).drew
     refine bN (fun w'=>∃u:Ws w5.heap.size w5,w'=u.val) (fun j=>decide (j<7)) 9 _ (by kernel_rfl) rfl rfl ?_
     refine bL 5 [0,1,2,3] rfl _ rfl (by kernel_rfl) (fun d _ _ _ _ h=>by cases d<;>exact h) ⟨⟨_,hbd⟩,rfl⟩ ?_
     simp only[zK,zM,zI,zJ]
     repeat(go_big_quiet_step (fail))
     refine wpQuiet_nil ?_
     clear a1
     refine kO 4 5 _ _ _ _ (by kernel_rfl) (by kernel_rfl) rfl rfl rfl rfl ?_ ?_
     ·intro K hK;simp only[zI,zJ];go_wp2_with fail;refine(kW a b w5.drew).mono ?_;rintro e wl ⟨rfl,hbl⟩;have hBl:Below w5.heap.size w5 wl:=⟨hbl.os,hbl.tape,hbl.output,hbl.size,hbl.block⟩;go_wp2_with fail;refine aD (hK.out _ _ ⟨⟨_,hBl⟩,rfl⟩ ?_);clear hK K;refine aZ 5 _ _ (by kernel_rfl) (by kernel_rfl) rfl rfl ?_;intro K hK;simp only[zI,zJ];go_wp2_with fail;have hBm:Below w5.heap.size w5 (wl.alloc (.cells #[.func (.func 111) #[] #[], .func (.func 112) #[] #[]] 195)):=hBl.trans ((bl1 wl _).mono hBl.size);refine aD (hK.out _ _ ⟨⟨_,hBm⟩,rfl⟩ ?_);clear hK K;refine aZ 6 _ _ (by kernel_rfl) (by kernel_rfl) rfl rfl ?_;intro K hK;simp only[zI,zJ];go_wp2_with fail;refine(hput (wl.alloc (.cells #[.func (.func 111) #[] #[], .func (.func 112) #[] #[]] 195)) hBm wl.heap.size (by simp) (by simp)).mono ?_;rintro e w6 ⟨v6,rfl,hb6,i,hi,hlo,hup,hO6⟩;have hb56:Below w5.heap.size w5 w6:=hBm.trans (hb6.mono hBm.size);have hO6b:bU w6 wo.heap.size v6 (ls.take i++[(min a b,max a b)]++ls.drop i):=hO6.low (by have:=hb4.size;have:=hb5.size;have:=hBm.size;omega);rw[<-SQ hi hlo hup]at hO6b;obtain⟨X6,C6,hv6, -⟩:=hO6b.mem;subst hv6;go_wp2_with fail;refine aD (hK.out _ _ ⟨⟨_,hb56⟩,rfl⟩ ?_);clear hK K;have hbx6:=aA hb56 hbx5;have g1:=aP hbx6 1 rfl;have gz:=(aC hbx6).2 1;refine bB [7,8] rfl (by kernel_rfl) ?_;simp only[zK,zM,zI,zJ];go_wp2_with fail;go_meet
      case rel=>exact⟨rfl,w6,X6,C6,hb56,hO6b,rfl⟩
     ·intro K hK;simp only[zI,zJ];go_wp2_with fail;have hBl:Below w5.heap.size w5 (w5.alloc (.cells #[.func (.func 111) #[] #[], .func (.func 112) #[] #[]] 195)).drew:=(bl1 w5 _).drew;refine aD (hK.out _ _ ⟨⟨_,hBl⟩,rfl⟩ ?_);clear hK K;have f0:((w5.alloc (.cells #[.func (.func 111) #[] #[], .func (.func 112) #[] #[]] 195)).drew).cell? ⟨w5.heap.size,0,none⟩=some (.func (.func 111) #[] #[]):=(aC (aB (W:=w5) (.cells #[.func (.func 111) #[] #[], .func (.func 112) #[] #[]] 195) rfl)).1 0;have f1:((w5.alloc (.cells #[.func (.func 111) #[] #[], .func (.func 112) #[] #[]] 195)).drew).cell? ⟨w5.heap.size,1,none⟩=some (.func (.func 112) #[] #[]):=(aC (aB (W:=w5) (.cells #[.func (.func 111) #[] #[], .func (.func 112) #[] #[]] 195) rfl)).1 1;refine aZ 4 _ _ (by kernel_rfl) (by kernel_rfl) rfl rfl ?_;intro K hK;simp only[zI,zJ];go_wp2_with fail;refine(kW a b (w5.alloc (.cells #[.func (.func 111) #[] #[], .func (.func 112) #[] #[]] 195)).drew).mono ?_;rintro e wl ⟨rfl,hbl⟩;have hBm:Below w5.heap.size w5 wl:=hBl.trans (hbl.mono hBl.size);have f0':=cell_later hbl f0;have f1':=cell_later hbl f1;clear f0 f1;go_wp2_with fail;refine aD (hK.out _ _ ⟨⟨_,hBm⟩,rfl⟩ ?_);clear hK K;refine aZ 6 _ _ (by kernel_rfl) (by kernel_rfl) rfl rfl ?_;intro K hK;simp only[zI,zJ];go_wp2_with fail;refine(hput wl hBm w5.heap.size f0' f1').mono ?_;rintro e w6 ⟨v6,rfl,hb6,i,hi,hlo,hup,hO6⟩;have hb56:Below w5.heap.size w5 w6:=hBm.trans (hb6.mono hBm.size);have hO6b:bU w6 wo.heap.size v6 (ls.take i++[(min a b,max a b)]++ls.drop i):=hO6.low (by have:=hb4.size;have:=hb5.size;have:=hBm.size;omega);rw[<-SQ hi hlo hup]at hO6b;obtain⟨X6,C6,hv6, -⟩:=hO6b.mem;subst hv6;go_wp2_with fail;refine aD (hK.out _ _ ⟨⟨_,hb56⟩,rfl⟩ ?_);clear hK K;have hbx6:=aA hb56 hbx5;have g1:=aP hbx6 1 rfl;have gz:=(aC hbx6).2 1;refine bB [7,8] rfl (by kernel_rfl) ?_;simp only[zK,zM,zI,zJ];go_wp2_with fail;go_meet
      case rel=>exact⟨rfl,w6,X6,C6,hb56,hO6b,rfl⟩
    case rest=>
     obtain⟨rfl,w6,X6,C6,hb56,hO6,hwd⟩:=hcut
     clear a1 hput
     have hbx6:=aA hb56 hbx5
     have hT6:=hT5.later hb56
     obtain⟨ms,hms⟩:∃ms,Hid (ms=iE (min a b,max a b) ls):=⟨_,rfl⟩
     rw[<-hms.out]at hO6 hwd hEH
     have hml:Hid (ms.length=ls.length+1):=by show _=_;rw[hms.out];exact VX
     have hbx7:wc.heap[w4.heap.size]?=some (eD (.slice X us.length C) (.slice X6 ms.length C6)):=by
      rw[hwd];simpa using heap_setCell_same w6 w4.heap.size 1 _ _ (.slice X6 ms.length C6) hbx6
     have hne0:w.heap.size≠w4.heap.size:=by have:=hw3s.out;have:=hb4.size;omega
     have hne1:w.heap.size+1≠w4.heap.size:=by have:=hw3s.out;have:=hb4.size;omega
     have hT7:TM w wc x n c lx ln lc:=by
      rw[hwd];exact⟨(zB hne0).trans hT6.hb,(zB hne1).trans hT6.hs,hT6.below.setCell (p:=⟨w4.heap.size,1,none⟩) (by show w.heap.size<=w4.heap.size;have:=hw3s.out;have:=hb4.size;omega) _⟩
     have hO7:bZ wc wo.heap.size (.slice X us.length C) us:=by rw[hwd];exact((hOV.later hb5).later hb56).putBox hbx6 (by decide)
     have hVo7:∀i,i<us.length->mC wc wo.heap.size (aE us i):=fun i hi=>by rw[hwd];exact(((hVo i hi).later hb5).later hb56).putBox hbx6 (by decide) (by decide) (by decide) (by decide)
     have hOK7:bU wc wo.heap.size (.slice X6 ms.length C6) ms:=by rw[hwd];exact hO6.putBox hbx6 (by decide)
     clear hwd hO6 hbx6 hT6 hOV hVo hOK hVS4 hPS4 hPS5 hT5
     obtain⟨X',C',hv',hVS7,hXC', -, -⟩:=hO7.vs (fun u hu=>by
      obtain⟨i,hi,rfl⟩:=dH hu;exact kE.of (hVo7 i hi))
     simp only[Value.slice.injEq]at hv'
     obtain⟨rfl, -,rfl⟩:=hv'
     obtain⟨Y',D',hk',hPS7, -⟩:=hOK7.ps
     simp only[Value.slice.injEq]at hk'
     obtain⟨rfl, -,rfl⟩:=hk'
     have hR:Hid (LZ vs ls a b us ms):=⟨hsv,hms.out⟩
     obtain⟨ta,hta⟩:∃t,E1 ms n vs=t:=⟨_,rfl⟩
     have hap:=napart_is X us.length C us X6 ms.length C6 ms ta (by rw[hul.out,H3 hvl.out hsv];exact hta) wc hVS7 (by rw[hul.out];omega) hXC' hPS7 (by rw[hml.out];omega) (fun i hi=>by
      have h1:=(hsv.2 i (by rw[hsv.1];exact hi)).1;rw[<-h1];exact(hvf i (by rw[<-hul.out];exact hi)).1) (fun i hi=>by
      have h1:=(hsv.2 i (by rw[hsv.1];exact hi)).2.1;rw[<-h1];exact(hvf i (by rw[<-hul.out];exact hi)).2) (fun j hj=>by
      have hm:lkAt ms j∈iE (min a b,max a b) ls:=by
       rw[<-hms.out];unfold lkAt;rw[zF,List.getElem?_eq_getElem hj];exact List.getElem_mem hj
      rw[H2 hsv];show(lkAt ms j).1∈_/\(lkAt ms j).2∈_;rcases VW.1 hm with h|h
      ·rw[h];rcases Int.le_total a b with e|e
       ·rw[Int.min_eq_left e,Int.max_eq_right e];exact hma'.out
       ·rw[Int.min_eq_right e,Int.max_eq_left e];exact⟨hma'.out.2,hma'.out.1⟩
      ·exact hlk0.out _ h)
     rw[hta]at hEH
     clear hta hVS7 hPS7
     obtain⟨g0,g1⟩:=aR hbx7 rfl rfl
     go_wp2_with fail
     refine hap.mono ?_
     rintro e w8 ⟨rfl,hb8⟩
     have hT8:=hT7.later hb8
     have hbx8:=aA hb8 hbx7
     have hO8:=hO7.later hb8
     have hVo8:=fun i hi=>(hVo7 i hi).later hb8
     have hOK8:=hOK7.later hb8
     clear g0 g1 hap hO7 hVo7 hOK7 hbx7 hT7 hb8
     obtain⟨g0,g1⟩:=aR hbx8 rfl rfl
     obtain⟨k0,k1⟩:=aR hT8.hb rfl rfl
     obtain⟨ks0,ks1⟩:=aR hT8.hs rfl rfl
     obtain⟨kz0,kz1⟩:=bW hT8.hs
     cases ta with
     |false=>
      have hE2:Hid (E=9/\(9:Int)≠0):=⟨hEH.out.trans (if_pos rfl),by decide⟩
      clear hEH
      go_wp2
      refine bodyPost_ret (v:= .tuple #[.agg #[.slice none 0 0, .slice none 0 0], .int .i64 9]) (by simp[results,Tryz.results56,go_sem,ks0,ks1]) rfl ?_
      exact dA.err hE2.out ((hT8.below.setCell (p:=⟨w.heap.size+1,0,none⟩) (zA) _).setCell (p:=⟨w.heap.size+1,1,none⟩) (zA) _)
     |true=>
      have hE2:Hid (E=if ln=12 then 2 else 0):=hEH.out.trans (if_neg (by decide))
      clear hEH
      by_cases hl12:ln=12
      ·have hE3:Hid (E=2/\(2:Int)≠0):=⟨hE2.out.trans (if_pos hl12),by decide⟩;have hl12':((ln:Int)==12)=true:=by simp;omega
       have hl12'':(ln:Int)=12:=by omega
       clear hE2 hl12;go_wp2;refine bodyPost_ret (v:= .tuple #[.agg #[.slice none 0 0, .slice none 0 0], .int .i64 2]) (by simp[results,Tryz.results56,go_sem,ks0,ks1]) rfl ?_;exact dA.err hE3.out ((hT8.below.setCell (p:=⟨w.heap.size+1,0,none⟩) (zA) _).setCell (p:=⟨w.heap.size+1,1,none⟩) (zA) _)
      ·have hE3:Hid (E=0):=hE2.out.trans (if_neg hl12);have hl12':((ln:Int)==12)=false:=by simp;omega
       have hl12'':¬(ln:Int)=12:=by omega
       clear hE2 hl12;go_wp2;refine bodyPost_ret (v:= .tuple #[.agg #[.slice X us.length C, .slice X6 ms.length C6], .int .i64 0]) (by simp[results,Tryz.results56,go_sem,ks0,ks1]) rfl ?_;exact dA.ok hE3.out ((hT8.below.setCell (p:=⟨w.heap.size+1,0,none⟩) (zA) _).setCell (p:=⟨w.heap.size+1,1,none⟩) (zA) _) (us:=us) (ms:=ms) (NO.of ((hO8.put hw3s.out).put hw3s.out) (by have:=hw3s.out;omega) (b2:=wo.heap.size) (fun u hu=>by
        obtain⟨j,hj,rfl⟩:=dH hu;exact((hVo8 j hj).put hw3s.out).put hw3s.out) (by have:=hw3s.out;omega) ((hOK8.put hw3s.out).put hw3s.out) (by have:=hw3s.out;omega)) hR.out
 ·obtain⟨t,ht⟩:∃t,cW n vs ln ls=t:=⟨_,rfl⟩;have hck:=fI x n c vs lx ln lc ls t ht w0 (hp.later hT0.below) hn hnc (hl.later hT0.below) hln;rw[ht]at hc0 hEE;have hE1:Hid (E=t/\t≠0):=⟨by rw[hEE.out,if_neg hc0],hc0⟩;have hne:(t !=0)=true:=by simpa using hc0
  clear hEE ht;go_wp2_with fail;refine hck.mono ?_;rintro e w1 ⟨rfl,hb⟩;have hT1:=hT0.later hb;clear k0 k1 ks0 ks1 kz0 kz1;obtain⟨k0,k1⟩:=aR hT1.hb rfl rfl;obtain⟨ks0,ks1⟩:=aR hT1.hs rfl rfl;obtain⟨kz0,kz1⟩:=bW hT1.hs;clear hck;go_wp2;refine bodyPost_ret (v:= .tuple #[.agg #[.slice none 0 0, .slice none 0 0], .int .i64 t]) (by simp[results,Tryz.results56,go_sem,ks0,ks1]) rfl ?_;exact dA.err hE1.out ((hT1.below.setCell (p:=⟨w.heap.size+1,0,none⟩) (zA) _).setCell (p:=⟨w.heap.size+1,1,none⟩) (zA) _)
abbrev vnW(p:Vn):Value:= .agg #[.int .i64 p.id, .slice p.rx p.rn p.rc, .slice p.sx p.sn p.sc]
def fK(vid:Int)(rn:Nat)(rs:List Rg)(sn:Nat)(ss:List Sb)(r:Rg)(w:World)(e:Ending)(w':World):Prop:=
 ∃V,e= .returned (.tuple #[V, .int .i64 (fW vid rn rs sn ss r)])/\Below w.heap.size w w'/\(fW vid rn rs sn ss r≠0->V= .agg #[.int .i64 0, .slice none 0 0, .slice none 0 0])/\
  (fW vid rn rs sn ss r=0->∃u:Vn,V=vnW u/\mC w' w.heap.size u/\u.id=vid/\XH r rs u.rs/\bQ ss u.ss)
theorem fK.err(hE:fW vid rn rs sn ss r=E/\E≠0)(hb:Below w.heap.size w w'):
  fK vid rn rs sn ss r w (.returned (.tuple #[.agg #[.int .i64 0, .slice none 0 0, .slice none 0 0], .int .i64 E])) w':=
 ⟨_,by rw[hE.1],hb,fun _=>rfl,fun h=>absurd (hE.1.symm.trans h) hE.2⟩
theorem KR(vid:Int)(rx:Option Addr)(rn rc:Nat)(rs:List Rg)(sx:Option Addr)(sn sc:Nat)(ss:List Sb)(r:Rg)(w:World)(hv:Vp w rx rn rc rs sx sn sc ss)(hrn:rn<=9223372036854775807)(hsn:sn<=9223372036854775807)(hrc:rc<=9223372036854775807):
  Calls Tryz.prog 158 #[.agg #[.int .i64 vid, .slice rx rn rc, .slice sx sn sc], .agg #[.int .i64 r.a, .int .i64 r.l, .int .i64 r.p]] w (fK vid rn rs sn ss r w):=by
 have hrl:Hid (rs.length=rn):=hv.ranges.len;have hsl:Hid (ss.length=sn):=hv.subs.len;go_enter Tryz.func158,Tryz.ntmps158;go_upto_region 1 with fail
 obtain⟨w0,hw0⟩:∃w0,w0=((w.alloc (cY vid (.slice rx rn rc) (.slice sx sn sc))).alloc (.cells #[.int .i64 r.a, .int .i64 r.l, .int .i64 r.p] 127)).alloc (cY 0 (.slice none 0 0) (.slice none 0 0)):=⟨_,rfl⟩;rw[<-hw0];have hT0:TG w w0 vid (.slice rx rn rc) (.slice sx sn sc) r:=by
  rw[hw0];exact⟨aG _ (aG _ (aB _ rfl)),aG _ (aB _ (by simp)),aB _ (by simp),(bO w _ _).alloc (by simp;omega) _⟩
 clear hw0;obtain⟨b0,b1,b2⟩:=bI hT0.hb rfl rfl rfl;obtain⟨p0,p1,p2⟩:=bI hT0.hp rfl rfl rfl;obtain⟨s0,s1,s2⟩:=bI hT0.hs rfl rfl rfl;obtain⟨zs0,zs1,zs2⟩:=dQ hT0.hs;have hck:=checkV_any vid rx rn rc rs sx sn sc ss w0 (hv.later hT0.below) hrn hsn hrc;by_cases hc0:bD vid rn rs sn ss=0
 ·rw[hc0]at hck;obtain⟨f1,f2,f3,f4⟩:=dU hc0;have hE1:Hid (fW vid rn rs sn ss r=if IX r=false then 1 else if anyAt rn (LV rs r.a r.l)=true then 6 else if rn=4 then 2 else 0):=if_neg (c:=bD vid rn rs sn ss≠0) (by simp[hc0]);clear hc0;go_wp2_with fail;refine(hck).mono ?_;rintro e w1 ⟨rfl,hbw1⟩;have hT1:=hT0.later hbw1;clear b0 b1 b2 p0 p1 p2 s0 s1 s2 zs0 zs1 zs2;obtain⟨b0,b1,b2⟩:=bI hT1.hb rfl rfl rfl;obtain⟨p0,p1,p2⟩:=bI hT1.hp rfl rfl rfl;obtain⟨s0,s1,s2⟩:=bI hT1.hs rfl rfl rfl;obtain⟨zs0,zs1,zs2⟩:=dQ hT1.hs
  cases hrg:IX r with
  |false=>
   have hne:fW vid rn rs sn ss r=1/\(1:Int)≠0:=⟨hE1.out.trans (if_pos hrg),by decide⟩
   go_wp2_with fail
   refine(gW r false hrg w1).mono ?_
   rintro e w2 ⟨rfl,hbw2⟩
   have hT2:=hT1.later hbw2
   clear b0 b1 b2 p0 p1 p2 s0 s1 s2 zs0 zs1 zs2
   obtain⟨b0,b1,b2⟩:=bI hT2.hb rfl rfl rfl
   obtain⟨p0,p1,p2⟩:=bI hT2.hp rfl rfl rfl
   obtain⟨s0,s1,s2⟩:=bI hT2.hs rfl rfl rfl
   obtain⟨zs0,zs1,zs2⟩:=dQ hT2.hs
   go_wp2
   refine bodyPost_ret (v:= .tuple #[.agg #[.int .i64 0, .slice none 0 0, .slice none 0 0], .int .i64 1]) (by simp[results,Tryz.results158,go_sem,s0,s1,s2]) rfl ?_
   exact fK.err hne (((hT2.below.setCell (p:=⟨w.heap.size+2,0,none⟩) (zA) _).setCell (p:=⟨w.heap.size+2,1,none⟩) (zA) _).setCell (p:=⟨w.heap.size+2,2,none⟩) (zA) _)
  |true=>
   have hE2:Hid (fW vid rn rs sn ss r=if anyAt rn (LV rs r.a r.l)=true then 6 else if rn=4 then 2 else 0):=hE1.out.trans (if_neg (by simp[hrg]))
   go_wp2_with fail
   refine(gW r true hrg w1).mono ?_
   rintro e w2 ⟨rfl,hbw2⟩
   have hT2:=hT1.later hbw2
   clear b0 b1 b2 p0 p1 p2 s0 s1 s2 zs0 zs1 zs2
   obtain⟨b0,b1,b2⟩:=bI hT2.hb rfl rfl rfl
   obtain⟨p0,p1,p2⟩:=bI hT2.hp rfl rfl rfl
   obtain⟨s0,s1,s2⟩:=bI hT2.hs rfl rfl rfl
   obtain⟨zs0,zs1,zs2⟩:=dQ hT2.hs
   have hmt:=oL r.a r.l rx rn rc rs w2 (hv.later hT2.below).ranges (by omega)
   cases hany:anyAt rn (LV rs r.a r.l)with
   |true=>
    rw[hany]at hmt
    have hne:fW vid rn rs sn ss r=6/\(6:Int)≠0:=⟨hE2.out.trans (if_pos hany),by decide⟩
    go_wp2_with fail
    refine(hmt).mono ?_
    rintro e w3 ⟨rfl,hbw3⟩
    have hT3:=hT2.later hbw3
    clear b0 b1 b2 p0 p1 p2 s0 s1 s2 zs0 zs1 zs2
    obtain⟨b0,b1,b2⟩:=bI hT3.hb rfl rfl rfl
    obtain⟨p0,p1,p2⟩:=bI hT3.hp rfl rfl rfl
    obtain⟨s0,s1,s2⟩:=bI hT3.hs rfl rfl rfl
    obtain⟨zs0,zs1,zs2⟩:=dQ hT3.hs
    go_wp2
    refine bodyPost_ret (v:= .tuple #[.agg #[.int .i64 0, .slice none 0 0, .slice none 0 0], .int .i64 6]) (by simp[results,Tryz.results158,go_sem,s0,s1,s2]) rfl ?_
    exact fK.err hne (((hT3.below.setCell (p:=⟨w.heap.size+2,0,none⟩) (zA) _).setCell (p:=⟨w.heap.size+2,1,none⟩) (zA) _).setCell (p:=⟨w.heap.size+2,2,none⟩) (zA) _)
   |false=>
    rw[hany]at hmt
    have hE3:Hid (fW vid rn rs sn ss r=if rn=4 then 2 else 0):=hE2.out.trans (if_neg (by simp[hany]))
    by_cases h4:rn=4
    ·subst h4;have hne:fW vid 4 rs sn ss r=2/\(2:Int)≠0:=⟨hE3.out.trans (if_pos rfl),by decide⟩;go_wp2_with fail;refine(hmt).mono ?_;rintro e w3 ⟨rfl,hbw3⟩;have hT3:=hT2.later hbw3;clear b0 b1 b2 p0 p1 p2 s0 s1 s2 zs0 zs1 zs2;obtain⟨b0,b1,b2⟩:=bI hT3.hb rfl rfl rfl;obtain⟨p0,p1,p2⟩:=bI hT3.hp rfl rfl rfl;obtain⟨s0,s1,s2⟩:=bI hT3.hs rfl rfl rfl;obtain⟨zs0,zs1,zs2⟩:=dQ hT3.hs;go_wp2;refine bodyPost_ret (v:= .tuple #[.agg #[.int .i64 0, .slice none 0 0, .slice none 0 0], .int .i64 2]) (by simp[results,Tryz.results158,go_sem,s0,s1,s2]) rfl ?_;exact fK.err hne (((hT3.below.setCell (p:=⟨w.heap.size+2,0,none⟩) (zA) _).setCell (p:=⟨w.heap.size+2,1,none⟩) (zA) _).setCell (p:=⟨w.heap.size+2,2,none⟩) (zA) _)
    ·have hE0:Hid (fW vid rn rs sn ss r=0):=hE3.out.trans (if_neg h4);have hv3:=fun W (hW:Below w.heap.size w W)=>cZ vid rx rn rc rs sx sn sc ss W (hv.later hW) (by omega) (by omega) (fun i hi=>by have:=f3 i hi;omega) (fun i hi j hj=>by have:=f4 i hi j hj;omega);go_wp2_with fail;refine(hmt).mono ?_;rintro e w3 ⟨rfl,hbw3⟩;have hT3:=hT2.later hbw3;clear b0 b1 b2 p0 p1 p2 s0 s1 s2 zs0 zs1 zs2;obtain⟨b0,b1,b2⟩:=bI hT3.hb rfl rfl rfl;obtain⟨p0,p1,p2⟩:=bI hT3.hp rfl rfl rfl;obtain⟨s0,s1,s2⟩:=bI hT3.hs rfl rfl rfl;obtain⟨zs0,zs1,zs2⟩:=dQ hT3.hs;go_wp2_with fail;refine(hv3 _ hT3.below).mono ?_;rintro e w4 ⟨vR,vS,ts,rfl,hOR,hss,hOS,hb4⟩;have hT4:=hT3.later hb4;obtain⟨xr,cr,rfl,hr1,hr2,hr3⟩:=hOR.rs;obtain⟨xt,ct,rfl, -⟩:=hOS.subs;have hxr:(xr=none/\cr=0)\/∃b o,xr=some ⟨b,o,none⟩:=by
      rcases hOR.2 with ⟨hv', -⟩|⟨g2,cap2,cur2,hv', -⟩
      ·simp only[Value.slice.injEq]at hv';exact .inl ⟨hv'.1,hv'.2.2⟩
      ·simp only[Value.slice.injEq]at hv';exact .inr ⟨_,_,hv'.1⟩
     clear b0 b1 b2 p0 p1 p2 s0 s1 s2 zs0 zs1 zs2;go_upto_region 12 with fail
     obtain⟨w5,hw5⟩:∃w5,w5=w4.alloc (cY vid (.slice xr rs.length cr) (.slice xt ts.length ct)):=⟨_,rfl⟩;rw[<-hw5];have hb45:Below w4.heap.size w4 w5:=by rw[hw5];exact bl1 _ _
     have hn5:w5.heap[w4.heap.size]?=some (cY vid (.slice xr rs.length cr) (.slice xt ts.length ct)):=by rw[hw5];exact aB _ rfl
     clear hw5;have hT5:=hT4.later hb45;have n1:=aP hn5 1 rfl;have n1':∀o,(w5.alloc o).cell? ⟨w4.heap.size,1,none⟩=some (.slice xr rs.length cr):=fun o=>aF (bl1 w5 o) n1;obtain⟨p0,p1,p2⟩:=bI hT5.hp rfl rfl rfl;have p0':∀o,(w5.alloc o).cell? ⟨w.heap.size+1,0,none⟩=some (.int .i64 r.a):=fun o=>aF (bl1 w5 o) p0;have p1':∀o,(w5.alloc o).cell? ⟨w.heap.size+1,1,none⟩=some (.int .i64 r.l):=fun o=>aF (bl1 w5 o) p1;have p2':∀o,(w5.alloc o).cell? ⟨w.heap.size+1,2,none⟩=some (.int .i64 r.p):=fun o=>aF (bl1 w5 o) p2;have hput:=fun W (hW:Below w5.heap.size w5 W) hby=>RL r xr rs.length cr rs w5.heap.size 1 W ((hr1.later hb45).later hW) (by rw[hrl.out];omega) hr2 hr3 hxr hby;go_wp2_with fail;refine(hput _ (bl1 w5 _) (by simp)).mono ?_;rintro e w6 ⟨v6,rfl,hb6,i,hi,hlow,hup,hO6⟩;obtain⟨qs,hqs⟩:∃qs,Hid (qs=rs.take i++[r]++rs.drop i):=⟨_,rfl⟩;rw[<-hqs.out]at hO6;obtain⟨x6,c6,rfl, -⟩:=hO6.mem;have hb56:Below w5.heap.size w5 w6:=(bl1 w5 _).trans (hb6.mono (by simp));have hT6:=hT5.later hb56;have hn6:=aA hb56 hn5;have hOS6:=iR.later (iR.later hOS hb45) hb56;clear n1 n1' p0 p1 p2 p0' p1' p2';have hsz3:w.heap.size+2<w3.heap.size:=(zG hT3.hs);have hz4:w.heap.size+2<w4.heap.size:=Nat.lt_of_lt_of_le hsz3 hb4.size;have hz5:w.heap.size+2<w5.heap.size:=Nat.lt_of_lt_of_le hz4 hb45.size;have m0:=aP hn6 0 rfl;have m1:=aP hn6 1 rfl;have m2:=aP hn6 2 rfl;have zm:=(aC hn6).2 1;obtain⟨s0,s1,s2⟩:=bI hT6.hs rfl rfl rfl;obtain⟨zs0,zs1,zs2⟩:=dQ hT6.hs;have ne1:¬w4.heap.size=w.heap.size+2:=by omega
     have ne2:¬w.heap.size+2=w4.heap.size:=by omega
     go_wp2;refine bodyPost_ret (v:= .tuple #[.agg #[.int .i64 vid, .slice x6 qs.length c6, .slice xt ts.length ct], .int .i64 0]) (by simp[results,Tryz.results158,go_sem,s0,s1,s2]) rfl ?_;have hfin:=(((hT6.below.setCell (p:=⟨w4.heap.size,1,none⟩) (by show w.heap.size<=w4.heap.size;omega) (.slice x6 qs.length c6)).setCell (p:=⟨w.heap.size+2,0,none⟩) (zA) (.int .i64 vid)).setCell (p:=⟨w.heap.size+2,1,none⟩) (zA) (.slice x6 qs.length c6)).setCell (p:=⟨w.heap.size+2,2,none⟩) (zA) (.slice xt ts.length ct);have hos:=(((hOS6.putBox (o:=1) (u:= .slice x6 qs.length c6) hn6 (by decide) (by decide) (by decide)).put (o:=0) (u:= .int .i64 vid) hsz3).put (o:=1) (u:= .slice x6 qs.length c6) hsz3).put (o:=2) (u:= .slice xt ts.length ct) hsz3;have hor:=((((hO6.low (base':=w5.heap.size) (by simp)).putBox (o:=1) (u:= .slice x6 qs.length c6) hn6 (by decide)).put (o:=0) (u:= .int .i64 vid) hz5).put (o:=1) (u:= .slice x6 qs.length c6) hz5).put (o:=2) (u:= .slice xt ts.length ct) hz5;exact⟨_,by rw[hE0.out],hfin,fun h=>absurd hE0.out h,fun _=>⟨⟨vid,x6,qs.length,c6,qs,xt,ts.length,ct,ts⟩,rfl,⟨hor.low (by omega),hos.low (by omega)⟩,rfl,⟨i,hi,fun j hj=>by have:=hlow j hj;omega,hup,hqs.out⟩,hss⟩⟩
 ·have hne:fW vid rn rs sn ss r=bD vid rn rs sn ss/\bD vid rn rs sn ss≠0:=⟨if_pos hc0,hc0⟩;go_wp2_with fail;refine(hck).mono ?_;rintro e w1 ⟨rfl,hbw1⟩;have hT1:=hT0.later hbw1;clear b0 b1 b2 p0 p1 p2 s0 s1 s2 zs0 zs1 zs2;obtain⟨b0,b1,b2⟩:=bI hT1.hb rfl rfl rfl;obtain⟨p0,p1,p2⟩:=bI hT1.hp rfl rfl rfl;obtain⟨s0,s1,s2⟩:=bI hT1.hs rfl rfl rfl;obtain⟨zs0,zs1,zs2⟩:=dQ hT1.hs;go_wp2;refine bodyPost_ret (v:= .tuple #[.agg #[.int .i64 0, .slice none 0 0, .slice none 0 0], .int .i64 (bD vid rn rs sn ss)]) (by simp[results,Tryz.results158,go_sem,s0,s1,s2]) rfl ?_;exact fK.err hne (((hT1.below.setCell (p:=⟨w.heap.size+2,0,none⟩) (zA) _).setCell (p:=⟨w.heap.size+2,1,none⟩) (zA) _).setCell (p:=⟨w.heap.size+2,2,none⟩) (zA) _)
end Go.Proofs.YtjphnaccgfjnjaaGreatDoor
