/- A part of the proof. -/
import Derived.Test.YtkgeoeglidnnnaaGreatDoorMD01
set_option maxRecDepth 100000
set_option maxHeartbeats 20000000
namespace Go.Proofs.YtkgeoeglidnnnaaGreatDoor
variable {W w V w1 X Y w' : World} {k n b base c i rn rc sn sc g f : Nat} {v p q v' : Value} {t : TypeId} {a : Act} {l : List Oper} {H o : List (Int × Int)} {x rx sx : Option Addr} {r : Option Nat} {P : Program} {ops : Array Oper} {Q : Exit → Act → World → Prop} {mn mx us co : Int} {ns : List Int} {C S : World → Prop} {listed : Array Bool} {T : Nat → Bool} {oi : Oper}
open Go.RowKit Go.Shelf
attribute [local go_sem] Oper.semAt_some
theorem B0{β:Type}{B:Nat}{w:World}(h:w.heap.size<=B):OwnFrom B (fun(_:β) V=>Below w.heap.size w V):=
 fun _ X Y row hs hg hr=>⟨hg.os.trans hs.os,hg.tape.trans hs.tape,hg.output.trans hs.output,Nat.le_trans hs.size hg.size,fun k hk=>
  (hg.block k (Nat.lt_of_lt_of_le hk hs.size) (fun e=>by have:=(hr k e.symm).1;omega)).trans (hs.block k hk)⟩
theorem ML{β:Type}{B:Nat}{p:β->Prop}:OwnFrom B (fun s (_:World)=>p s):=fun _ _ _ _ hs _ _=>hs
theorem aH{v:Obj}(o:Obj)(h:W.heap[k]?=some v):(W.alloc o).heap[k]?=some v:=(Below.heap_alloc _ _ _ (zG h)).trans h
theorem aB(o:Obj)(h:k=W.heap.size):(W.alloc o).heap[k]?=some o:=by subst h;exact World.alloc_heap_new W o
theorem B1(h:Below n w V){l:Nat}(hl:n<=l)(o:Obj):Below n w (V.putObj l o):=
 ⟨h.os,h.tape,h.output,by simpa using h.size,fun k hk=>(World.putObj_heap_other (by omega)).trans (h.block k hk)⟩
theorem P8(h:V.heap[b]?=some (.cells #[p] t)):V.cell? ⟨b,0,none⟩=some p/\V.frozen? ⟨b,0,none⟩=false:=by
 simp[World.cell?,World.frozen?,h]
theorem nC(h:V.heap[b]?=some (.cells #[p,q] t)):V.cell? ⟨b,0,none⟩=some p/\V.cell? ⟨b,1,none⟩=some q/\V.frozen? ⟨b,0,none⟩=false/\V.frozen? ⟨b,1,none⟩=false:=by
 simp[World.cell?,World.frozen?,h]
theorem FB(p' q':Value)(h:V.heap[b]?=some (.cells #[p,q] t)):((V.setCell ⟨b,0,none⟩ p').setCell ⟨b,1,none⟩ q').heap[b]?=some (.cells #[p',q'] t):=by
 have h1:=heap_setCell_same V b 0 _ t p' h;have h2:=heap_setCell_same (V.setCell ⟨b,0,none⟩ p') b 1 _ t q' h1;simpa using h2
def B2(sb:Nat):Value:= .func (.func 291) #[] #[.pointer (some ⟨sb,0,none⟩)]
def pW:Option (Int×Int)->Value
 |some h=> .tuple #[.agg #[.int .i64 h.1, .int .i64 h.2], .bool true]
 |none=> .tuple #[.agg #[.int .i64 0, .int .i64 0], .bool false]
theorem MM(w:World)(a l:Int)(x:Option Addr)(n c:Nat)(f:Value):∃V,V=(((((w.alloc (.cells #[.int .i64 a, .int .i64 l, .slice x n c] 98)).alloc (.cells #[f] 138)).alloc (.cells #[.int .i64 0, .int .i64 0] 53)).alloc (.cells #[.bool false] 4)).alloc (.cells #[.int .i64 a, .int .i64 l] 53)).alloc (.cells #[.slice x n c] 96)/\
  Below w.heap.size w V/\V.heap[w.heap.size+1]?=some (.cells #[f] 138)/\V.heap[w.heap.size+1+1]?=some (.cells #[.int .i64 0, .int .i64 0] 53)/\V.heap[w.heap.size+1+1+1]?=some (.cells #[.bool false] 4)/\
  V.cell? ⟨w.heap.size+4,0,none⟩=some (.int .i64 a)/\V.cell? ⟨w.heap.size+4,1,none⟩=some (.int .i64 l)/\V.heap[w.heap.size+5]?=some (.cells #[.slice x n c] 96)/\V.heap.size=w.heap.size+6:=by
 refine⟨_,rfl,?_,?_,?_,?_,?_,?_,?_,?_⟩
 ·exact((((bP w _ _).alloc (by simp;omega) _).alloc (by simp;omega) _).alloc (by simp;omega) _).alloc (by simp;omega) _
 ·exact aH _ (aH _ (aH _ (aH _ (aB _ (by simp)))))
 ·exact aH _ (aH _ (aH _ (aB _ (by simp))))
 ·exact aH _ (aH _ (aB _ (by simp)))
 ·have h:=aH (.cells #[.slice x n c] 96) (aB (k:=w.heap.size+4) (W:=((((w.alloc (.cells #[.int .i64 a, .int .i64 l, .slice x n c] 98)).alloc (.cells #[f] 138)).alloc (.cells #[.int .i64 0, .int .i64 0] 53)).alloc (.cells #[.bool false] 4))) (.cells #[.int .i64 a, .int .i64 l] 53) (by simp));simp only[World.cell?,h];rfl
 ·have h:=aH (.cells #[.slice x n c] 96) (aB (k:=w.heap.size+4) (W:=((((w.alloc (.cells #[.int .i64 a, .int .i64 l, .slice x n c] 98)).alloc (.cells #[f] 138)).alloc (.cells #[.int .i64 0, .int .i64 0] 53)).alloc (.cells #[.bool false] 4))) (.cells #[.int .i64 a, .int .i64 l] 53) (by simp));simp only[World.cell?,h];rfl
 ·exact aB _ (by simp)
 ·simp
theorem MN(a l z:Int)(x:Option Addr)(n c:Nat)(ps:List (Int×Int))(hr:rt a l=true)(hn:n<=64)(sb m:Nat)(w:World)(hp:PS w x n ps)(hs:w.cell? ⟨sb,0,none⟩=some (.int .i64 z)):
  CallsIn Fence.wide m Tryz.prog 290 #[.agg #[.int .i64 a, .int .i64 l, .slice x n c],B2 sb] w fun e w'=>
   e= .returned (pW ((hol ps (16- l).toNat a l).find? fun h=>decide (h.2<=z)))/\Below w.heap.size w w':=by
 refine callsIn_of_wp_marks Tryz.func290 rfl trivial ?_ rfl;simp only[Tryz.ntmps290,List.size_toArray,List.length_cons,List.length_nil,Nat.reduceAdd,Nat.reduceSub,Array.replicate_succ,Array.replicate_zero,List.push_toArray,List.append_toArray,List.nil_append,List.cons_append];gi_wp2_with fail;refine⟨trivial,(fun h=>(by cases h)),?_⟩;refine(xF a l x n c _ _).mono ?_;rintro e w5 ⟨rfl,hw5⟩;obtain⟨W6,hW6,hB,y1,y2,y3,c0,c1,u5,s6⟩:=MM w a l x n c (B2 sb);rw[<-hW6]at hw5;subst hw5;clear hW6;obtain⟨l0,l1, -, -, -⟩:=bC hr;gi_wp2_with fail;have hx:0<n->∀q,x=some q->q.block<w.heap.size:=fun h0 q hq=>by
  obtain⟨b,o,hb,c0,_⟩:=hp.cells 0 h0;rw[hb]at hq
  cases hq;exact block_lt_of_cell c0
 refine fY (h:=6) (T:=TH w.heap.size) (n₀:=w.heap.size) (L:=[]) rfl rfl (gf:=302) (lb:=#[.pointer (some ⟨w.heap.size+4,0,none⟩), .pointer (some ⟨w.heap.size+5,0,none⟩)]) rfl trivial nA
  (KY w.heap.size x n c ps hn hx (16- l).toNat a l hr (by omega) _ w5 _ _ c0 c1 u5 (by omega) (by omega) (hp.later hB)) (by omega) (by omega) (fun k hk=>(by cases hk))
  (fun pre V=>(∀h∈pre,decide (h.2<=z)=false)/\Below w.heap.size w V/\V.heap[w.heap.size+1]?=some (.cells #[B2 sb] 138)/\V.heap[w.heap.size+1+1]?=some (.cells #[.int .i64 0, .int .i64 0] 53)/\V.heap[w.heap.size+1+1+1]?=some (.cells #[.bool false] 4))
  (fun pre V=>(∃pre' h,pre=pre'++[h]/\(∀g∈pre',decide (g.2<=z)=false)/\decide (h.2<=z)=true/\V.heap[w.heap.size+1+1]?=some (.cells #[.int .i64 h.1, .int .i64 h.2] 53))/\Below w.heap.size w V/\V.heap[w.heap.size+1+1+1]?=some (.cells #[.bool true] 4))
  (eR ML (eR (B0 (by omega)) (eR (iO (by omega)) (eR (iO (by omega)) (iO (by omega))))))
  (eR (fun s X Y row hs hg hr=>by
   obtain⟨p,h,e1,e2,e3,e4⟩:=hs;exact⟨p,h,e1,e2,e3,kQ hg hr (by omega) e4⟩) (eR (B0 (by omega)) (iO (by omega))))
  ⟨(fun h hh=>(by cases hh)),hB,y1,y2,y3⟩ ?assign ?body ?done ?stop
 case assign=>
  intro l' x' V K hK
  simp only[kR,List.setIfInBounds_toArray,List.set_cons_succ,List.set_cons_zero]at hK⊢
  gi_wp2_with fail
  exact hK _ _ (bl1 V _) (zE) (by simp) (by simp)
 case body=>
  rintro l' pre x' Bx V hl' hsp ⟨hno,hb,g1,g2,g3⟩ d0 d1
  simp only[kR,List.setIfInBounds_toArray,List.set_cons_succ,List.set_cons_zero]
  have hw:V.cell? ⟨w.heap.size+1,0,none⟩=some (B2 sb):=by simp[World.cell?,g1]
  unfold B2 at hw⊢
  have hcall:=MI
  obtain⟨f0,f1,z0,z1⟩:=nC g2
  obtain⟨f2,z2⟩:=P8 g3
  gi_wp2_with fail
  refine⟨trivial,(fun h=>(by cases h)),?_⟩
  have hsb:V.cell? ⟨sb,0,none⟩=some (.int .i64 z):=(hb.cell (p:=⟨sb,0,none⟩) (block_lt_of_cell hs)).trans hs
  refine(CallsIn.inRound l' (callsIn_wide.2 (P3 z x'.1 x'.2 sb V hsb))).mono ?_
  rintro e V2 ⟨rfl,hb2⟩
  have hV:=hb.size
  have e1:=(hb2.block _ (zG g1)).trans g1
  have e2:=(hb2.block _ (zG g2)).trans g2
  have e3:=(hb2.block _ (zG g3)).trans g3
  have d0':=cell_later hb2 d0
  have d1':=cell_later hb2 d1
  have hbb:Below w.heap.size w V2:=hb.trans (hb2.mono hV)
  clear f0 f1 f2 z0 z1 z2 hw d0 d1 hsb
  obtain⟨f0,f1,z0,z1⟩:=nC e2
  obtain⟨f2,z2⟩:=P8 e3
  cases hd:decide (x'.2<=z)
  ·gi_wp2_with fail;refine⟨Kl.of_below hb2,?_,hbb,e1,e2,e3⟩;intro h hh;rcases List.mem_append.1 hh with hh|hh
   ·exact hno h hh
   ·rw[List.mem_singleton.1 hh];exact hd
  ·gi_wp2_with fail;refine⟨?_,⟨pre,x',rfl,hno,hd,?_⟩,?_,?_⟩
   ·refine(Kl.of_below hb2).trans ⟨rfl,rfl,rfl,by simp,fun k o _ ho hq=>?_⟩;have n2:k≠w.heap.size+1+1:=by
     rintro rfl;rw[e2]at ho
     cases ho;rcases hq with h|h|⟨_,v,h|h⟩
     ·omega
     ·cases h
     ·cases h
     ·cases h
    have n3:k≠w.heap.size+1+1+1:=by
     rintro rfl;rw[e3]at ho
     cases ho;rcases hq with h|h|⟨_,v,h|h⟩
     ·omega
     ·cases h
     ·cases h
     ·cases h
    rw[zB n3,zB n2,zB n2];exact ho
   ·rw[zB (by simp)];exact FB _ _ e2
   ·exact((hbb.setCell (by simp;omega) _).setCell (by simp;omega) _).setCell (by simp;omega) _
   ·refine one_setCell (v:= .bool false) ?_;exact((zB (by simp)).trans (zB (by simp))).trans e3
 case done=>
  rintro D xs V hD rfl ⟨hno,hb,g1,g2,g3⟩ hkl hdef
  obtain⟨f0,f1,z0,z1⟩:=nC g2
  obtain⟨f2,z2⟩:=P8 g3
  have hV:=hb.size
  have hfind:(hol ps (16- l).toNat a l).find? (fun h=>decide (h.2<=z))=none:=List.find?_eq_none.2 (fun h hh=>by rw[hno h hh];simp)
  gi_wp2_with fail
  have nD:∀{k:Nat},k<=w.heap.size+5->k≠D:=fun h=>by omega
  have hD':(((V.setCell ⟨w.heap.size+1+1,0,none⟩ (.int .i64 0)).setCell ⟨w.heap.size+1+1,1,none⟩ (.int .i64 0)).setCell ⟨w.heap.size+1+1+1,0,none⟩ (.bool false)).heap[D]?=some (.deferred (some [])):=by
   rw[zB (by simp;omega),zB (by simp;omega),zB (by simp;omega)];exact hdef
  have h2':(((V.setCell ⟨w.heap.size+1+1,0,none⟩ (.int .i64 0)).setCell ⟨w.heap.size+1+1,1,none⟩ (.int .i64 0)).setCell ⟨w.heap.size+1+1+1,0,none⟩ (.bool false)).heap[w.heap.size+1+1]?=some (.cells #[.int .i64 0, .int .i64 0] 53):=by
   rw[zB (by simp)];exact FB _ _ g2
  have h3':(((V.setCell ⟨w.heap.size+1+1,0,none⟩ (.int .i64 0)).setCell ⟨w.heap.size+1+1,1,none⟩ (.int .i64 0)).setCell ⟨w.heap.size+1+1+1,0,none⟩ (.bool false)).heap[w.heap.size+1+1+1]?=some (.cells #[.bool false] 4):=
   one_setCell (((zB (by simp)).trans (zB (by simp))).trans g3)
  have hb':Below w.heap.size w (((V.setCell ⟨w.heap.size+1+1,0,none⟩ (.int .i64 0)).setCell ⟨w.heap.size+1+1,1,none⟩ (.int .i64 0)).setCell ⟨w.heap.size+1+1+1,0,none⟩ (.bool false)):=((hb.setCell (by simp;omega) _).setCell (by simp;omega) _).setCell (by simp;omega) _
  generalize(((V.setCell ⟨w.heap.size+1+1,0,none⟩ (.int .i64 0)).setCell ⟨w.heap.size+1+1,1,none⟩ (.int .i64 0)).setCell ⟨w.heap.size+1+1+1,0,none⟩ (.bool false))=V2 at hD' h2' h3' hb'⊢
  refine⟨by simp, .inl ⟨_,_,rfl,run_takeDeferred hD',?_⟩⟩
  obtain⟨e0,e1, -, -⟩:=nC ((World.putObj_heap_other (o:= .deferred none) (nD (by omega))).trans h2')
  obtain⟨e2, -⟩:=P8 ((World.putObj_heap_other (o:= .deferred none) (nD (by omega))).trans h3')
  refine⟨pW none,by simp[results,Tryz.results290,go_sem,e0,e1,e2,pW],by rw[hfind],B1 hb' (by omega) _⟩
 case stop=>
  rintro D pre V hD hpre ⟨⟨pre',h,rfl,hno,hyes,g2⟩,hb,g3⟩ hkl hdef
  have hV:=hb.size
  have hfind:(hol ps (16- l).toNat a l).find? (fun h=>decide (h.2<=z))=some h:=by
   obtain⟨rest,hrest⟩:=hpre;rw[<-hrest,List.append_assoc,List.find?_append,List.find?_eq_none.2 (fun g hg=>by rw[hno g hg];simp)];simp only[Option.none_or,List.cons_append,List.nil_append,List.find?_cons,hyes]
  gi_wp2_with fail
  have nD:∀{k:Nat},k<=w.heap.size+5->k≠D:=fun h=>by omega
  refine⟨by simp, .inl ⟨_,_,rfl,run_takeDeferred hdef,?_⟩⟩
  obtain⟨e0,e1, -, -⟩:=nC ((World.putObj_heap_other (o:= .deferred none) (nD (by omega))).trans g2)
  obtain⟨e2, -⟩:=P8 ((World.putObj_heap_other (o:= .deferred none) (nD (by omega))).trans g3)
  refine⟨pW (some h),by simp[results,Tryz.results290,go_sem,e0,e1,e2,pW],by rw[hfind],B1 hb (by omega) _⟩
open Go.RowKit
theorem MO(a l:Int)(w:World):
  Calls Tryz.prog 157 #[.agg #[.int .i64 a, .int .i64 l]] w fun e w'=>e= .returned (.int .i64 a)/\Below w.heap.size w w':=by
 go_enter Tryz.func157,Tryz.ntmps157;go_wp2;go_ret;exact⟨rfl,bl1 _ _⟩
theorem IJ(args:Array Value)(W:World):(callFunc 157 args).run Tryz.prog W= .ok (.enter 157 args) W:=by simp[go_sem]
theorem isNaN_any(a:Int)(w:World):
  Calls Tryz.prog 208 #[.int .i64 a] w fun e w'=>e= .returned (.bool false)/\w'=w:=by
 have h:(a !=a)=false:=by simp
 go_enter Tryz.func208,Tryz.ntmps208;go_wp2;go_ret;exact⟨rfl,rfl⟩
def FC(a c v:Int):Prop:=(a<c/\v= -1)\/(a=c/\v=0)\/(c<a/\v=1)
theorem xI(a c v:Int)(hv:FC a c v)(w:World):
  Calls Tryz.prog 153 #[.int .i64 a, .int .i64 c] w fun e w'=>e= .returned (.int .i64 v)/\w'=w:=by
 rcases hv with ⟨h,rfl⟩|⟨h,rfl⟩|⟨h,rfl⟩
 ·go_enter Tryz.func153,Tryz.ntmps153;go_wp2_with (go_at_call 208;refine(isNaN_any _ _).mono ?_;rintro e w1 ⟨rfl,rfl⟩);go_ret;exact⟨rfl,rfl⟩
 ·subst h;have h1:¬a<a:=by omega
  go_enter Tryz.func153,Tryz.ntmps153;go_wp2_with (go_at_call 208;refine(isNaN_any _ _).mono ?_;rintro e w1 ⟨rfl,rfl⟩);go_ret;exact⟨rfl,rfl⟩
 ·have h1:¬a<c:=by omega
  go_enter Tryz.func153,Tryz.ntmps153;go_wp2_with (go_at_call 208;refine(isNaN_any _ _).mono ?_;rintro e w1 ⟨rfl,rfl⟩);go_ret;exact⟨rfl,rfl⟩
theorem IK(a l c m v:Int)(hv:FC a c v)(bb k:Nat)(w:World)(hby:w.cell? ⟨bb,0,none⟩=some (.func (.func 157) #[] #[])):
  Calls Tryz.prog 211 #[.agg #[.int .i64 a, .int .i64 l], .agg #[.int .i64 c, .int .i64 m], .slice (some ⟨bb,0,none⟩) 1 k] w fun e w'=>e= .returned (.int .i64 v)/\Below w.heap.size w w':=by
 have hcall:=IJ;go_enter Tryz.func211,Tryz.ntmps211;go_wp2;go_loopw [12] (fun i wr=>∃j:Nat,(j=0\/(j=1/\v=0))/\i= .int .i64 j/\Below (w.heap.size+1+1) ((w.alloc (.cells #[.int .i64 a, .int .i64 l] 53)).alloc (.cells #[.int .i64 c, .int .i64 m] 53)) wr) (fun i _=>1- (intOf i).toNat)
 case atStart=>exact⟨0, .inl rfl,rfl,zD⟩
 case round=>
  obtain⟨j,hj,rfl,hB⟩:=hrel
  rcases hj with rfl|⟨rfl,hv0⟩
  ·have hz:=hB.size;simp only[World.size_alloc]at hz;have hbl:bb<w.heap.size:=block_lt_of_cell hby;have e0:wr.cell? ⟨w.heap.size,0,none⟩=some (.int .i64 a):=(hB.cell (p:=⟨w.heap.size,0,none⟩) (by show w.heap.size<_;omega)).trans (by simp);have e1:wr.cell? ⟨w.heap.size,1,none⟩=some (.int .i64 l):=(hB.cell (p:=⟨w.heap.size,1,none⟩) (by show w.heap.size<_;omega)).trans (by simp);have e2:wr.cell? ⟨w.heap.size+1,0,none⟩=some (.int .i64 c):=(hB.cell (p:=⟨w.heap.size+1,0,none⟩) (by show w.heap.size+1<_;omega)).trans (by simp);have e3:wr.cell? ⟨w.heap.size+1,1,none⟩=some (.int .i64 m):=(hB.cell (p:=⟨w.heap.size+1,1,none⟩) (by show w.heap.size+1<_;omega)).trans (by simp);have e4:wr.cell? ⟨bb,0,none⟩=some (.func (.func 157) #[] #[]):=(hB.cell (p:=⟨bb,0,none⟩) (by show bb<_;omega)).trans (cell_later (bP w _ _) hby);have g0:=Ws.here e0;have g1:=Ws.here e1;have g2:=Ws.here e2;have g3:=Ws.here e3;go_upto_region 4 with fail
   clear e0 e1 e2 e3 e4;refine aE wr.heap.size (by kernel_rfl) (by kernel_rfl) ?_;repeat(go_big_quiet_step (first|(go_at_call 157;exact Calls.in_ws (zE) (MO _ _ _))|(go_at_call 153;exact Calls.in_ws_same (xI _ _ _ hv _))))
   refine wpQuiet_nil ?_;rintro _ ⟨u,rfl⟩;have hu:=hB.trans (u.property.mono hz);generalize u.val=wu at hu⊢;clear u g0 g1 g2 g3;rcases hv with ⟨h,rfl⟩|⟨h,rfl⟩|⟨h,rfl⟩
   ·go_wp2;go_ret;exact⟨rfl,(bP w _ _).trans (hu.mono (by omega))⟩
   ·go_wp2;go_roundw
    case rel=>exact⟨1, .inr ⟨rfl,trivial⟩,by go_num,hu⟩
    case measure=>simp[intOf]
   ·go_wp2;go_ret;exact⟨rfl,(bP w _ _).trans (hu.mono (by omega))⟩
  ·subst hv0;go_wp2;go_ret;exact⟨rfl,(bP w _ _).trans (hB.mono (by omega))⟩
def pX(ps:List (Int×Int))(i:Nat):Bool:=i==0||decide (at0 ps (i- 1)<at0 ps i)
def uU(ps:List (Int×Int)):Bool:=(List.range ps.length).all (pX ps)
theorem UX{ps:List (Int×Int)}(hk:k<ps.length)(h:pX ps k=false):uU ps=false:=by
 unfold uU;rw[List.all_eq_false];exact⟨k,by simpa using hk,by simp[h]⟩
theorem P9{ps:List (Int×Int)}(h:∀j,j<ps.length->pX ps j=true):uU ps=true:=by
 unfold uU;rw[List.all_eq_true];intro j hj;exact h j (by simpa using hj)
theorem rise_any(x:Option Addr)(n c:Nat)(ps:List (Int×Int))(bb k:Nat)(w:World)(hp:PS w x n ps)(hn:n<=64)(hby:w.cell? ⟨bb,0,none⟩=some (.func (.func 157) #[] #[])):
  Calls Tryz.prog 156 #[.slice x n c, .slice (some ⟨bb,0,none⟩) 1 k] w fun e w'=>e= .returned (.bool (uU ps))/\Below w.heap.size w w':=by
 go_enter Tryz.func156,Tryz.ntmps156;go_wp2;go_loopw [5] (fun i wr=>∃j:Nat,1<=j/\j<=n+1/\i= .int .i64 j/\Below w.heap.size w wr/\(∀i,i<j->i<n->pX ps i=true)) (fun i _=>n+1- (intOf i).toNat)
 case atStart=>exact⟨1,by omega,by omega,rfl,zD,fun i hi _=>by
  obtain rfl:i=0:=by omega
  rfl⟩
 case round=>
  obtain⟨j,hj1,hjn,rfl,hB,hok⟩:=hrel
  have hz:=hB.size
  have hpl:=hp.len
  by_cases hlt:j<n
  ·obtain⟨i,rfl⟩:∃i,j=i+1:=⟨j- 1,by omega⟩;have hp2:=hp.later hB;obtain⟨b,o,rfl,c0,c1⟩:=hp2.cells i (by omega);obtain⟨b2,o2,hbo,c2,c3⟩:=hp2.cells (i+1) (by omega);simp only[Option.some.injEq,Addr.mk.injEq,and_true]at hbo;obtain⟨rfl,rfl⟩:=hbo;have hby':=cell_later hB hby;have hlt':=hlt;have g0:=Ws.here c0;have g1:=Ws.here c1;have g2:=Ws.here c2;have g3:=Ws.here c3;have g4:=Ws.here hby';have hv:∃v,FC (at0 ps i) (at0 ps (i+1)) v/\(decide (at0 ps i<at0 ps (i+1))=!(decide (0<=v))):=by
    rcases Int.lt_trichotomy (at0 ps i) (at0 ps (i+1))with h|h|h
    ·exact⟨-1, .inl ⟨h,rfl⟩,by simp[h]⟩
    ·exact⟨0, .inr (.inl ⟨h,rfl⟩),by simp[h]⟩
    ·exact⟨1, .inr (.inr ⟨h,rfl⟩),by simp;omega⟩
   obtain⟨v,hv,hd⟩:=hv;go_upto_region 4 with fail
   clear c0 c1 c2 c3;refine aE wr.heap.size (by kernel_rfl) (by kernel_rfl) ?_
   cases hg:decide (0<=v);all_goals rw[hg]at hd
   all_goals have hge:decide (v≥0)=_:=hg
   all_goals repeat(go_big_quiet_step ((go_at_call 211;exact Calls.in_ws (zE) (IK _ _ _ _ _ hv _ _ _ (g4 _)))))
   all_goals refine wpQuiet_nil ?_
   all_goals rintro _ ⟨u,rfl⟩
   all_goals have hu:=hB.trans (u.property.mono hz)
   all_goals generalize u.val=wu at hu⊢
   all_goals clear u g0 g1 g2 g3 g4
   all_goals go_wp2
   ·go_roundw
    case rel=>exact⟨i+1+1,by omega,by omega,by go_num,hu,fun q hq hqn=>by
     by_cases hq2:q<i+1
     ·exact hok q hq2 hqn
     ·obtain rfl:q=i+1:=by omega
      simp only[pX,Nat.add_sub_cancel,hd];simp⟩
    case measure=>simp[intOf];omega
   ·go_ret;exact⟨aI (UX (k:=i+1) (by omega) (by simp only[pX,Nat.add_sub_cancel,hd];simp)).symm,hu⟩
  ·go_wp2;go_ret;exact⟨aI (P9 (fun i hi=>hok i (by omega) (by omega))).symm,hB⟩
theorem FD{a l:Int}{ps:List (Int×Int)}:dA a l ps=((List.range ps.length).all (fun i=>jQ (at0 ps i) (bY ps i) a l&&(i==0||!eD (at0 ps (i- 1)) (bY ps (i- 1)) (at0 ps i) (bY ps i)))&&uU ps):=by
 rw[Bool.eq_iff_iff];unfold dA uU;simp only[zH,List.all_eq_true,List.mem_range,mX,pX,Bool.or_eq_true,beq_iff_eq];constructor
 ·intro h;exact⟨fun i hi=>⟨(h i hi).1,(h i hi).2.imp id (·.2)⟩,fun i hi=>(h i hi).2.imp id (·.1)⟩
 ·rintro⟨h,g⟩ i hi;refine⟨(h i hi).1,?_⟩;rcases(h i hi).2 with h1|h1
  ·exact .inl h1
  ·rcases g i hi with g1|g1
   ·exact .inl g1
   ·exact .inr ⟨g1,h1⟩
def nE(a l:Int)(ps:List (Int×Int))(i:Nat):Bool:=jQ (at0 ps i) (bY ps i) a l&&(i==0||!eD (at0 ps (i- 1)) (bY ps (i- 1)) (at0 ps i) (bY ps i))
theorem KZ{a l:Int}{ps:List (Int×Int)}(hk:k<ps.length)(h:nE a l ps k=false):dA a l ps=false:=by
 rw[FD,Bool.and_eq_false_iff];left;rw[List.all_eq_false];exact⟨k,by simpa using hk,by unfold nE at h;simp only[h];simp⟩
theorem QA{a l:Int}{ps:List (Int×Int)}(h:∀j,j<ps.length->nE a l ps j=true):dA a l ps=uU ps:=by
 rw[FD];have:(List.range ps.length).all (fun i=>jQ (at0 ps i) (bY ps i) a l&&(i==0||!eD (at0 ps (i- 1)) (bY ps (i- 1)) (at0 ps i) (bY ps i)))=true:=by
  rw[List.all_eq_true];intro j hj;exact h j (by simpa using hj)
 rw[this,Bool.true_and]
theorem MP(a l:Int)(x:Option Addr)(n c:Nat)(ps:List (Int×Int))(w:World)(hp:PS w x n ps)(hn:n<=32):
  Calls Tryz.prog 120 #[.agg #[.int .i64 a, .int .i64 l, .slice x n c]] w fun e w'=>e= .returned (.bool (dA a l ps))/\Below w.heap.size w w':=by
 go_enter Tryz.func120,Tryz.ntmps120;go_wp2;go_loopw [8] (fun i wr=>∃k:Nat,k<=n/\i= .int .i64 k/\Below (w.heap.size+1) (w.alloc (.cells #[.int .i64 a, .int .i64 l, .slice x n c] 98)) wr/\(∀j,j<k->nE a l ps j=true)) (fun i _=>n- (intOf i).toNat)
 case atStart=>exact⟨0,by omega,rfl,zD,fun j hj=>by omega⟩
 case round=>
  obtain⟨k,hk,rfl,hB,hok⟩:=hrel
  have hpl:=hp.len
  have hz:=hB.size
  simp only[World.size_alloc]at hz
  by_cases hlt:k<n
  ·have hp2:=(hp.later (bl1 w (.cells #[.int .i64 a, .int .i64 l, .slice x n c] 98)));obtain⟨b,o,rfl,c0,c1⟩:=hp2.cells k hlt;have hbl:=block_lt_of_cell c0;simp only[World.size_alloc]at hbl;have d0:wr.cell? ⟨b,o+k*2,none⟩=some (.int .i64 (at0 ps k)):=(hB.cell (p:=⟨b,o+k*2,none⟩) hbl).trans c0;have d1:wr.cell? ⟨b,o+k*2+1,none⟩=some (.int .i64 (bY ps k)):=(hB.cell (p:=⟨b,o+k*2+1,none⟩) hbl).trans c1;have e0:wr.cell? ⟨w.heap.size,0,none⟩=some (.int .i64 a):=(hB.cell (p:=⟨w.heap.size,0,none⟩) (by show w.heap.size<_;omega)).trans (by simp);have e1:wr.cell? ⟨w.heap.size,1,none⟩=some (.int .i64 l):=(hB.cell (p:=⟨w.heap.size,1,none⟩) (by show w.heap.size<_;omega)).trans (by simp);have e2:wr.cell? ⟨w.heap.size,2,none⟩=some (.slice (some ⟨b,o,none⟩) n c):=(hB.cell (p:=⟨w.heap.size,2,none⟩) (by show w.heap.size<_;omega)).trans (by simp);have hW:Below (w.heap.size+1) (w.alloc (.cells #[.int .i64 a, .int .i64 l, .slice (some ⟨b,o,none⟩) n c] 98)) (wr.alloc (.cells #[.int .i64 (at0 ps k), .int .i64 (bY ps k)] 53)):=hB.trans ((bl1 wr _).mono hz);have g0:∀u:Ws (wr.heap.size+1) (wr.alloc (.cells #[.int .i64 (at0 ps k), .int .i64 (bY ps k)] 53)),u.val.cell? ⟨w.heap.size,0,none⟩=some (.int .i64 a):=Ws.cell (by omega) (cell_later (bl1 wr _) e0);have g1:∀u:Ws (wr.heap.size+1) (wr.alloc (.cells #[.int .i64 (at0 ps k), .int .i64 (bY ps k)] 53)),u.val.cell? ⟨w.heap.size,1,none⟩=some (.int .i64 l):=Ws.cell (by omega) (cell_later (bl1 wr _) e1);have g2:∀u:Ws (wr.heap.size+1) (wr.alloc (.cells #[.int .i64 (at0 ps k), .int .i64 (bY ps k)] 53)),u.val.cell? ⟨w.heap.size,2,none⟩=some (.slice (some ⟨b,o,none⟩) n c):=Ws.cell (by omega) (cell_later (bl1 wr _) e2);have g3:∀u:Ws (wr.heap.size+1) (wr.alloc (.cells #[.int .i64 (at0 ps k), .int .i64 (bY ps k)] 53)),u.val.cell? ⟨wr.heap.size,0,none⟩=some (.int .i64 (at0 ps k)):=Ws.cell (by omega) (by simp);have g4:∀u:Ws (wr.heap.size+1) (wr.alloc (.cells #[.int .i64 (at0 ps k), .int .i64 (bY ps k)] 53)),u.val.cell? ⟨wr.heap.size,1,none⟩=some (.int .i64 (bY ps k)):=Ws.cell (by omega) (by simp);have hlt':=hlt;go_upto_region 4 with fail
   clear e0 e1 e2 c0 c1 d0 d1;refine aE (wr.heap.size+1) (by kernel_rfl) (by kernel_rfl) ?_
   cases hI:jQ (at0 ps k) (bY ps k) a l
   ·repeat(go_big_quiet_step ((go_at_call 154;exact Calls.in_ws (by simp) (sT _ _ _ _ _ hI _))))
    refine wpQuiet_nil ?_;rintro _ ⟨u,rfl⟩;have hu:=hW.trans (u.property.mono (by omega));generalize u.val=wu at hu⊢;clear u g0 g1 g2 g3 g4;go_wp2;go_ret;exact⟨aI (KZ (k:=k) (by omega) (by unfold nE;rw[hI];rfl)).symm,(bl1 w _).trans (hu.mono (by omega))⟩
   ·cases k with
    |zero=>
     repeat(go_big_quiet_step ((go_at_call 154;exact Calls.in_ws (by simp) (sT _ _ _ _ _ hI _))))
     refine wpQuiet_nil ?_
     rintro _ ⟨u,rfl⟩
     have hu:=hW.trans (u.property.mono (by omega))
     generalize u.val=wu at hu⊢
     clear u g0 g1 g2 g3 g4
     go_wp2
     go_roundw
     case rel=>exact⟨1,hlt',by go_num,hu,fun j hj=>by
      obtain rfl:j=0:=Nat.lt_one_iff.1 hj;unfold nE;rw[hI];rfl⟩
     case measure=>simp[intOf];omega
    |succ k'=>
     obtain⟨b2,o2,hbo,c2,c3⟩:=hp2.cells k' (by omega)
     simp only[Option.some.injEq,Addr.mk.injEq,and_true]at hbo
     obtain⟨rfl,rfl⟩:=hbo
     have t0:wr.cell? ⟨b,o+k'*2,none⟩=some (.int .i64 (at0 ps k')):=(hB.cell (p:=⟨b,o+k'*2,none⟩) hbl).trans c2
     have t1:wr.cell? ⟨b,o+k'*2+1,none⟩=some (.int .i64 (bY ps k')):=(hB.cell (p:=⟨b,o+k'*2+1,none⟩) hbl).trans c3
     have g5:∀u:Ws (wr.heap.size+1) (wr.alloc (.cells #[.int .i64 (at0 ps (k'+1)), .int .i64 (bY ps (k'+1))] 53)),u.val.cell? ⟨b,o+k'*2,none⟩=some (.int .i64 (at0 ps k')):=Ws.cell (by omega) (cell_later (bl1 wr _) t0)
     have g6:∀u:Ws (wr.heap.size+1) (wr.alloc (.cells #[.int .i64 (at0 ps (k'+1)), .int .i64 (bY ps (k'+1))] 53)),u.val.cell? ⟨b,o+k'*2+1,none⟩=some (.int .i64 (bY ps k')):=Ws.cell (by omega) (cell_later (bl1 wr _) t1)
     clear c2 c3 t0 t1
     cases hM:eD (at0 ps k') (bY ps k') (at0 ps (k'+1)) (bY ps (k'+1))
     all_goals repeat(go_big_quiet_step (first|(go_at_call 154;exact Calls.in_ws (by simp) (sT _ _ _ _ _ hI _))|(go_at_call 118;exact Calls.in_ws (by simp) (P1 _ _ _ _ _ hM _))))
     all_goals refine wpQuiet_nil ?_
     all_goals rintro _ ⟨u,rfl⟩
     all_goals have hu:=hW.trans (u.property.mono (by omega))
     all_goals generalize u.val=wu at hu⊢
     all_goals clear u g0 g1 g2 g3 g4 g5 g6
     all_goals go_wp2
     ·go_roundw
      case rel=>exact⟨k'+1+1,hlt',by go_num,hu,fun j hj=>by
       by_cases hj2:j<k'+1
       ·exact hok j hj2
       ·obtain rfl:j=k'+1:=by omega
        unfold nE;rw[hI,Nat.add_sub_cancel,hM];simp⟩
      case measure=>simp[intOf];omega
     ·go_ret;exact⟨aI (KZ (k:=k'+1) (by omega) (by unfold nE;rw[hI,Nat.add_sub_cancel,hM];simp)).symm,(bl1 w _).trans (hu.mono (by omega))⟩
  ·have e2:wr.cell? ⟨w.heap.size,2,none⟩=some (.slice x n c):=(hB.cell (p:=⟨w.heap.size,2,none⟩) (by show w.heap.size<_;omega)).trans (by simp);have k2:∀q,(wr.alloc q).cell? ⟨w.heap.size,2,none⟩=some (.slice x n c):=fun q=>cell_later (bl1 wr q) e2;have hB2:Below (w.alloc (.cells #[.int .i64 a, .int .i64 l, .slice x n c] 98)).heap.size (w.alloc (.cells #[.int .i64 a, .int .i64 l, .slice x n c] 98)) wr:=by rw[World.size_alloc];exact hB
   have hpw:PS wr x n ps:=(hp.later (bl1 w _)).later hB2;go_wp2_with (go_at_call 156;refine(rise_any x n c ps wr.heap.size 1 _ (hpw.later (bl1 wr _)) (by omega) (by simp)).mono ?_;rintro e w1 ⟨rfl,hb1⟩);go_ret;exact⟨aI (QA (fun j hj=>hok j (by omega))).symm,(bl1 w _).trans ((hB.trans (((bl1 wr _).trans (hb1.mono (by simp))).mono hz)).mono (by omega))⟩
theorem apart_is(a l:Int)(x:Option Addr)(n c:Nat)(ps:List (Int×Int))(t:Bool)(h:dA a l ps=t)(w:World)(hp:PS w x n ps)(hn:n<=32):
  Calls Tryz.prog 120 #[.agg #[.int .i64 a, .int .i64 l, .slice x n c]] w fun e w'=>e= .returned (.bool t)/\Below w.heap.size w w':=by
 subst h;exact MP a l x n c ps w hp hn
theorem FE(a l:Int)(x:Option Addr)(n c:Nat)(w:World)(hn:32<n):
  Calls Tryz.prog 81 #[.agg #[.int .i64 a, .int .i64 l, .slice x n c]] w fun e w'=>e= .returned (.int .i64 2)/\Below w.heap.size w w':=by
 have hi:(32:Int)<(n:Int):=by omega
 go_enter Tryz.func81,Tryz.ntmps81;go_wp2;go_ret;exact⟨rfl,bl1 _ _⟩
theorem IL(a l:Int)(x:Option Addr)(n c:Nat)(ps:List (Int×Int))(w:World)(hp:PS w x n ps)(hn:n<=32):
  Calls Tryz.prog 81 #[.agg #[.int .i64 a, .int .i64 l, .slice x n c]] w fun e w'=>e= .returned (.int .i64 (if rt a l&&dA a l ps then 0 else 1))/\Below w.heap.size w w':=by
 have hi:¬(32:Int)<(n:Int):=by omega
 cases hr:rt a l
 ·have hne:(chk a l !=0)=true:=kO hr;go_enter Tryz.func81,Tryz.ntmps81;go_wp2_with (go_at_call 119;refine(check_any a l _).mono ?_;rintro e w1 ⟨rfl,hb1⟩);go_ret;exact⟨rfl,(bl1 w _).trans (hb1.mono (by simp))⟩
 ·have hne:(chk a l !=0)=false:=kO hr
  cases hA:dA a l ps;all_goals go_enter Tryz.func81,Tryz.ntmps81
  all_goals go_wp2_with fail
  all_goals refine(check_any a l _).mono ?_
  all_goals rintro e w1 ⟨rfl,hb1⟩
  all_goals have hB:=(bl1 w _).trans (hb1.mono (by simp))
  all_goals have e0:w1.cell? ⟨w.heap.size,0,none⟩=some (.int .i64 a):=(hb1.cell (p:=⟨w.heap.size,0,none⟩) (by simp)).trans (by simp)
  all_goals have e1:w1.cell? ⟨w.heap.size,1,none⟩=some (.int .i64 l):=(hb1.cell (p:=⟨w.heap.size,1,none⟩) (by simp)).trans (by simp)
  all_goals have e2:w1.cell? ⟨w.heap.size,2,none⟩=some (.slice x n c):=(hb1.cell (p:=⟨w.heap.size,2,none⟩) (by simp)).trans (by simp)
  all_goals go_wp2_with (go_at_call 120;refine(apart_is a l x n c ps _ hA _ (hp.later hB) hn).mono ?_;rintro e w2 ⟨rfl,hb2⟩)
  all_goals go_ret
  all_goals exact⟨rfl,hB.trans (hb2.mono hB.size)⟩
theorem xJ(a l:Int)(x:Option Addr)(n c:Nat)(ps:List (Int×Int))(w:World)(hp:n<=32->PS w x n ps):
  Calls Tryz.prog 81 #[.agg #[.int .i64 a, .int .i64 l, .slice x n c]] w fun e w'=>e= .returned (.int .i64 (eI a l n ps))/\Below w.heap.size w w':=by
 unfold eI;by_cases h:32<n
 ·rw[if_pos h];exact FE a l x n c w h
 ·rw[if_neg h];exact IL a l x n c ps w (hp (by omega)) (by omega)
attribute [local go_sem] Oper.semAt_some
def sV(H:List (Int×Int)):List Value:=H.flatMap fun h=>[.int .i64 h.1, .int .i64 h.2]
theorem FF(H G:List (Int×Int)):sV (H++G)=sV H++sV G:=by simp[sV]
theorem FG(H:List (Int×Int))(i:Nat)(hi:i<H.length):(sV H)[i*2]?=some (.int .i64 (at0 H i))/\(sV H)[i*2+1]?=some (.int .i64 (bY H i)):=by
 induction H generalizing i with
 |nil=>cases hi
 |cons h t ih=>
  have e:sV (h::t)= .int .i64 h.1:: .int .i64 h.2::sV t:=by simp[sV]
  rw[e]
  cases i with
  |zero=>exact⟨rfl,rfl⟩
  |succ i=>
   have:=ih i (by simpa using hi)
   have e1:(i+1)*2=i*2+1+1:=by omega
   rw[e1]
   simpa[at0,bY]using this
theorem UY{β:Type}{B base:Nat}{e:TypeId}{size:Nat}{v:Value}{n:Nat}{xs:List Value}:OwnFrom B (fun(_:β) W=>W.ownsRow base e size v n xs):=
 fun _ X Y row hs hg hr=>⟨hs.1,hs.2.imp id (fun⟨g,cap,cur,h1,h2,h3,h4⟩=>⟨g,cap,cur,h1,h2,(hg.block g (zG h3) (fun e=>by
  obtain⟨o,ho,hc⟩:=(hr g e.symm).2;rw[h3]at ho
  cases ho
  cases hc)).trans h3,h4⟩)⟩
theorem PS.of_own(h:w.ownsRow base 53 2 v H.length (sV H)):∃x c,v= .slice x H.length c/\PS w x H.length H/\(∀q,x=some q->base<=q.block/\q.block<w.heap.size)/\H.length<=c/\c<=9223372036854775807:=by
 rcases h.2 with ⟨rfl,h0⟩|⟨g,cap,cur,rfl,hb,hg,hn,hc,hs,ht⟩
 ·refine⟨none,0,by rw[h0],⟨rfl,fun i hi=>?_⟩,(fun q hq=>by cases hq),by omega,by omega⟩;omega
 ·refine⟨some ⟨g,0,none⟩,cap,rfl,⟨rfl,fun i hi=>⟨g,0,rfl,?_,?_⟩⟩,fun q hq=>by cases hq;exact⟨hb,(zG hg)⟩,hn,by unfold maxLen at hc;omega⟩
  ·have h1:=(FG H i hi).1;rw[<-ht,List.getElem?_take_of_lt (by omega)]at h1;simp only[World.cell?,hg,Nat.zero_add];rw[<-h1];simp
  ·have h1:=(FG H i hi).2;rw[<-ht,List.getElem?_take_of_lt (by omega)]at h1;simp only[World.cell?,hg,Nat.zero_add];rw[<-h1];simp
theorem FH:(Tryz.prog.info? 53).map (fun i=>(i.zero,i.size,i.bytes))=some (some (.agg #[.int .i64 0, .int .i64 0]),2,16):=by kernel_rfl
theorem qV:∃i,Tryz.prog.info? 53=some i/\i.zero=some (.agg #[.int .i64 0, .int .i64 0])/\i.size=2/\i.bytes=16:=by
 obtain⟨i,hi,h⟩:=Option.map_eq_some_iff.1 FH;simp only[Prod.mk.injEq]at h;exact⟨i,hi,h.1,h.2.1,h.2.2⟩
theorem nF:Tryz.prog.underlying 96=some (.slice 53):=by kernel_rfl
theorem iB{a l:Int}{ps:List (Int×Int)}(h:eI a l n ps=0):n<=32/\rt a l=true/\dA a l ps=true:=by
 unfold eI at h;by_cases h1:32<n
 ·rw[if_pos h1]at h;cases h
 ·rw[if_neg h1]at h
  cases h2:rt a l<;>cases h3:dA a l ps<;>simp[h2,h3]at h;exact⟨by omega,rfl,rfl⟩
theorem iZ(h:Below w.heap.size w V){b:Nat}(hb:w.heap.size<=b)(p q:Value):Below w.heap.size w ((V.setCell ⟨b,0,none⟩ p).setCell ⟨b,1,none⟩ q):=
 (h.setCell (p:=⟨b,0,none⟩) hb p).setCell (p:=⟨b,1,none⟩) hb q
theorem oH{a l z:Int}
 (hb1:Below (((w.alloc (.cells #[.int .i64 a, .int .i64 l, .slice x n c] 98)).alloc (.cells #[.int .i64 z] 3)).alloc (.cells #[.int .i64 0, .int .i64 0] 53)).heap.size (((w.alloc (.cells #[.int .i64 a, .int .i64 l, .slice x n c] 98)).alloc (.cells #[.int .i64 z] 3)).alloc (.cells #[.int .i64 0, .int .i64 0] 53)) w1):
  w1.cell? ⟨w.heap.size,0,none⟩=some (.int .i64 a)/\w1.cell? ⟨w.heap.size,1,none⟩=some (.int .i64 l)/\w1.cell? ⟨w.heap.size,2,none⟩=some (.slice x n c)/\w1.cell? ⟨w.heap.size+1,0,none⟩=some (.int .i64 z)/\w1.heap[w.heap.size+1+1]?=some (.cells #[.int .i64 0, .int .i64 0] 53)/\w.heap.size+3<=w1.heap.size:=by
 have h0:(((w.alloc (.cells #[.int .i64 a, .int .i64 l, .slice x n c] 98)).alloc (.cells #[.int .i64 z] 3)).alloc (.cells #[.int .i64 0, .int .i64 0] 53)).heap[w.heap.size]?=some (.cells #[.int .i64 a, .int .i64 l, .slice x n c] 98):=aH _ (aH _ (aB _ rfl));have h1:(((w.alloc (.cells #[.int .i64 a, .int .i64 l, .slice x n c] 98)).alloc (.cells #[.int .i64 z] 3)).alloc (.cells #[.int .i64 0, .int .i64 0] 53)).heap[w.heap.size+1]?=some (.cells #[.int .i64 z] 3):=aH _ (aB _ (by simp));have h2:(((w.alloc (.cells #[.int .i64 a, .int .i64 l, .slice x n c] 98)).alloc (.cells #[.int .i64 z] 3)).alloc (.cells #[.int .i64 0, .int .i64 0] 53)).heap[w.heap.size+1+1]?=some (.cells #[.int .i64 0, .int .i64 0] 53):=aB _ (by simp);have g0:=(hb1.block _ (zG h0)).trans h0;have g1:=(hb1.block _ (zG h1)).trans h1;have g2:=(hb1.block _ (zG h2)).trans h2;have hs:=hb1.size;simp only[World.size_alloc]at hs;refine⟨by simp[World.cell?,g0],by simp[World.cell?,g0],by simp[World.cell?,g0],by simp[World.cell?,g1],g2,by omega⟩
def xK(a l:Int)(n:Nat)(ps:List (Int×Int))(z:Int):Int:=if eI a l n ps=0 then(if z<l\/16<z then 3 else 0)else eI a l n ps
def YW(z:Int):Option Int->Int->Value
 |some x,_=> .tuple #[.agg #[.int .i64 x, .int .i64 z], .bool true, .int .i64 0]
 |none,e=> .tuple #[.agg #[.int .i64 0, .int .i64 0], .bool false, .int .i64 e]
def wA(a l:Int)(n:Nat)(ps:List (Int×Int))(z:Int):Option Int:=if xK a l n ps z=0 then((hol ps (16- l).toNat a l).find? fun h=>decide (h.2<=z)).map (·.1)else none
theorem UZ(a l:Int)(x:Option Addr)(n c:Nat)(ps:List (Int×Int))(z:Int)(w:World)(hp:n<=32->PS w x n ps):
  Calls Tryz.prog 269 #[.agg #[.int .i64 a, .int .i64 l, .slice x n c], .int .i64 z] w fun e w'=>
   e= .returned (YW z (wA a l n ps z) (xK a l n ps z))/\Below w.heap.size w w':=by
 have hck:=xJ a l x n c ps;have hb3:∀(w:World) (o p q:Obj),Below w.heap.size w (((w.alloc o).alloc p).alloc q):=fun w o p q=>(bP w o p).alloc (by simp;omega) q;by_cases hv:eI a l n ps=0
 ·obtain⟨hn,hr, -⟩:=iB hv;have hp':=hp hn;rw[hv]at hck;by_cases hz1:z<l
  ·have hE:xK a l n ps z=3:=by unfold xK;rw[if_pos hv,if_pos (.inl hz1)]
   have hS:wA a l n ps z=none:=by unfold wA;rw[hE];rfl
   rw[hE,hS];go_enter Tryz.func269,Tryz.ntmps269;go_wp2_with fail;refine(hck _ (fun h=>(hp h).later (hb3 w _ _ _))).mono ?_;rintro e w1 ⟨rfl,hb1⟩;have hB:=(hb3 w (.cells #[.int .i64 a, .int .i64 l, .slice x n c] 98) (.cells #[.int .i64 z] 3) (.cells #[.int .i64 0, .int .i64 0] 53)).trans (hb1.mono (by simp;omega));obtain⟨e0,e1,e2,ez,er,hsz⟩:=oH hb1;obtain⟨f0,f1,z0,z1⟩:=nC er;go_wp2;refine bodyPost_ret (v:= .tuple #[.agg #[.int .i64 0, .int .i64 0], .bool false, .int .i64 3]) (by simp[results,Tryz.results269,go_sem,f0,f1]) rfl ⟨rfl,?_⟩;exact iZ hB (by omega) _ _
  ·by_cases hz2:16<z
   ·have hE:xK a l n ps z=3:=by unfold xK;rw[if_pos hv,if_pos (.inr hz2)]
    have hS:wA a l n ps z=none:=by unfold wA;rw[hE];rfl
    rw[hE,hS];go_enter Tryz.func269,Tryz.ntmps269;go_wp2_with fail;refine(hck _ (fun h=>(hp h).later (hb3 w _ _ _))).mono ?_;rintro e w1 ⟨rfl,hb1⟩;have hB:=(hb3 w (.cells #[.int .i64 a, .int .i64 l, .slice x n c] 98) (.cells #[.int .i64 z] 3) (.cells #[.int .i64 0, .int .i64 0] 53)).trans (hb1.mono (by simp;omega));obtain⟨e0,e1,e2,ez,er,hsz⟩:=oH hb1;obtain⟨f0,f1,z0,z1⟩:=nC er;go_wp2;refine bodyPost_ret (v:= .tuple #[.agg #[.int .i64 0, .int .i64 0], .bool false, .int .i64 3]) (by simp[results,Tryz.results269,go_sem,f0,f1]) rfl ⟨rfl,?_⟩;exact iZ hB (by omega) _ _
   ·have hE:xK a l n ps z=0:=by unfold xK;rw[if_pos hv,if_neg (by omega)]
    have hS:wA a l n ps z=((hol ps (16- l).toNat a l).find? fun h=>decide (h.2<=z)).map (·.1):=by unfold wA;rw[hE];rfl
    rw[hE,hS];go_enter Tryz.func269,Tryz.ntmps269;go_wp2_with fail;refine(hck _ (fun h=>(hp h).later (hb3 w _ _ _))).mono ?_;rintro e w1 ⟨rfl,hb1⟩;have hB:=(hb3 w (.cells #[.int .i64 a, .int .i64 l, .slice x n c] 98) (.cells #[.int .i64 z] 3) (.cells #[.int .i64 0, .int .i64 0] 53)).trans (hb1.mono (by simp;omega));obtain⟨e0,e1,e2,ez,er,hsz⟩:=oH hb1;obtain⟨f0,f1,z0,z1⟩:=nC er;go_wp2_with fail;have hfi:=callsIn_wide.1 (MN a l z x n c ps hr (by omega) (w.heap.size+1) 0 w1 (hp'.later hB) ez);unfold B2 at hfi;refine hfi.mono ?_;rintro e w2 ⟨rfl,hb2⟩;have hC:=hB.trans (hb2.mono hB.size);have er2:=(hb2.block _ (zG er)).trans er;have ez2:=cell_later hb2 ez;have hsz2:=hb2.size;clear e0 e1 e2 ez f0 f1 z0 z1 hb1
    cases hfind:(hol ps (16- l).toNat a l).find? fun h=>decide (h.2<=z)
    ·simp only[pW];have er3:∀o,(w2.alloc o).heap[w.heap.size+1+1]?=some (.cells #[.int .i64 0, .int .i64 0] 53):=fun o=>aH o er2;have f0:∀o,(w2.alloc o).cell? ⟨w.heap.size+1+1,0,none⟩=some (.int .i64 0):=fun o=>(nC (er3 o)).1;have f1:∀o,(w2.alloc o).cell? ⟨w.heap.size+1+1,1,none⟩=some (.int .i64 0):=fun o=>(nC (er3 o)).2.1;have z0:∀o,(w2.alloc o).frozen? ⟨w.heap.size+1+1,0,none⟩=false:=fun o=>(nC (er3 o)).2.2.1;have z1:∀o,(w2.alloc o).frozen? ⟨w.heap.size+1+1,1,none⟩=false:=fun o=>(nC (er3 o)).2.2.2;go_wp2;refine bodyPost_ret (v:= .tuple #[.agg #[.int .i64 0, .int .i64 0], .bool false, .int .i64 0]) (by simp[results,Tryz.results269,go_sem,f0,f1]) rfl ⟨by rw[hfind];rfl,?_⟩;exact iZ (hC.trans ((bl1 w2 _).mono hC.size)) (by omega) _ _
    ·rename_i h;simp only[pW];have er3:∀o,(w2.alloc o).heap[w.heap.size+1+1]?=some (.cells #[.int .i64 0, .int .i64 0] 53):=fun o=>aH o er2;have f0:∀o,(w2.alloc o).cell? ⟨w.heap.size+1+1,0,none⟩=some (.int .i64 0):=fun o=>(nC (er3 o)).1;have f1:∀o,(w2.alloc o).cell? ⟨w.heap.size+1+1,1,none⟩=some (.int .i64 0):=fun o=>(nC (er3 o)).2.1;have z0:∀o,(w2.alloc o).frozen? ⟨w.heap.size+1+1,0,none⟩=false:=fun o=>(nC (er3 o)).2.2.1;have z1:∀o,(w2.alloc o).frozen? ⟨w.heap.size+1+1,1,none⟩=false:=fun o=>(nC (er3 o)).2.2.2;have ez3:∀o,(w2.alloc o).cell? ⟨w.heap.size+1,0,none⟩=some (.int .i64 z):=fun o=>cell_later (bl1 w2 o) ez2;go_wp2;refine bodyPost_ret (v:= .tuple #[.agg #[.int .i64 h.1, .int .i64 z], .bool true, .int .i64 0]) (by simp[results,Tryz.results269,go_sem,f0,f1]) rfl ⟨by rw[hfind];rfl,?_⟩;exact iZ (hC.trans ((bl1 w2 _).mono hC.size)) (by omega) _ _
 ·have hE:xK a l n ps z=eI a l n ps:=by unfold xK;rw[if_neg hv]
  have hS:wA a l n ps z=none:=by unfold wA;rw[hE,if_neg hv]
  rw[hE,hS];have hb:(eI a l n ps !=0)=true:=by simpa using hv
  have hb':(eI a l n ps==0)=false:=by simpa using hv
  clear hE hS;generalize eI a l n ps=v at hck hb hb' hv⊢;go_enter Tryz.func269,Tryz.ntmps269;go_wp2_with fail;refine(hck _ (fun h=>(hp h).later (hb3 w _ _ _))).mono ?_;rintro e w1 ⟨rfl,hb1⟩;have hB:=(hb3 w (.cells #[.int .i64 a, .int .i64 l, .slice x n c] 98) (.cells #[.int .i64 z] 3) (.cells #[.int .i64 0, .int .i64 0] 53)).trans (hb1.mono (by simp;omega));obtain⟨e0,e1,e2,ez,er,hsz⟩:=oH hb1;obtain⟨f0,f1,z0,z1⟩:=nC er;go_wp2;refine bodyPost_ret (v:= .tuple #[.agg #[.int .i64 0, .int .i64 0], .bool false, .int .i64 v]) (by simp[results,Tryz.results269,go_sem,f0,f1]) rfl ⟨rfl,?_⟩;exact iZ hB (by omega) _ _
theorem under_int:Tryz.prog.underlying 3=some (.int .i64):=by kernel_rfl
theorem cA(b o j:Nat):(⟨b,o,none⟩:Addr).add j=⟨b,o+j,none⟩:=by
 unfold Addr.add;split
 ·simp_all
 ·rfl
theorem A3:Tryz.prog.underlying 53=some (.struct (Tryz.prog.fieldsOf 53)):=by kernel_rfl
theorem FI:Tryz.prog.stoodInHeld 53=false:=by kernel_rfl
theorem B3(a l c m:Int)(w:World):(binOp .eql 53 (.agg #[.int .i64 a, .int .i64 l]) (.agg #[.int .i64 c, .int .i64 m])).run Tryz.prog w= .ok (.bool (decide (a=c)&&decide (l=m))) w:=by
 rw[run_eql_struct,show(10000:Nat)=9999+1 from rfl,run_equalIn_agg w 9999 _ _ _ A3 FI];simp only[Program.fieldsOf,Tryz.underlying53];go_simp;by_cases h1:a=c<;>by_cases h2:l=m<;>simp[h1,h2]
theorem DF:Tryz.prog.eqGuardType Tryz.prog.depth 53=false:=by kernel_rfl
theorem qW(op:BinOp)(x y:Operand)(p q:Array Value)(w:World):(eqGuard op 53 x y (.agg p) (.agg q)).run Tryz.prog w= .ok () w:=by
 have h:=DF;unfold eqGuard
 cases op<;>simp[go_sem,h]
theorem FJ{r:Value}(h:V.heap[b]?=some (.cells #[p,q,r] t)):V.cell? ⟨b,0,none⟩=some p/\V.cell? ⟨b,1,none⟩=some q/\V.cell? ⟨b,2,none⟩=some r/\V.frozen? ⟨b,0,none⟩=false/\V.frozen? ⟨b,1,none⟩=false/\V.frozen? ⟨b,2,none⟩=false:=by
 simp[World.cell?,World.frozen?,h]
theorem xL(h:Below w.heap.size w V){b:Nat}(hb:w.heap.size<=b)(p q r:Value):Below w.heap.size w (((V.setCell ⟨b,0,none⟩ p).setCell ⟨b,1,none⟩ q).setCell ⟨b,2,none⟩ r):=
 ((h.setCell (p:=⟨b,0,none⟩) hb p).setCell (p:=⟨b,1,none⟩) hb q).setCell (p:=⟨b,2,none⟩) hb r
theorem PS.set3{ps:List (Int×Int)}(h:PS V x n ps)(hb:∀q,x=some q->q.block≠b)(p q r:Value):PS (((V.setCell ⟨b,0,none⟩ p).setCell ⟨b,1,none⟩ q).setCell ⟨b,2,none⟩ r) x n ps where
 len:=h.len
 cells:=fun i hi=>by
  obtain⟨b',o,hx,c0,c1⟩:=h.cells i hi;have hne:b'≠b:=hb _ hx;exact⟨b',o,hx,by rw[bA hne,bA hne,bA hne];exact c0,by rw[bA hne,bA hne,bA hne];exact c1⟩
open Go.ChangeShapes Go.WideShapes Go.ChangeAt Go.RowKit Go.Joins
theorem own:ownKnob Tryz.prog.godebug=none:=by kernel_rfl
theorem U0:laidOutB Tryz.prog=true:=by kernel_rfl
theorem DG:Tryz.prog.cellsOf 53=2:=by kernel_rfl
theorem gA:Tryz.prog.cellsOf 3=1:=by kernel_rfl
theorem QB{ps:List (Int×Int)}{a l:Int}(h:MJ ps a l):dA a l ps=true:=by
 refine BW fun j hj=>?_;have h1:=h.inn ps[j] (List.getElem_mem hj);unfold mX;rw[lQ hj,lR hj,h1,Bool.true_and]
 cases j with
 |zero=>rfl
 |succ j=>
  have hr:=List.pairwise_iff_getElem.1 h.rise j (j+1) (by omega) hj (by omega)
  have hp:=dR ps[j].2
  rw[Nat.add_sub_cancel,lQ (by omega),lR (by omega)]
  simp only[Bool.or_eq_true,zH,decide_eq_true_eq,Bool.not_eq_true']
  right
  refine⟨by omega,P6 fun hm=>?_⟩
  have:=xG hm
  omega
theorem gO(a l c m:Int)(t:Bool)(h:jQ a l c m=t)(w:World):
  Calls Tryz.prog 64 #[.agg #[.int .i64 a, .int .i64 l], .agg #[.int .i64 c, .int .i64 m]] w fun e w'=>e= .returned (.bool t)/\Below w.heap.size w w':=by
 subst h;exact DC a l c m w
theorem K0(a l c m:Int)(t:Bool)(h:eD a l c m=t)(w:World):
  Calls Tryz.prog 37 #[.agg #[.int .i64 a, .int .i64 l], .agg #[.int .i64 c, .int .i64 m]] w fun e w'=>e= .returned (.bool t)/\Below w.heap.size w w':=by
 subst h;exact xD a l c m w
theorem right_is(a l:Int)(t:Bool)(h:rt a l=t)(w:World):
  Calls Tryz.prog 63 #[.agg #[.int .i64 a, .int .i64 l]] w fun e w'=>e= .returned (.bool t)/\Below w.heap.size w w':=by
 subst h;exact bI a l w
theorem FK(a l:Int)(x:Option Addr)(n c:Nat)(w:World)(hn:32<n):
  Calls Tryz.prog 32 #[.agg #[.int .i64 a, .int .i64 l, .slice x n c]] w fun e w'=>e= .returned (.int .i64 2)/\Below w.heap.size w w':=by
 have hi:(32:Int)<(n:Int):=by omega
 go_enter Tryz.func32,Tryz.ntmps32;go_wp2;go_ret;exact⟨rfl,bl1 _ _⟩
theorem IM(a l:Int)(x:Option Addr)(n c:Nat)(w:World)(hn:n<=32)(hr:rt a l=false):
  Calls Tryz.prog 32 #[.agg #[.int .i64 a, .int .i64 l, .slice x n c]] w fun e w'=>e= .returned (.int .i64 1)/\Below w.heap.size w w':=by
 have hi:¬(32:Int)<(n:Int):=by omega
 go_enter Tryz.func32,Tryz.ntmps32;go_wp2_with (go_at_call 63;refine(right_is a l _ hr _).mono ?_;rintro e w1 ⟨rfl,hb1⟩);go_ret;exact⟨rfl,(bl1 w _).trans (hb1.mono (by simp))⟩
theorem IN(a l:Int)(x:Option Addr)(n c:Nat)(ps:List (Int×Int))(w:World)(hp:PS w x n ps)(hn:n<=32)(hr:rt a l=true):
  Calls Tryz.prog 32 #[.agg #[.int .i64 a, .int .i64 l, .slice x n c]] w fun e w'=>e= .returned (.int .i64 (if dA a l ps then 0 else 1))/\Below w.heap.size w w':=by
 have hi:¬(32:Int)<(n:Int):=by omega
 generalize hR:(if dA a l ps then(0:Int)else 1)=R;have HR:Hid ((if dA a l ps then(0:Int)else 1)=R):=hR;clear hR;go_enter Tryz.func32,Tryz.ntmps32;go_wp2_with fail;refine(right_is a l _ hr _).mono ?_;rintro e w1 ⟨rfl,hb1⟩;have hW:Below (w.heap.size+1) (w.alloc (.cells #[.int .i64 a, .int .i64 l, .slice x n c] 98)) w1:=hb1.mono (by simp);clear hb1;go_wp2;go_loopw [3] (fun i wr=>∃k:Nat,k<=n/\i= .int .i64 k/\Below (w.heap.size+1) (w.alloc (.cells #[.int .i64 a, .int .i64 l, .slice x n c] 98)) wr/\(∀j,j<k->mX a l ps j=true)) (fun i _=>n- (intOf i).toNat)
 case atStart=>exact⟨0,by omega,rfl,hW,fun j hj=>by omega⟩
 case round=>
  obtain⟨k,hk,rfl,hB,hok⟩:=hrel
  have hpl:=hp.len
  have e0:wr.cell? ⟨w.heap.size,0,none⟩=some (.int .i64 a):=(hB.cell (p:=⟨w.heap.size,0,none⟩) (by show w.heap.size<_;omega)).trans (by simp)
  have e1:wr.cell? ⟨w.heap.size,1,none⟩=some (.int .i64 l):=(hB.cell (p:=⟨w.heap.size,1,none⟩) (by show w.heap.size<_;omega)).trans (by simp)
  have e2:wr.cell? ⟨w.heap.size,2,none⟩=some (.slice x n c):=(hB.cell (p:=⟨w.heap.size,2,none⟩) (by show w.heap.size<_;omega)).trans (by simp)
  by_cases hlt:k<n
  ·have hp2:=(hp.later (bl1 w (.cells #[.int .i64 a, .int .i64 l, .slice x n c] 98)));obtain⟨b,o,rfl,c0,c1⟩:=hp2.cells k hlt;have hbl:=block_lt_of_cell c0;simp only[World.size_alloc]at hbl;have d0:wr.cell? ⟨b,o+k*2,none⟩=some (.int .i64 (at0 ps k)):=(hB.cell (p:=⟨b,o+k*2,none⟩) hbl).trans c0;have d1:wr.cell? ⟨b,o+k*2+1,none⟩=some (.int .i64 (bY ps k)):=(hB.cell (p:=⟨b,o+k*2+1,none⟩) hbl).trans c1;have hz:=hB.size;simp only[World.size_alloc]at hz;have g0:=Ws.here e0;have g1:=Ws.here e1;have g2:=Ws.here e2;have g3:=Ws.here d0;have g4:=Ws.here d1;go_upto_region 8 with fail
   clear e0 e1 e2 d0 d1 c0 c1
   cases hI:jQ (at0 ps k) (bY ps k) a l
   ·refine aE wr.heap.size (by kernel_rfl) (by kernel_rfl) ?_;repeat(go_big_quiet_step ((go_at_call 64;exact Calls.in_ws (zE) (gO _ _ _ _ _ hI _))))
    refine wpQuiet_nil ?_;rintro _ ⟨u,rfl⟩;have hu:=hB.trans (u.property.mono hz);generalize u.val=wu at hu⊢;clear u;go_wp2;go_ret;exact⟨aP (by rw[<-HR.out,xE (by omega) (YQ hI)];rfl),(bl1 w _).trans (hu.mono (by omega))⟩
   ·cases k with
    |zero=>
     simp only[Nat.zero_mul,Nat.add_zero]at g3 g4
     refine aE wr.heap.size (by kernel_rfl) (by kernel_rfl) ?_
     repeat(go_big_quiet_step ((go_at_call 64;exact Calls.in_ws (zE) (gO _ _ _ _ _ hI _))))
     refine wpQuiet_nil ?_
     rintro _ ⟨u,rfl⟩
     have hu:=hB.trans (u.property.mono hz)
     generalize u.val=wu at hu⊢
     clear u
     go_wp2
     go_roundw
     case rel=>exact⟨1,hlt,by go_num,hu,fun j hj=>by
      obtain rfl:j=0:=Nat.lt_one_iff.1 hj;exact aEj hI⟩
     case measure=>simp[intOf];omega
    |succ k'=>
     obtain⟨b2,o2,hbo,c2,c3⟩:=hp2.cells k' (by omega)
     simp only[Option.some.injEq,Addr.mk.injEq,and_true]at hbo
     obtain⟨rfl,rfl⟩:=hbo
     have t0:wr.cell? ⟨b,o+k'*2,none⟩=some (.int .i64 (at0 ps k')):=(hB.cell (p:=⟨b,o+k'*2,none⟩) hbl).trans c2
     have t1:wr.cell? ⟨b,o+k'*2+1,none⟩=some (.int .i64 (bY ps k')):=(hB.cell (p:=⟨b,o+k'*2+1,none⟩) hbl).trans c3
     have g5:=Ws.here t0
     have g6:=Ws.here t1
     clear c2 c3 t0 t1
     refine aE wr.heap.size (by kernel_rfl) (by kernel_rfl) ?_
     by_cases hle:at0 ps (k'+1)<=at0 ps k'
     ·repeat(go_big_quiet_step ((go_at_call 64;exact Calls.in_ws (zE) (gO _ _ _ _ _ hI _))))
      refine wpQuiet_nil ?_;rintro _ ⟨u,rfl⟩;have hu:=hB.trans (u.property.mono hz);generalize u.val=wu at hu⊢;clear u;go_wp2;go_ret;exact⟨aP (by rw[<-HR.out,xE (by omega) (YR hle)];rfl),(bl1 w _).trans (hu.mono (by omega))⟩
     ·have hd:decide (at0 ps (k'+1)<=at0 ps k')=false:=by simpa using hle
      cases hM:eD (at0 ps k') (bY ps k') (at0 ps (k'+1)) (bY ps (k'+1));all_goals repeat(go_big_quiet_step (first|(go_at_call 64;exact Calls.in_ws (zE) (gO _ _ _ _ _ hI _))|(go_at_call 37;exact Calls.in_ws (zE) (K0 _ _ _ _ _ hM _))))
      all_goals refine wpQuiet_nil ?_
      all_goals rintro _ ⟨u,rfl⟩
      all_goals have hu:=hB.trans (u.property.mono hz)
      all_goals generalize u.val=wu at hu⊢
      all_goals clear u
      all_goals go_wp2
      ·go_roundw
       case rel=>exact⟨k'+1+1,hlt,by go_num,hu,fun j hj=>by
        by_cases hj2:j<k'+1
        ·exact hok j hj2
        ·obtain rfl:j=k'+1:=by omega
         exact aEk hI hle hM⟩
       case measure=>simp[intOf];omega
      ·go_ret;exact⟨aP (by rw[<-HR.out,xE (by omega) (YS hM)];rfl),(bl1 w _).trans (hu.mono (by omega))⟩
  ·go_wp2;go_ret;exact⟨aP (by rw[<-HR.out,BW (fun j hj=>hok j (by omega))];rfl),(bl1 w _).trans (hB.mono (by omega))⟩
theorem IP(a l:Int)(x:Option Addr)(n c:Nat)(ps:List (Int×Int))(w:World)(hp:n<=32->PS w x n ps):
  Calls Tryz.prog 32 #[.agg #[.int .i64 a, .int .i64 l, .slice x n c]] w fun e w'=>e= .returned (.int .i64 (eI a l n ps))/\Below w.heap.size w w':=by
 unfold eI;by_cases h:32<n
 ·rw[if_pos h];exact FK a l x n c w h
 ·rw[if_neg h]
  cases hr:rt a l
  ·exact IM a l x n c w (by omega) hr
  ·exact IN a l x n c ps w (hp (by omega)) (by omega) hr
theorem wB{o:Oper}{K:Act->World->Prop}{E:Prop}
 (hg:o.guard=none)(s x:Operand)(t:TypeId)(hop:o.op=Op.call {callee:=Callee.builtin Builtin.append,args:=#[s,x],argTypes:=#[t,t]})
 (base:Nat)(e:TypeId)(i:TypeInfo)(z:Value)(size bytes:Nat)(h1:P.underlying t=some (.slice e))(h2:P.info? e=some i)(h3:i.zero=some z)(h4:i.size=size)(h5:i.bytes=bytes)(h6:z.cells.size=size)(h7:0<size)
 (v:Value)(n:Nat)(xs:List Value)(hs:a.eval s=v)(hown:w.ownsRow base e size v n xs)
 (ad:Addr)(m c:Nat)(news:List Value)(hx:a.eval x= .slice (some ad) m c)(hn:news.length=m*size)(hc:∀j u,news[j]?=some u->w.cell? (ad.add j)=some u)(h1c:∀u∈news,u.oneCell'=true)
 (b1:n+m<=maxLen)(b2:(n+m)*bytes<=140737488355328)(b3:base<=w.heap.size)
 (hK:∀v' w',w'.ownsRow base e size v' (n+m) (xs++news)->w.grownBy w' v.ownBlock->K (a.put o.dst v') w'):
  if Region.wanted o (yielded ops a.tmps)=true then Oper.wp P o a w K Q else E:=by
 have hw:Region.wanted o (yielded ops a.tmps)=true:=by simp[Region.wanted,hg]
 rw[if_pos hw];obtain⟨v',w',hrun,r1,r2,_⟩:=run_append_own (P:=P) w base t o.type e i z size bytes h1 h2 h3 h4 h5 h6 h7 v n xs hown ad m c news hn hc h1c b1 b2 b3;unfold Oper.wp;simp[execOp,hop,resolve,invoke,builtin,hs,hx,hrun,Result.andThen];exact hK v' w' r1 r2
theorem MQ{ps:List (Int×Int)}(hk:k<ps.length):ps.take (k+1)=ps.take k++[(at0 ps k,bY ps k)]:=by
 rw[List.take_add_one,List.getElem?_eq_getElem hk,lQ hk,lR hk];rfl
def dK(w V:World)(a l:Int)(o:List (Int×Int))(x:Option Addr)(c:Nat):Prop:=
 V.heap[w.heap.size]?=some (.cells #[.int .i64 a, .int .i64 l, .slice x o.length c] 98)/\V.ownsRow (w.heap.size+1) 53 2 (.slice x o.length c) o.length (sV o)/\Below w.heap.size w V
theorem dK.start(w:World)(a l:Int):dK w (w.alloc (.cells #[.int .i64 a, .int .i64 l, .slice none 0 0] 98)) a l [] none 0:=
 ⟨aB _ rfl,World.ownsRow_nil _ _ _ _,bl1 w _⟩
theorem dK.later{V':World}{a l:Int}(h:dK w V a l o x c)(hb:Below V.heap.size V V'):dK w V' a l o x c:=
 ⟨(hb.block _ (zG h.1)).trans h.1,UY (B:=0) () V V' none h.2.1 (dS hb) (fun r e=>by cases e),h.2.2.trans (hb.mono h.2.2.size)⟩
theorem dK.append{w5:World}{a l c m:Int}(h:dK w V a l o x k)
 (hown:w5.ownsRow (w.heap.size+1) 53 2 v' (o.length+1) (sV o++[.int .i64 c, .int .i64 m]))(hg:(V.alloc (.cells #[.int .i64 c, .int .i64 m] 53)).grownBy w5 (Value.slice x o.length k).ownBlock):
  ∃x' k',v'= .slice x' (o.length+1) k'/\w5.cell? ⟨w.heap.size,2,none⟩=some (.slice x o.length k)/\w5.frozen? ⟨w.heap.size,2,none⟩=false/\Below w.heap.size w w5/\
   dK w (w5.setCell ⟨w.heap.size,2,none⟩ (.slice x' (o.length+1) k')) a l (o++[(c,m)]) x' k':=by
 have hne:(Value.slice x o.length k).ownBlock≠some w.heap.size:=fun e=>by have:=(h.2.1.lt _ e).1;omega
 have hlt:w.heap.size<V.heap.size:=(zG h.1);have e5:w5.heap[w.heap.size]?=some (.cells #[.int .i64 a, .int .i64 l, .slice x o.length k] 98):=(hg.block _ (by simp;omega) (fun e=>hne e.symm)).trans (aH _ h.1);have hgs:=hg.size;rw[World.size_alloc]at hgs;have hb5:Below w.heap.size w w5:=⟨hg.os.trans h.2.2.os,hg.tape.trans h.2.2.tape,hg.output.trans h.2.2.output,by omega,fun j hj=>
  ((hg.block j (by simp;omega) (fun e=>by have:=(h.2.1.lt _ e.symm).1;omega)).trans (Below.heap_alloc _ _ _ (by omega))).trans (h.2.2.block j hj)⟩
 have hv:v'.ownBlock≠some w.heap.size:=fun e=>by have:=(hown.lt _ e).1;omega
 obtain⟨x',k',rfl⟩:∃x' k',v'= .slice x' (o.length+1) k':=by
  rcases hown.2 with ⟨_,h0⟩|⟨g,cap,cur,rfl,_⟩
  ·omega
  ·exact⟨_,_,rfl⟩
 refine⟨x',k',rfl,(FJ e5).2.2.1,(FJ e5).2.2.2.2.2,hb5,?_,?_,hb5.setCell (p:=⟨w.heap.size,2,none⟩) (zE) _⟩
 ·have:=heap_setCell_same w5 w.heap.size 2 _ _ (.slice x' (o.length+1) k') e5;rw[List.length_append,List.length_singleton];simpa using this
 ·rw[List.length_append,List.length_singleton,FF];exact ownsRow_setCell_other hown hv _
theorem IQ(h:X.drew.grownBy Y r):X.grownBy Y r:=⟨h.os,h.tape,h.output,h.size,h.block⟩
theorem dK.ps{a l:Int}(h:dK w V a l o x c):PS V x o.length o/\(∀q,x=some q->w.heap.size+1<=q.block):=by
 obtain⟨x',c',e,hps,hfr,_⟩:=PS.of_own h.2.1
 cases e;exact⟨hps,fun q hq=>(hfr q hq).1⟩
structure Le where
 a:Int
 l:Int
 kd:Int
 ow:Int
 un:Int
def K1:Le:=⟨0,0,0,0,0⟩
structure Po where
 id:Int
 up:Int
 a:Int
 l:Int
 mn:Int
 mx:Int
 us:Int
 co:Int
 x:Option Addr
 n:Nat
 c:Nat
 ls:List Le
def YX:Po:=⟨0,0,0,0,0,0,0,0,none,0,0,[]⟩
def leAt(ls:List Le)(i:Nat):Le:=ls.getD i K1
def poAt(ps:List Po)(i:Nat):Po:=ps.getD i YX
structure LS(w:World)(x:Option Addr)(n:Nat)(ls:List Le):Prop where
 len:ls.length=n
 cells:∀i,i<n->∃b o,x=some ⟨b,o,none⟩/\w.cell? ⟨b,o+i*5,none⟩=some (.int .i64 (leAt ls i).a)/\w.cell? ⟨b,o+i*5+1,none⟩=some (.int .i64 (leAt ls i).l)/\
  w.cell? ⟨b,o+i*5+2,none⟩=some (.int .i64 (leAt ls i).kd)/\w.cell? ⟨b,o+i*5+3,none⟩=some (.int .i64 (leAt ls i).ow)/\w.cell? ⟨b,o+i*5+4,none⟩=some (.int .i64 (leAt ls i).un)
theorem LS.later{ls:List Le}(h:LS w x n ls)(hb:Below w.heap.size w w'):LS w' x n ls where
 len:=h.len
 cells:=fun i hi=>by
  obtain⟨b,o,hx,c0,c1,c2,c3,c4⟩:=h.cells i hi;exact⟨b,o,hx,cell_later hb c0,cell_later hb c1,cell_later hb c2,cell_later hb c3,cell_later hb c4⟩
theorem LS.idx{ps:List Le}(h:LS w x n ps):∀i,i<n->∃b o,x=some ⟨b,o,none⟩/\∀q,q<5->w.cell? ⟨b,o+i*5+q,none⟩=some ([.int .i64 (leAt ps i).a, .int .i64 (leAt ps i).l, .int .i64 (leAt ps i).kd, .int .i64 (leAt ps i).ow, .int .i64 (leAt ps i).un].getD q (.bool true)):=fun i hi=>by
 obtain⟨b,o,hx,d0,d1,d2,d3,d4⟩:=h.cells i hi;exact⟨b,o,hx,by rintro(_|_|_|_|_|q) hq<;>first|assumption|omega⟩
structure kS(w:World)(x:Option Addr)(n:Nat)(ps:List Po):Prop where
 len:ps.length=n
 cells:∀i,i<n->∃b o,x=some ⟨b,o,none⟩/\w.cell? ⟨b,o+i*9,none⟩=some (.int .i64 (poAt ps i).id)/\w.cell? ⟨b,o+i*9+1,none⟩=some (.int .i64 (poAt ps i).up)/\
  w.cell? ⟨b,o+i*9+2,none⟩=some (.int .i64 (poAt ps i).a)/\w.cell? ⟨b,o+i*9+3,none⟩=some (.int .i64 (poAt ps i).l)/\w.cell? ⟨b,o+i*9+4,none⟩=some (.int .i64 (poAt ps i).mn)/\
  w.cell? ⟨b,o+i*9+5,none⟩=some (.int .i64 (poAt ps i).mx)/\w.cell? ⟨b,o+i*9+6,none⟩=some (.int .i64 (poAt ps i).us)/\w.cell? ⟨b,o+i*9+7,none⟩=some (.int .i64 (poAt ps i).co)/\
  w.cell? ⟨b,o+i*9+8,none⟩=some (.slice (poAt ps i).x (poAt ps i).n (poAt ps i).c)
 leases:∀i,i<n->(poAt ps i).n<=(poAt ps i).c/\(poAt ps i).n<=1048576/\LS w (poAt ps i).x (poAt ps i).n (poAt ps i).ls
theorem kS.later{ps:List Po}(h:kS w x n ps)(hb:Below w.heap.size w w'):kS w' x n ps where
 len:=h.len
 cells:=fun i hi=>by
  obtain⟨b,o,hx,c0,c1,c2,c3,c4,c5,c6,c7,c8⟩:=h.cells i hi;exact⟨b,o,hx,cell_later hb c0,cell_later hb c1,cell_later hb c2,cell_later hb c3,cell_later hb c4,cell_later hb c5,cell_later hb c6,cell_later hb c7,cell_later hb c8⟩
 leases:=fun i hi=>⟨(h.leases i hi).1,(h.leases i hi).2.1,(h.leases i hi).2.2.later hb⟩
theorem kS.idx{ps:List Po}(h:kS w x n ps):∀i,i<n->∃b o,x=some ⟨b,o,none⟩/\∀q,q<9->w.cell? ⟨b,o+i*9+q,none⟩=some ([.int .i64 (poAt ps i).id, .int .i64 (poAt ps i).up, .int .i64 (poAt ps i).a, .int .i64 (poAt ps i).l, .int .i64 (poAt ps i).mn, .int .i64 (poAt ps i).mx, .int .i64 (poAt ps i).us, .int .i64 (poAt ps i).co, .slice (poAt ps i).x (poAt ps i).n (poAt ps i).c].getD q (.bool true)):=fun i hi=>by
 obtain⟨b,o,hx,d0,d1,d2,d3,d4,d5,d6,d7,d8⟩:=h.cells i hi;exact⟨b,o,hx,by rintro(_|_|_|_|_|_|_|_|_|q) hq<;>first|assumption|omega⟩
def aS(ps:List Po)(id:Int):Int:=match ps.findIdx? (fun p=>p.id==id)with |some i=>i|none=> -1
theorem kT{ps:List Po}{id:Int}(hi:i<ps.length)(h:(poAt ps i).id=id)(hno:∀j,j<i->(poAt ps j).id≠id):aS ps id=i:=by
 unfold aS;have hf:ps.findIdx? (fun p=>p.id==id)=some i:=by
  rw[List.findIdx?_eq_some_iff_getElem];refine⟨hi,?_,fun j hj=>?_⟩
  ·have:poAt ps i=ps[i]:=by unfold poAt;simp[List.getD,hi]
   rw[<-this];simpa using h
  ·have:poAt ps j=ps[j]:=by unfold poAt;simp[List.getD,Nat.lt_trans hj hi]
   rw[<-this];simpa using hno j hj
 rw[hf]
theorem wP{ps:List Po}{id:Int}(hno:∀j,j<ps.length->(poAt ps j).id≠id):aS ps id= -1:=by
 unfold aS;have hf:ps.findIdx? (fun p=>p.id==id)=none:=by
  rw[List.findIdx?_eq_none_iff];intro p hp;obtain⟨j,hj,rfl⟩:=List.getElem_of_mem hp;have:poAt ps j=ps[j]:=by unfold poAt;simp[List.getD,hj]
  rw[<-this];simpa using hno j hj
 rw[hf]
theorem poolAt_any(t id:Int)(x:Option Addr)(n c:Nat)(ps:List Po)(w:World)(hp:kS w x n ps)(hn:n<=1000):
  Calls Tryz.prog 41 #[.agg #[.int .i64 t, .slice x n c], .int .i64 id] w fun e w'=>e= .returned (.int .i64 (aS ps id))/\Below w.heap.size w w':=by
 go_enter Tryz.func41,Tryz.ntmps41;go_wp2;go_loopw [5] (fun i wr=>∃q:Nat,q<=n/\i= .int .i64 q/\wr=w.alloc (.cells #[.int .i64 t, .slice x n c] 24)/\(∀j,j<q->(poAt ps j).id≠id)) (fun i _=>n- (intOf i).toNat)
 case atStart=>exact⟨0,by omega,rfl,rfl,fun j hj=>by omega⟩
 case round=>
  obtain⟨q,hq,rfl,rfl,hno⟩:=hrel
  have hpl:=hp.len
  by_cases hlt:q<n
  ·obtain⟨b,o,rfl,c0, -⟩:=(hp.later (bl1 w (.cells #[.int .i64 t, .slice x n c] 24))).cells q hlt;have hlt':=hlt;by_cases hid:(poAt ps q).id=id
   ·have hb:((poAt ps q).id==id)=true:=by simpa using hid
    have hid':Hid ((poAt ps q).id=id):=hid;clear hid;go_wp2;go_ret;exact⟨aP (kT (by omega) hid'.out hno).symm,bl1 w _⟩
   ·have hb:((poAt ps q).id==id)=false:=by simpa using hid
    have hid':Hid ((poAt ps q).id≠id):=hid;clear hid;go_wp2;go_roundw
    case rel=>exact⟨q+1,hlt',by go_num,by first|rfl|trivial,fun j hj=>by
     by_cases hj2:j<q
     ·exact hno j hj2
     ·obtain rfl:j=q:=by omega
      exact hid'.out⟩
    case measure=>simp[intOf];omega
  ·go_wp2;go_ret;exact⟨aP (wP (fun j hj=>hno j (by omega))).symm,bl1 w _⟩
theorem isId_any(v:Int)(w:World):Calls Tryz.prog 79 #[.int .i64 v] w fun e w'=>e= .returned (.bool (bV v 1 65536))/\w'=w:=by
 unfold bV;by_cases h:1<=v
 ·have hd:decide (1<=v)=true:=by simpa using h
  go_enter Tryz.func79,Tryz.ntmps79;go_wp2;go_ret;exact⟨by first|rfl|(rw[hd];rfl),rfl⟩
 ·have hd:decide (1<=v)=false:=by simpa using h
  go_enter Tryz.func79,Tryz.ntmps79;go_wp2;go_ret;exact⟨by first|rfl|(rw[hd];rfl),rfl⟩
def dB(mn mx us co l:Int):Bool:=decide (l<=mn)&&decide (mn<=us)&&decide (us<=mx)&&decide (mx<=16)&&bV co 0 1024
theorem FL{l:Int}(h:¬l<=mn):dB mn mx us co l=false:=by unfold dB;simp[h]
theorem FM{l:Int}(h:¬mn<=us):dB mn mx us co l=false:=by unfold dB;simp[h]
theorem FN{l:Int}(h:¬us<=mx):dB mn mx us co l=false:=by unfold dB;simp[h]
theorem FO{l:Int}(h:¬mx<=16):dB mn mx us co l=false:=by unfold dB;simp[h]
theorem QC{l:Int}(h:¬0<=co):dB mn mx us co l=false:=by unfold dB bV;simp[h]
theorem FP{l:Int}(h1:l<=mn)(h2:mn<=us)(h3:us<=mx)(h4:mx<=16):dB mn mx us co l=bV co 0 1024:=by unfold dB;simp[h1,h2,h3,h4]
theorem DH(mn mx us co a l:Int)(w:World):
  Calls Tryz.prog 34 #[.agg #[.int .i64 mn, .int .i64 mx, .int .i64 us, .int .i64 co], .agg #[.int .i64 a, .int .i64 l]] w fun e w'=>e= .returned (.bool (dB mn mx us co l))/\Below w.heap.size w w':=by
 by_cases h1:l<=mn
 ·by_cases h2:mn<=us
  ·by_cases h3:us<=mx
   ·by_cases h4:mx<=16
    ·rw[FP h1 h2 h3 h4];go_enter Tryz.func34,Tryz.ntmps34;go_wp2_with (go_at_call 31;refine(within_any _ _ _ _).mono ?_;rintro e w1 ⟨rfl,rfl⟩);go_ret;exact⟨rfl,bP w _ _⟩
    ·rw[FO h4];go_enter Tryz.func34,Tryz.ntmps34;go_wp2;go_ret;exact⟨rfl,bP w _ _⟩
   ·rw[FN h3];go_enter Tryz.func34,Tryz.ntmps34;go_wp2;go_ret;exact⟨rfl,bP w _ _⟩
  ·rw[FM h2];go_enter Tryz.func34,Tryz.ntmps34;go_wp2;go_ret;exact⟨rfl,bP w _ _⟩
 ·rw[FL h1];go_enter Tryz.func34,Tryz.ntmps34;go_wp2;go_ret;exact⟨rfl,bP w _ _⟩
theorem pF(mn mx us co a l:Int)(w:World):
  Calls Tryz.prog 83 #[.agg #[.int .i64 mn, .int .i64 mx, .int .i64 us, .int .i64 co], .agg #[.int .i64 a, .int .i64 l]] w fun e w'=>e= .returned (.bool (dB mn mx us co l))/\Below w.heap.size w w':=by
 by_cases h1:l<=mn
 ·by_cases h2:mn<=us
  ·by_cases h3:us<=mx
   ·by_cases h4:mx<=16
    ·by_cases h5:0<=co
     ·have hy:dB mn mx us co l=decide (co<=1024):=by rw[FP h1 h2 h3 h4];unfold bV;simp[h5]
      rw[hy];go_enter Tryz.func83,Tryz.ntmps83;go_wp2;go_ret;exact⟨rfl,bP w _ _⟩
     ·rw[QC h5];go_enter Tryz.func83,Tryz.ntmps83;go_wp2;go_ret;exact⟨rfl,bP w _ _⟩
    ·rw[FO h4];go_enter Tryz.func83,Tryz.ntmps83;go_wp2;go_ret;exact⟨rfl,bP w _ _⟩
   ·rw[FN h3];go_enter Tryz.func83,Tryz.ntmps83;go_wp2;go_ret;exact⟨rfl,bP w _ _⟩
  ·rw[FM h2];go_enter Tryz.func83,Tryz.ntmps83;go_wp2;go_ret;exact⟨rfl,bP w _ _⟩
 ·rw[FL h1];go_enter Tryz.func83,Tryz.ntmps83;go_wp2;go_ret;exact⟨rfl,bP w _ _⟩
structure Fc where
 id:Int
 x:Option Addr
 n:Nat
 c:Nat
 ns:List Int
structure Sb where
 id:Int
 a:Int
 l:Int
 x:Option Addr
 n:Nat
 c:Nat
 fs:List Fc
structure Rg where
 a:Int
 l:Int
 p:Int
def U1:Fc:=⟨0,none,0,0,[]⟩
def U2:Sb:=⟨0,0,0,none,0,0,[]⟩
def QD:Rg:=⟨0,0,0⟩
def aU(ns:List Int)(i:Nat):Int:=ns.getD i 0
def fcAt(fs:List Fc)(i:Nat):Fc:=fs.getD i U1
def aG(ss:List Sb)(i:Nat):Sb:=ss.getD i U2
def rgAt(rs:List Rg)(i:Nat):Rg:=rs.getD i QD
structure IS(w:World)(x:Option Addr)(n:Nat)(ns:List Int):Prop where
 len:ns.length=n
 cells:∀i,i<n->∃b o,x=some ⟨b,o,none⟩/\w.cell? ⟨b,o+i,none⟩=some (.int .i64 (aU ns i))
theorem IS.later(h:IS w x n ns)(hb:Below w.heap.size w w'):IS w' x n ns where
 len:=h.len
 cells:=fun i hi=>by
  obtain⟨b,o,hx,h0⟩:=h.cells i hi;exact⟨b,o,hx,cell_later hb h0⟩
theorem IS.idx{ps:List Int}(h:IS w x n ps):∀i,i<n->∃b o,x=some ⟨b,o,none⟩/\∀q,q<1->w.cell? ⟨b,o+i*1+q,none⟩=some ([.int .i64 (aU ps i)].getD q (.bool true)):=fun i hi=>by
 obtain⟨b,o,hx,d0⟩:=h.cells i hi;exact⟨b,o,hx,fun q hq=>by obtain rfl:q=0:=(by omega);rw[Nat.mul_one];exact d0⟩
structure RS(w:World)(x:Option Addr)(n:Nat)(rs:List Rg):Prop where
 len:rs.length=n
 cells:∀i,i<n->∃b o,x=some ⟨b,o,none⟩/\w.cell? ⟨b,o+i*3,none⟩=some (.int .i64 (rgAt rs i).a)/\w.cell? ⟨b,o+i*3+1,none⟩=some (.int .i64 (rgAt rs i).l)/\w.cell? ⟨b,o+i*3+2,none⟩=some (.int .i64 (rgAt rs i).p)
theorem RS.later{rs:List Rg}(h:RS w x n rs)(hb:Below w.heap.size w w'):RS w' x n rs where
 len:=h.len
 cells:=fun i hi=>by
  obtain⟨b,o,hx,h0,h1,h2⟩:=h.cells i hi;exact⟨b,o,hx,cell_later hb h0,cell_later hb h1,cell_later hb h2⟩
theorem RS.idx{ps:List Rg}(h:RS w x n ps):∀i,i<n->∃b o,x=some ⟨b,o,none⟩/\∀q,q<3->w.cell? ⟨b,o+i*3+q,none⟩=some ([.int .i64 (rgAt ps i).a, .int .i64 (rgAt ps i).l, .int .i64 (rgAt ps i).p].getD q (.bool true)):=fun i hi=>by
 obtain⟨b,o,hx,d0,d1,d2⟩:=h.cells i hi;exact⟨b,o,hx,by rintro(_|_|_|q) hq<;>first|assumption|omega⟩
structure oW(w:World)(x:Option Addr)(n:Nat)(fs:List Fc):Prop where
 len:fs.length=n
 cells:∀i,i<n->∃b o,x=some ⟨b,o,none⟩/\w.cell? ⟨b,o+i*2,none⟩=some (.int .i64 (fcAt fs i).id)/\w.cell? ⟨b,o+i*2+1,none⟩=some (.slice (fcAt fs i).x (fcAt fs i).n (fcAt fs i).c)
 addrs:∀i,i<n->(fcAt fs i).n<=(fcAt fs i).c/\(fcAt fs i).n<=9223372036854775807/\IS w (fcAt fs i).x (fcAt fs i).n (fcAt fs i).ns
theorem oW.later{fs:List Fc}(h:oW w x n fs)(hb:Below w.heap.size w w'):oW w' x n fs where
 len:=h.len
 cells:=fun i hi=>by
  obtain⟨b,o,hx,h0,h1⟩:=h.cells i hi;exact⟨b,o,hx,cell_later hb h0,cell_later hb h1⟩
 addrs:=fun i hi=>by
  obtain⟨h1,h2,h3⟩:=h.addrs i hi;exact⟨h1,h2,h3.later hb⟩
theorem oW.idx{ps:List Fc}(h:oW w x n ps):∀i,i<n->∃b o,x=some ⟨b,o,none⟩/\∀q,q<2->w.cell? ⟨b,o+i*2+q,none⟩=some ([.int .i64 (fcAt ps i).id, .slice (fcAt ps i).x (fcAt ps i).n (fcAt ps i).c].getD q (.bool true)):=fun i hi=>by
 obtain⟨b,o,hx,d0,d1⟩:=h.cells i hi;exact⟨b,o,hx,by rintro(_|_|q) hq<;>first|assumption|omega⟩
structure SS(w:World)(x:Option Addr)(n:Nat)(ss:List Sb):Prop where
 len:ss.length=n
 cells:∀i,i<n->∃b o,x=some ⟨b,o,none⟩/\w.cell? ⟨b,o+i*4,none⟩=some (.int .i64 (aG ss i).id)/\w.cell? ⟨b,o+i*4+1,none⟩=some (.int .i64 (aG ss i).a)/\w.cell? ⟨b,o+i*4+2,none⟩=some (.int .i64 (aG ss i).l)/\
  w.cell? ⟨b,o+i*4+3,none⟩=some (.slice (aG ss i).x (aG ss i).n (aG ss i).c)
 faces:∀i,i<n->(aG ss i).n<=(aG ss i).c/\(aG ss i).n<=9223372036854775807/\oW w (aG ss i).x (aG ss i).n (aG ss i).fs
theorem SS.later{ss:List Sb}(h:SS w x n ss)(hb:Below w.heap.size w w'):SS w' x n ss where
 len:=h.len
 cells:=fun i hi=>by
  obtain⟨b,o,hx,h0,h1,h2,h3⟩:=h.cells i hi;exact⟨b,o,hx,cell_later hb h0,cell_later hb h1,cell_later hb h2,cell_later hb h3⟩
 faces:=fun i hi=>by
  obtain⟨h1,h2,h3⟩:=h.faces i hi;exact⟨h1,h2,h3.later hb⟩
theorem SS.idx{ps:List Sb}(h:SS w x n ps):∀i,i<n->∃b o,x=some ⟨b,o,none⟩/\∀q,q<4->w.cell? ⟨b,o+i*4+q,none⟩=some ([.int .i64 (aG ps i).id, .int .i64 (aG ps i).a, .int .i64 (aG ps i).l, .slice (aG ps i).x (aG ps i).n (aG ps i).c].getD q (.bool true)):=fun i hi=>by
 obtain⟨b,o,hx,d0,d1,d2,d3⟩:=h.cells i hi;exact⟨b,o,hx,by rintro(_|_|_|_|q) hq<;>first|assumption|omega⟩
structure Vp(w:World)(rx:Option Addr)(rn rc:Nat)(rs:List Rg)(sx:Option Addr)(sn sc:Nat)(ss:List Sb):Prop where
 rcap:rn<=rc
 scap:sn<=sc
 ranges:RS w rx rn rs
 subs:SS w sx sn ss
theorem Vp.later{rs:List Rg}{ss:List Sb}(h:Vp w rx rn rc rs sx sn sc ss)(hb:Below w.heap.size w w'):Vp w' rx rn rc rs sx sn sc ss:=
 ⟨h.rcap,h.scap,h.ranges.later hb,h.subs.later hb⟩
structure Vn where
 id:Int
 rx:Option Addr
 rn:Nat
 rc:Nat
 rs:List Rg
 sx:Option Addr
 sn:Nat
 sc:Nat
 ss:List Sb
def UM:Vn:=⟨0,none,0,0,[],none,0,0,[]⟩
def vnAt(vs:List Vn)(i:Nat):Vn:=vs.getD i UM
structure VS(w:World)(x:Option Addr)(n:Nat)(vs:List Vn):Prop where
 len:vs.length=n
 cells:∀i,i<n->∃b o,x=some ⟨b,o,none⟩/\w.cell? ⟨b,o+i*3,none⟩=some (.int .i64 (vnAt vs i).id)/\w.cell? ⟨b,o+i*3+1,none⟩=some (.slice (vnAt vs i).rx (vnAt vs i).rn (vnAt vs i).rc)/\w.cell? ⟨b,o+i*3+2,none⟩=some (.slice (vnAt vs i).sx (vnAt vs i).sn (vnAt vs i).sc)
 vps:∀i,i<n->(vnAt vs i).rn<=9223372036854775807/\(vnAt vs i).sn<=9223372036854775807/\(vnAt vs i).rc<=9223372036854775807/\Vp w (vnAt vs i).rx (vnAt vs i).rn (vnAt vs i).rc (vnAt vs i).rs (vnAt vs i).sx (vnAt vs i).sn (vnAt vs i).sc (vnAt vs i).ss
theorem VS.later{vs:List Vn}(h:VS w x n vs)(hb:Below w.heap.size w w'):VS w' x n vs where
 len:=h.len
 cells:=fun i hi=>by
  obtain⟨b,o,hx,h0,h1,h2⟩:=h.cells i hi;exact⟨b,o,hx,cell_later hb h0,cell_later hb h1,cell_later hb h2⟩
 vps:=fun i hi=>by
  obtain⟨h1,h2,h3,h4⟩:=h.vps i hi;exact⟨h1,h2,h3,h4.later hb⟩
theorem VS.idx{ps:List Vn}(h:VS w x n ps):∀i,i<n->∃b o,x=some ⟨b,o,none⟩/\∀q,q<3->w.cell? ⟨b,o+i*3+q,none⟩=some ([.int .i64 (vnAt ps i).id, .slice (vnAt ps i).rx (vnAt ps i).rn (vnAt ps i).rc, .slice (vnAt ps i).sx (vnAt ps i).sn (vnAt ps i).sc].getD q (.bool true)):=fun i hi=>by
 obtain⟨b,o,hx,d0,d1,d2⟩:=h.cells i hi;exact⟨b,o,hx,by rintro(_|_|_|q) hq<;>first|assumption|omega⟩
def MR(o:Oper):Bool:=match o.op with
 | .move _| .assign _=>true
 | .load _ _=>true
 | .fieldAddr _ _ _=>true
 | .indexAddr _ _ _=>true
 | .build _ _=>true
 | .binOp _ _ _ _ _=>true
 | .slice _ _ _ _ _=>true
 | .unOp _ _ _=>true
 | .extract _ _=>true
 | .nilCheck _=>true
 |_=>false
theorem dG{s:Result Value}{n:Next}(h:(s.andThen fun x w=>Result.ok (Next.value x) w)= .ok n w'):∃u,n= .value u:=by
 cases s with
 |ok x w=>simp only[Result.andThen,Result.ok.injEq]at h;exact⟨x,h.1.symm⟩
 |halt x w=>simp[Result.andThen]at h
theorem sW{α:Type}{P:Program}{s:Sem α}{f:α->Sem Next}{w w':World}{n:Next}(h:(s>>=f).run P w= .ok n w'):∃x w1,(f x).run P w1= .ok n w':=by
 rw[Sem.run_bind]at h
 cases hs:s.run P w with
 |ok x w1=>rw[hs]at h;exact⟨x,w1,h⟩
 |halt x w1=>rw[hs]at h;simp[Result.andThen]at h
theorem U3{o:Oper}{n:Next}(h:MR o=true)(hr:(execOp a.eval o).run P w= .ok n w'):∃u,n= .value u:=by
 unfold MR at h;unfold execOp at hr;split at h
 ·rename_i x hop;rw[hop]at hr;simp only[Sem.run_pure,Result.ok.injEq]at hr;exact⟨_,hr.1.symm⟩
 ·rename_i x hop;rw[hop]at hr;simp only[Sem.run_pure,Result.ok.injEq]at hr;exact⟨_,hr.1.symm⟩
 ·rename_i x y hop;rw[hop]at hr;simp only[Sem.run_bind,Sem.run_pure]at hr;exact dG hr
 ·rename_i x y z hop;rw[hop]at hr;simp only[Sem.run_bind,Sem.run_pure]at hr;exact dG hr
 ·rename_i x y z hop;rw[hop]at hr;simp only[Sem.run_bind,Sem.run_pure]at hr;exact dG hr
 ·rename_i x y hop;rw[hop]at hr;simp only[Sem.run_bind,Sem.run_pure]at hr;exact dG hr
 ·rename_i hop;rw[hop]at hr;rw[Sem.run_bind]at hr;simp only[Sem.run_pure]at hr;exact dG hr
 ·rename_i hop;rw[hop]at hr;simp only[Sem.run_bind,Sem.run_pure]at hr;exact dG hr
 ·rename_i hop;rw[hop]at hr;simp only[Sem.run_bind,Sem.run_pure]at hr;exact dG hr
 ·rename_i hop;rw[hop]at hr;simp only[Sem.run_bind,Sem.run_pure]at hr;exact dG hr
 ·rename_i hop;rw[hop]at hr;simp only at hr;repeat' split at hr;all_goals first
   |(simp only[Sem.run_pure,Result.ok.injEq]at hr;exact⟨_,hr.1.symm⟩)
   |(simp[runtimePanic]at hr;done)
   |skip
  obtain⟨p,w1,hr⟩:=sW hr;obtain⟨q,w2,hr⟩:=sW hr;split at hr
  ·obtain⟨_,w3,hr⟩:=sW hr;simp only[Sem.run_pure,Result.ok.injEq]at hr;exact⟨_,hr.1.symm⟩
  ·simp only[Sem.run_pure,Result.ok.injEq]at hr;exact⟨_,hr.1.symm⟩
 ·cases h
theorem pY{o:Oper}(hp:MR o=true)(h:YieldsIn P ops C o v a):YieldsIf P ops C o v a:=by
 rcases h with ⟨h1,h2⟩|h
 ·refine .inl ⟨h1,fun w hw=>?_⟩;have h3:=h2 w hw;unfold Oper.quietAt at h3
  cases hr:(execOp a.eval o).run P w with
  |ok n w'=>
   rw[hr]at h3
   obtain⟨u,rfl⟩:=U3 hp hr
   simp only[Oper.quietUpon]at h3
   rw[h3.1,h3.2]
  |halt x w'=>rw[hr]at h3;simp[Oper.quietUpon]at h3
 ·exact .inr h
def nG(ops:Array Oper)(listed:Array Bool):Prop:=∀j oj,ops[j]?=some oj->listed.getD j false=true->∀e∈oj.after,Region.binds .any e=true->listed.getD e.on false=true
def uW(ops:Array Oper)(listed:Array Bool):Bool:=(List.range ops.size).all fun j=>!(listed.getD j false)||match ops[j]? with |some oj=>oj.after.all fun e=>!(Region.binds .any e)||listed.getD e.on false|none=>true
theorem gB(h:uW ops listed=true):nG ops listed:=fun j oj hj hl e he hb=>by
 have h1:=List.all_eq_true.1 h j (List.mem_range.2 (zG hj));rw[hl,hj]at h1;simp only[Bool.not_true,Bool.false_or]at h1;obtain⟨i,hi,rfl⟩:=Array.mem_iff_getElem.1 he;have h2:=Array.all_eq_true.1 h1 i hi;rw[hb]at h2;simpa using h2
theorem nG.set(h:nG ops listed)(hi:i∈Region.ready .any ops listed):nG ops (listed.setIfInBounds i true):=fun j oj hj hl e he hb=>by
 obtain⟨_,oi,hoi,hall⟩:=mem_ready.1 hi;by_cases hij:i=j
 ·subst hij;have:oj=oi:=Option.some.inj (hj.symm.trans hoi);subst this;exact getD_set_true (hall e he hb)
 ·rw[getD_set_ne false hij]at hl;exact getD_set_true (h j oj hj hl e he hb)
def kG(ops:Array Oper):Nat->Nat->Nat->Bool
 |0,j,i=>Region.waitsFor .any ops j i
 |f+1,j,i=>Region.waitsFor .any ops j i||(List.range ops.size).any fun k=>Region.waitsFor .any ops j k&&kG ops f k i
theorem nH(h:nG ops listed):∀(f j i:Nat),kG ops f j i=true->(∀oj,ops[j]?=some oj->∀e∈oj.after,Region.binds .any e=true->listed.getD e.on false=true)->listed.getD i false=true
 |0,j,i,hr,hj=>by
  obtain⟨oj,hoj,e,he,hb,hon⟩:=Region.waitsFor_spec hr;rw[<-hon];exact hj oj hoj e he hb
 |f+1,j,i,hr,hj=>by
  unfold kG at hr;rw[Bool.or_eq_true]at hr;rcases hr with hr|hr
  ·obtain⟨oj,hoj,e,he,hb,hon⟩:=Region.waitsFor_spec hr;rw[<-hon];exact hj oj hoj e he hb
  ·obtain⟨k, -,hk⟩:=List.any_eq_true.1 hr;rw[zH]at hk;obtain⟨oj,hoj,e,he,hb,hon⟩:=Region.waitsFor_spec hk.1;have hkl:listed.getD k false=true:=by rw[<-hon];exact hj oj hoj e he hb
   exact nH h f k i hk.2 (fun ok hok=>h k ok hok hkl)
def oX(P:Program)(ops:Array Oper)(Q:Exit->Act->World->Prop)(S:World->Prop)(T:Nat->Bool):Nat->Array Bool->Act->World->Prop
 |0,listed,a,w=>Region.ready .any ops listed=[]/\Q .normal a w
 |f+1,listed,a,w=>(Region.ready .any ops listed=[]->Q .normal a w)/\∀i∈Region.ready .any ops listed,wpOp P ops Q i (fun a' w'=>(T i=true->S w')/\oX P ops Q S T f (listed.setIfInBounds i true) a' w') a w
theorem oI:∀(f:Nat) (listed:Array Bool) (a:Act) (w:World),oX P ops Q S T f listed a w->wpAny P .any ops Q f listed a w
 |0,_,_,_,h=>h
 |f+1,_,_,_,h=>⟨h.1,fun i hi=>wpOp_mono (fun a' w' h'=>oI f _ a' w' h'.2) (h.2 i hi)⟩
theorem sX(hi:ops[i]?=some oi)(hsel:∀(j:Nat) (o:Oper) cs b,ops[j]?=some o->o.op≠ .select cs b)
 (hQ:∀d v c a w,Q (.panic c) (Act.put a d v) w->Q (.panic c) a w)(hw:∀j,T j=false->j<ops.size->kG ops ops.size j i=true):
  ∀(f:Nat) (listed:Array Bool) (a:Act) (w:World),nG ops listed->
   (∀j oj,ops[j]?=some oj->j≠i->listed.getD j true=false->(∀e∈oj.after,Region.binds .any e=true->e.on≠i)->oi.apart ops oj=true)->
   i∈Region.ready .any ops listed->YieldsIf P ops S oi v a->S w->
   oX P ops Q S T f (listed.setIfInBounds i true) (a.put oi.dst v) w->oX P ops Q S T (f+1) listed a w:=by
 intro f;induction f with
 |zero=>
  intro listed a w _ _ hr hy hS H
  refine⟨fun h=>(by rw[h]at hr;cases hr),fun j hj=>?_⟩
  by_cases hji:j=i
  ·subst hji;exact hy.wpOp hi hS ⟨fun _=>hS,H⟩
  ·have:=ready_mono hj hji;rw[H.1]at this
   cases this
 |succ f ih=>
  intro listed a w hsh hfree hr hy hS H
  refine⟨fun h=>(by rw[h]at hr;cases hr),fun j hj=>?_⟩
  by_cases hji:j=i
  ·subst hji;exact hy.wpOp hi hS ⟨fun _=>hS,H⟩
  ·have h1:=H.2 j (ready_mono hj hji);obtain⟨hjun,oj,hoj,hall⟩:=mem_ready.1 hj;have h0:=(mem_ready.1 hr).1;have hnot:∀e∈oj.after,Region.binds .any e=true->e.on≠i:=fun e he hb heq=>by
    have h1:=hall e he hb;rw[heq,getD_both h0]at h1
    cases h1
   have hjT:T j=true:=by
    cases hT:T j with
    |true=>rfl
    |false=>
     have h2:=nH hsh ops.size j i (hw j hT (zG hoj)) (fun ok hok e he hb=>by
      have:ok=oj:=Option.some.inj (hok.symm.trans hoj);subst this;exact hall e he hb)
     rw[getD_both h0]at h2
     cases h2
   have h2:=wpOp_putIf hoj (hfree j oj hoj hji hjun hnot) (fun cs b=>hsel i oi cs b hi) (fun cs b=>hsel j oj cs b hoj) (fun c a w=>hQ _ _ c a w) hy h1;have hfree':∀k ok,ops[k]?=some ok->k≠i->(listed.setIfInBounds j true).getD k true=false->
     (∀e∈ok.after,Region.binds .any e=true->e.on≠i)->oi.apart ops ok=true:=fun k ok hk hki hun hno=>by
    refine hfree k ok hk hki ?_ hno;by_cases hjk:j=k
    ·subst hjk;exact hjun
    ·rw[getD_set_ne true hjk]at hun;exact hun
   refine wpOp_mono (fun a' w' h3=>⟨fun _=>h3.2.1 hjT,ih (listed.setIfInBounds j true) a' w' (hsh.set hj) hfree' (ready_mono hr (Ne.symm hji)) h3.1 (h3.2.1 hjT) ?_⟩) h2;rw[Array.setIfInBounds_comm _ _ hji];exact h3.2.2
structure Wx:Type where
 val:World
@[simp] theorem Wx.all_const(p:Prop):(Wx->p)↔p:=⟨fun h=>h ⟨default⟩,fun h _=>h⟩
theorem IR(hi:ops[i]?=some oi)(hsel:∀(j:Nat) (o:Oper) cs b,ops[j]?=some o->o.op≠ .select cs b)
 (hQ:∀d v c a w,Q (.panic c) (Act.put a d v) w->Q (.panic c) a w)(hTi:T i=false):
  ∀(f:Nat) (listed:Array Bool) (a:Act) (w:World),nG ops listed->
   (∀j oj,ops[j]?=some oj->j≠i->listed.getD j true=false->(∀e∈oj.after,Region.binds .any e=true->e.on≠i)->oi.apart ops oj=true)->
   i∈Region.ready .any ops listed->YieldsIf P ops (fun w'=>∃u:Wx,w'=u.val) oi v a->
   oX P ops Q S T f (listed.setIfInBounds i true) (a.put oi.dst v) w->oX P ops Q S T (f+1) listed a w:=by
 intro f;induction f with
 |zero=>
  intro listed a w _ _ hr hy H
  refine⟨fun h=>(by rw[h]at hr;cases hr),fun j hj=>?_⟩
  by_cases hji:j=i
  ·subst hji;exact hy.wpOp hi ⟨⟨w⟩,rfl⟩ ⟨fun h=>absurd (h.symm.trans hTi) (by decide),H⟩
  ·have:=ready_mono hj hji;rw[H.1]at this
   cases this
 |succ f ih=>
  intro listed a w hsh hfree hr hy H
  refine⟨fun h=>(by rw[h]at hr;cases hr),fun j hj=>?_⟩
  by_cases hji:j=i
  ·subst hji;exact hy.wpOp hi ⟨⟨w⟩,rfl⟩ ⟨fun h=>absurd (h.symm.trans hTi) (by decide),H⟩
  ·have h1:=H.2 j (ready_mono hj hji);obtain⟨hjun,oj,hoj,hall⟩:=mem_ready.1 hj;have h0:=(mem_ready.1 hr).1;have hnot:∀e∈oj.after,Region.binds .any e=true->e.on≠i:=fun e he hb heq=>by
    have h1:=hall e he hb;rw[heq,getD_both h0]at h1
    cases h1
   have h2:=wpOp_putIf hoj (hfree j oj hoj hji hjun hnot) (fun cs b=>hsel i oi cs b hi) (fun cs b=>hsel j oj cs b hoj) (fun c a w=>hQ _ _ c a w) hy h1;have hfree':∀k ok,ops[k]?=some ok->k≠i->(listed.setIfInBounds j true).getD k true=false->
     (∀e∈ok.after,Region.binds .any e=true->e.on≠i)->oi.apart ops ok=true:=fun k ok hk hki hun hno=>by
    refine hfree k ok hk hki ?_ hno;by_cases hjk:j=k
    ·subst hjk;exact hjun
    ·rw[getD_set_ne true hjk]at hun;exact hun
   refine wpOp_mono (fun a' w' h3=>⟨h3.2.1,ih (listed.setIfInBounds j true) a' w' (hsh.set hj) hfree' (ready_mono hr (Ne.symm hji)) h3.1 ?_⟩) h2;rw[Array.setIfInBounds_comm _ _ hji];exact h3.2.2
def kM:Oper:={dst:=none,op:= .move (.const (.bool false)),type:=0,pos:= "",after:=#[],guard:=none}
def iC(is:List Nat)(listed:Array Bool):Array Bool:=is.foldl (fun l i=>l.setIfInBounds i true) listed
def qX(ops:Array Oper):List Nat->Array Bool->Bool
 |[],_=>true
 |i::is,listed=>(Region.ready .any ops listed).contains i&&Region.free .any ops listed i&&qX ops is (listed.setIfInBounds i true)
def wC(ops:Array Oper):List Nat->Array Bool->Bool
 |[],listed=>(Region.ready .any ops listed).isEmpty
 |i::is,listed=>decide (Region.ready .any ops listed=[i])&&wC ops is (listed.setIfInBounds i true)
theorem kU(h:i<l.length):l.toArray[i]?=some (l.getD i kM):=by
 simp[h]
theorem wQ(hsel:Region.noSelect l.toArray=true)
 (hQ:∀d v c a w,Q (.panic c) (Act.put a d v) w->Q (.panic c) a w)(D:Array Bool)(hC:C w):
  ∀(hs:List Nat) (listed:Array Bool) (a:Act),(∀i∈hs,i<l.length/\MR (l.getD i kM)=true/\∀j,T j=false->j<l.toArray.size->kG l.toArray l.toArray.size j i=true)->nG l.toArray listed->qX l.toArray hs listed=true->iC hs listed=D->
   wpQuiet P l.toArray C (fun a'=>oX P l.toArray Q C T g D a' w) (hs.map fun i=>l.getD i kM) a->oX P l.toArray Q C T (hs.length+g) listed a w
 |[],listed,a,_,hsh,_,hd,h=>by
  rw[List.length_nil,Nat.zero_add];subst hd;exact h
 |i::is,listed,a,hh,hsh,hB,hd,h=>by
  obtain⟨hil,hpl,hwt⟩:=hh i (by simp);have h0:=kU hil;simp only[qX,zH]at hB;have hr:i∈Region.ready .any l.toArray listed:=by simpa using hB.1.1
  have hq:qOp P l.toArray C i (wpQuiet P l.toArray C (fun a'=>oX P l.toArray Q C T g D a' w) (is.map fun i=>l.getD i kM)) a:=by unfold qOp;simp only[h0];exact h
  obtain⟨v,hy,hKK⟩:=yieldsIn_of_qOp h0 hq;rw[List.length_cons,show is.length+1+g=(is.length+g)+1 by omega];refine sX h0 (Region.noSelect_spec hsel) hQ hwt (is.length+g) listed a w hsh (Region.free_spec h0 hB.1.2) hr (pY hpl hy) hC ?_;exact wQ hsel hQ D hC is _ _ (fun k hk=>hh k (by simp[hk])) (hsh.set hr) hB.2 hd hKK
theorem FQ(hsel:Region.noSelect l.toArray=true)
 (hQ:∀d v c a w,Q (.panic c) (Act.put a d v) w->Q (.panic c) a w)(D:Array Bool):
  ∀(hs:List Nat) (listed:Array Bool) (a:Act),(∀i∈hs,i<l.length/\MR (l.getD i kM)=true/\T i=false)->nG l.toArray listed->qX l.toArray hs listed=true->iC hs listed=D->
   wpQuiet P l.toArray (fun w'=>∃u:Wx,w'=u.val) (fun a'=>oX P l.toArray Q C T g D a' w) (hs.map fun i=>l.getD i kM) a->oX P l.toArray Q C T (hs.length+g) listed a w
 |[],listed,a,_,hsh,_,hd,h=>by
  rw[List.length_nil,Nat.zero_add];subst hd;exact h
 |i::is,listed,a,hh,hsh,hB,hd,h=>by
  obtain⟨hil,hpl,hwt⟩:=hh i (by simp);have h0:=kU hil;simp only[qX,zH]at hB;have hr:i∈Region.ready .any l.toArray listed:=by simpa using hB.1.1
  have hq:qOp P l.toArray (fun w'=>∃u:Wx,w'=u.val) i (wpQuiet P l.toArray (fun w'=>∃u:Wx,w'=u.val) (fun a'=>oX P l.toArray Q C T g D a' w) (is.map fun i=>l.getD i kM)) a:=by unfold qOp;simp only[h0];exact h
  obtain⟨v,hy,hKK⟩:=yieldsIn_of_qOp h0 hq;rw[List.length_cons,show is.length+1+g=(is.length+g)+1 by omega];refine IR h0 (Region.noSelect_spec hsel) hQ hwt (is.length+g) listed a w hsh (Region.free_spec h0 hB.1.2) hr (pY hpl hy) ?_;exact FQ hsel hQ D is _ _ (fun k hk=>hh k (by simp[hk])) (hsh.set hr) hB.2 hd hKK
theorem jA(g:Nat){f:Nat}{w:World}{listed:Array Bool}{a:Act}(hs:List Nat)(hf:hs.length+g=f)(D:Array Bool)(hD:iC hs listed=D)
 (hB:(Region.noSelect l.toArray&&(hs.all fun i=>decide (i<l.length)&&MR (l.getD i kM)&&!(T i))&&uW l.toArray listed&&qX l.toArray hs listed)=true)
 (hQ:∀d v c a w,Q (.panic c) (Act.put a d v) w->Q (.panic c) a w)(h:wpQuiet P l.toArray (fun w'=>∃u:Wx,w'=u.val) (fun a'=>oX P l.toArray Q C T g D a' w) (hs.map fun i=>l.getD i kM) a):oX P l.toArray Q C T f listed a w:=by
 subst hf;simp only[zH]at hB;obtain⟨⟨⟨hsel,hhs⟩,hsh⟩,hlex⟩:=hB;refine FQ hsel hQ D hs listed a (fun i hi=>?_) (gB hsh) hlex hD h;have h1:=List.all_eq_true.1 hhs i hi;simp only[zH,decide_eq_true_eq,Bool.not_eq_true']at h1;exact⟨h1.1.1,h1.1.2,h1.2⟩
def IT(l:List Oper)(T:Nat->Bool)(hs:List Nat)(listed:Array Bool):Bool:=
 Region.noSelect l.toArray&&(hs.all fun i=>decide (i<l.length)&&MR (l.getD i kM)&&(List.range l.toArray.size).all fun j=>T j||kG l.toArray l.toArray.size j i)&&uW l.toArray listed&&qX l.toArray hs listed
theorem bE(g:Nat){f:Nat}{w:World}{listed:Array Bool}{a:Act}(hs:List Nat)(hf:hs.length+g=f)(D:Array Bool)(hD:iC hs listed=D)(hB:IT l T hs listed=true)
 (hQ:∀d v c a w,Q (.panic c) (Act.put a d v) w->Q (.panic c) a w)(hC:C w)(h:wpQuiet P l.toArray C (fun a'=>oX P l.toArray Q C T g D a' w) (hs.map fun i=>l.getD i kM) a):oX P l.toArray Q C T f listed a w:=by
 subst hf;simp only[IT,zH]at hB;obtain⟨⟨⟨hsel,hhs⟩,hsh⟩,hlex⟩:=hB;refine wQ hsel hQ D hC hs listed a (fun i hi=>?_) (gB hsh) hlex hD h;have h1:=List.all_eq_true.1 hhs i hi;simp only[zH,decide_eq_true_eq]at h1;refine⟨h1.1.1,h1.1.2,fun j hj hjs=>?_⟩;have h2:=List.all_eq_true.1 h1.2 j (List.mem_range.2 hjs);rw[hj,Bool.false_or]at h2;exact h2
def mP(K:Act->World->Prop)(Q:Exit->Act->World->Prop):Exit->Act->World->Prop
 | .normal,a,w=>K a w
 | .exit i,a,w=>Q (.exit i) a w
 | .goto i,a,w=>Q (.goto i) a w
 | .ret,a,w=>Q .ret a w
 | .panic c,a,w=>Q (.panic c) a w
 | .outgrown,a,w=>Q .outgrown a w
theorem aC{K:Act->World->Prop}(h:K a w):mP K Q .normal a w:=h
theorem IU{K':Act->World->Prop}{o:Oper}{K:Act->World->Prop}(h:o.wp P a w K (mP K' Q)):o.wp P a w K Q:=by
 unfold Oper.wp at*;generalize(execOp a.eval o).run P w=r at*
 cases r with
 |ok n w'=>
  cases n<;>simp only[Oper.upon]at h⊢<;>
   first
    |exact h
    |exact Calls.mono h (fun e w'' he=>by cases e<;>exact he)
 |halt x w'=>cases x<;>simp only[Oper.upon]at h⊢<;>exact h
theorem dT{K:Act->World->Prop}(hi:i<l.length)(h:wpList P l.toArray (mP K Q) [l.getD i kM] a w):wpOp P l.toArray Q i K a w:=by
 have hop:=kU hi;unfold wpOp;simp only[hop];unfold wpList at h;by_cases hg:Region.wanted (l.getD i kM) (yielded l.toArray a.tmps)=true
 ·rw[if_pos hg]at h⊢;exact h.imp (fun h2=>Oper.wp_mono (fun a'' w'' h3=>h3) (IU h2)) (fun h=>h)
 ·rw[if_neg hg]at h⊢;exact h
structure B4(P:Program)(l:List Oper)(Q:Exit->Act->World->Prop)(S:World->Prop)(T:Nat->Bool)(f i:Nat)(D:Array Bool)(K:Act->World->Prop):Prop where
 out:∀a' w',S w'->oX P l.toArray Q S T f D a' w'->K a' w'
theorem aY(i:Nat)(o:Oper)(D:Array Bool)(hr:Region.ready .any l.toArray listed=[i])(hi:decide (i<l.length)=true)(ho:l.getD i kM=o)(hD:listed.setIfInBounds i true=D)
 (h:∀K,B4 P l Q S T f i D K->wpList P l.toArray (mP K Q) [o] a w):oX P l.toArray Q S T (f+1) listed a w:=by
 subst ho;subst hD;refine⟨fun h1=>(by rw[hr]at h1;cases h1),fun j hj=>?_⟩;rw[hr]at hj;obtain rfl:j=i:=by simpa using hj
 exact dT (of_decide_eq_true hi) (h _ ⟨fun _ _ h1 h2=>⟨fun _=>h1,h2⟩⟩)
theorem iD(i k:Nat)(o ok:Oper)(D Dk:Array Bool)(hr:Region.ready .any l.toArray listed=[i,k])(hi:decide (i<l.length/\k<l.length)=true)(ho:l.getD i kM=o)(hok:l.getD k kM=ok)
 (hD:listed.setIfInBounds i true=D)(hDk:listed.setIfInBounds k true=Dk)
 (h1:∀K,B4 P l Q S T f i D K->wpList P l.toArray (mP K Q) [o] a w)(h2:∀K,B4 P l Q S T f k Dk K->wpList P l.toArray (mP K Q) [ok] a w):oX P l.toArray Q S T (f+1) listed a w:=by
 subst ho;subst hok;subst hD;subst hDk;refine⟨fun h1=>(by rw[hr]at h1;cases h1),fun j hj=>?_⟩;rw[hr]at hj;have hj':j=i\/j=k:=by simpa using hj
 rcases hj' with rfl|rfl
 ·exact dT (of_decide_eq_true hi).1 (h1 _ ⟨fun _ _ h1 h2=>⟨fun _=>h1,h2⟩⟩)
 ·exact dT (of_decide_eq_true hi).2 (h2 _ ⟨fun _ _ h1 h2=>⟨fun _=>h1,h2⟩⟩)
theorem B5:∀(ts:List Nat) (listed:Array Bool) (a:Act) (w:World),(∀i∈ts,i<l.length/\T i=false)->
  wC l.toArray ts listed=true->wpList P l.toArray Q (ts.map fun i=>l.getD i kM) a w->oX P l.toArray Q S T ts.length listed a w
 |[],_,_,_,_,hB,h=>⟨by simpa[wC]using hB,h⟩
 |i::ts,listed,a,w,hh,hB,h=>by
  obtain⟨hil,hT⟩:=hh i (by simp);have h0:=kU hil;simp only[wC,zH,decide_eq_true_eq]at hB;refine⟨fun h1=>(by rw[hB.1]at h1;cases h1),fun k hk=>?_⟩;rw[hB.1]at hk;have hik:k=i:=by simpa using hk
  subst hik;have hw:wpOp P l.toArray Q k (wpList P l.toArray Q (ts.map fun i=>l.getD i kM)) a w:=by unfold wpOp;simp only[h0];exact h
  exact wpOp_mono (fun a' w' h'=>⟨fun h=>absurd h (by rw[hT];decide),B5 ts _ a' w' (fun i hi=>hh i (by simp[hi])) hB.2 h'⟩) hw
theorem bB(ts:List Nat)(hf:ts.length=f)(hB:(wC l.toArray ts listed&&ts.all fun i=>decide (i<l.length)&&!(T i))=true)(h:wpList P l.toArray Q (ts.map fun i=>l.getD i kM) a w):oX P l.toArray Q S T f listed a w:=by
 subst hf;rw[zH]at hB;refine B5 ts listed a w (fun i hi=>?_) hB.1 h;have h1:=List.all_eq_true.1 hB.2 i hi;simpa using h1
theorem bG{id:Nat}(C:World->Prop)(T:Nat->Bool)(n:Nat)(D:Array Bool)(hm:P.follows .mixedOrders=true)(hn:l.toArray.size=n)(hD:Array.replicate n false=D)
 (h:oX P l.toArray Q C T n D a w.drew):(Code.region id l.toArray true).wp P Q a w:=by
 subst hn;subst hD;exact wp_region_any hm (oI _ _ _ _ h)
theorem fC{Q Q':Act->Prop}(h:∀a,Q a->Q' a):∀(l:List Oper) (a:Act),wpQuiet P ops C Q l a->wpQuiet P ops C Q' l a
 |[],a,g=>h a g
 |o::l,a,g=>by
  unfold wpQuiet at g⊢;split
  ·rename_i hw;rw[if_pos hw]at g;exact Oper.quiet_mono (fC h l) g
  ·rename_i hw;rw[if_neg hw]at g;exact fC h l _ g
def pZ(ps ts:List Nat)(j:Nat):Bool:=!(ps.contains j||ts.contains j)
def aEl(l:List Oper)(hs:List Nat)(c:Nat)(ps ts:List Nat):Bool:=
 IT l (pZ ps ts) hs (Array.replicate l.toArray.size false)&&decide (Region.ready .any l.toArray (iC hs (Array.replicate l.toArray.size false))=[c])&&decide (c<l.length)&&
 (Region.noSelect l.toArray&&(ps.all fun i=>decide (i<l.length)&&MR (l.getD i kM)&&!(pZ ps ts i))&&uW l.toArray ((iC hs (Array.replicate l.toArray.size false)).setIfInBounds c true)&&qX l.toArray ps ((iC hs (Array.replicate l.toArray.size false)).setIfInBounds c true))&&
 (wC l.toArray ts (iC ps ((iC hs (Array.replicate l.toArray.size false)).setIfInBounds c true))&&ts.all fun i=>decide (i<l.length)&&!(pZ ps ts i))&&decide (hs.length+(ps.length+ts.length+1)=l.toArray.size)
structure YY(P:Program)(l:List Oper)(Q:Exit->Act->World->Prop)(w:World)(ps ts:List Oper)(K:Act->World->Prop):Prop where
 out:∀a' w',Below w.heap.size w w'->wpQuiet P l.toArray (fun w'=>∃u:Wx,w'=u.val) (fun a''=>wpList P l.toArray Q ts a'' w') ps a'->K a' w'
end Go.Proofs.YtkgeoeglidnnnaaGreatDoor
