/- A part of the proof. -/
import Derived.Test.YtkgeoeglidnnnaaGreatDoorMD04
set_option maxRecDepth 100000
set_option maxHeartbeats 20000000
namespace Go.Proofs.YtkgeoeglidnnnaaGreatDoor
variable {base g i j n cap m g2 c' c d : Nat} {w w' w'' W W1 W' : World} {cur : Array Value} {T : TypeId} {r : Option Nat} {ps qs : List Po} {p q : Po} {cs : List Value} {es ls : List Le} {v : Value} {E E' t : Int} {l : List Oper} {a : Act} {f : Nat → Bool} {P : Program} {ops : Array Oper} {C : World → Prop} {Q : Exit → Act → World → Prop} {oi o : Oper} {e : Le} {x : Option Addr} {listed D : Array Bool}
open Go.RowKit Go.Shelf
structure mY(base:Nat)(w w':World):Prop where
 os:w'.os=w.os
 tape:w'.tape=w.tape
 output:w'.output=w.output
 size:w.heap.size<=w'.heap.size
 low:∀k,k<base->w'.heap[k]?=w.heap[k]?
 box:∀(k:Nat) (cs:Array Value) (t:TypeId),w.heap[k]?=some (.cells cs t)->t≠64->t≠55->w'.heap[k]?=some (.cells cs t)
theorem mY.below(h:mY base w w'):Below base w w':=⟨h.os,h.tape,h.output,h.size,h.low⟩
theorem mY.trans(h:mY base w w')(h2:mY base w' w''):mY base w w'':=
 ⟨h2.os.trans h.os,h2.tape.trans h.tape,h2.output.trans h.output,Nat.le_trans h.size h2.size,fun k hk=>(h2.low k hk).trans (h.low k hk),fun k cs t hc h1 h3=>h2.box k cs t (h.box k cs t hc h1 h3) h1 h3⟩
theorem mY.of_below(hb:Below w.heap.size w w')(hs:base<=w.heap.size):mY base w w':=
 ⟨hb.os,hb.tape,hb.output,hb.size,fun k hk=>hb.block k (Nat.lt_of_lt_of_le hk hs),fun _ _ _ h _ _=>aA hb h⟩
theorem mY.of_grown(hg:w.grownBy w' (some g))(hb:base<=g)(hs:base<=w.heap.size)(hc:w.heap[g]?=some (.cells cur T))(hT:T=64\/T=55):mY base w w':=
 ⟨hg.os,hg.tape,hg.output,hg.size,fun k hk=>hg.block k (Nat.lt_of_lt_of_le hk hs) (fun e=>by simp only[Option.some.injEq]at e;omega),fun k cs t h h1 h2=>eX hg h (kX hc h (fun e=>by rcases hT with rfl|rfl;exact h1 e.symm;exact h2 e.symm))⟩
theorem jZ(h3:w.grownBy w' r)(h6:w'.grownBy w'' r):w.grownBy w'' r:=
 ⟨h6.os.trans h3.os,h6.tape.trans h3.tape,h6.output.trans h3.output,Nat.le_trans h3.size h6.size,fun m hm hne=>(h6.block m (Nat.lt_of_lt_of_le hm h3.size) hne).trans (h3.block m hm hne)⟩
theorem QW{ps:List Le}{p:Le}(hi:i<ps.length):leAt (ps.set i p) j=if i=j then p else leAt ps j:=by
 unfold leAt;rw[zF,zF,List.getElem?_set];by_cases h:i=j
 ·subst h;rw[if_pos rfl,if_pos rfl,if_pos hi];rfl
 ·rw[if_neg h,if_neg h]
theorem MY(es:List Le)(j:Nat)(e:Le)(hj:j<es.length):
  (((((flatL es).set (j*5) (.int .i64 e.a)).set (j*5+1) (.int .i64 e.l)).set (j*5+2) (.int .i64 e.kd)).set (j*5+3) (.int .i64 e.ow)).set (j*5+4) (.int .i64 e.un)=flatL (es.set j e):=by
 refine List.ext_getElem? fun q=>?_;by_cases hq:q<es.length*5
 ·have hi:q/5<es.length:=by omega
  have hr:q%5<5:=by omega
  have e1:q=(q/5)*5+q%5:=by omega
  rw[e1];generalize q/5=i at hi;generalize q%5=r at hr;clear hq e1;rw[xU _ _ _ (by rw[List.length_set];exact hi) hr,QW hj];simp only[List.getElem?_set,List.length_set,iP];by_cases h1:j=i
  ·subst h1;rw[if_pos rfl];rcases r with _|_|_|_|_|r
   case succ.succ.succ.succ.succ=>omega
   all_goals simp only[cL,List.getElem?_cons_zero,List.getElem?_cons_succ]
   all_goals repeat(first|rw[if_pos trivial]|rw[if_pos (by omega)]|rw[if_neg (by omega)])
  ·rw[if_neg h1,if_neg (by omega),if_neg (by omega),if_neg (by omega),if_neg (by omega),if_neg (by omega),xU _ _ _ hi hr]
 ·rw[List.getElem?_eq_none (by simp only[List.length_set,iP];omega),List.getElem?_eq_none (by rw[iP,List.length_set];omega)]
theorem gR{z:Nat}(h:w.ownsRow base T z (.slice (some ⟨g,0,none⟩) n cap) m cs)(k:Nat)(u:Value)(hk:k<m*z):
  (w.setCell ⟨g,k,none⟩ u).ownsRow base T z (.slice (some ⟨g,0,none⟩) n cap) m (cs.set k u):=by
 rcases h.2 with ⟨hv, -⟩|⟨g',cap',cur,hv,h1,h2,h3,h4,h5,h6⟩
 ·simp at hv
 ·simp only[Value.slice.injEq,Option.some.injEq,Addr.mk.injEq]at hv;obtain⟨⟨rfl, -⟩,rfl,rfl⟩:=hv;refine⟨by rw[List.length_set];exact h.1, .inr ⟨g,cap,cur.setIfInBounds k u,rfl,h1,heap_setCell_same w g _ _ _ _ h2,h3,h4,by simpa using h5,?_⟩⟩;rw[Array.toList_setIfInBounds,List.take_set,h6]
theorem dL.set(h:dL w base (.slice (some ⟨g,0,none⟩) n cap) es)(j:Nat)(e:Le)(hj:j<es.length):
  dL (((((w.setCell ⟨g,j*5,none⟩ (.int .i64 e.a)).setCell ⟨g,j*5+1,none⟩ (.int .i64 e.l)).setCell ⟨g,j*5+2,none⟩ (.int .i64 e.kd)).setCell ⟨g,j*5+3,none⟩ (.int .i64 e.ow)).setCell ⟨g,j*5+4,none⟩ (.int .i64 e.un)) base (.slice (some ⟨g,0,none⟩) n cap) (es.set j e):=by
 unfold dL at h⊢;rw[<-MY es j e hj,List.length_set];exact gR (gR (gR (gR (gR h _ _ (by omega)) _ _ (by omega)) _ _ (by omega)) _ _ (by omega)) _ _ (by omega)
theorem I4(w:World)(g o1 o2 o3 o4 o5:Nat)(a b c d e:Value):w.grownBy (((((w.setCell ⟨g,o1,none⟩ a).setCell ⟨g,o2,none⟩ b).setCell ⟨g,o3,none⟩ c).setCell ⟨g,o4,none⟩ d).setCell ⟨g,o5,none⟩ e) (some g):=
 jZ (jZ (jZ (jZ (aN _ _ _ _) (aN _ _ _ _)) (aN _ _ _ _)) (aN _ _ _ _)) (aN _ _ _ _)
theorem dL.block(h:dL w base (.slice (some ⟨g,0,none⟩) n cap) es):base<=g/\∃cur,w.heap[g]?=some (.cells cur 55):=rA h
theorem I5(qs:List Po)(i:Nat)(hi:i<qs.length)(ls:List Le):flatP (qs.set i (bM (poAt qs i) (poAt qs i).x (poAt qs i).n (poAt qs i).c ls))=flatP qs:=by
 refine List.ext_getElem? fun q=>?_;by_cases hq:q<qs.length*9
 ·have e1:q=(q/9)*9+q%9:=by omega
  rw[e1,kW _ _ _ (by rw[List.length_set];omega) (by omega),kW _ _ _ (by omega) (by omega),eK hi];by_cases h1:i=q/9
  ·rw[if_pos h1,<-h1];rfl
  ·rw[if_neg h1]
 ·rw[List.getElem?_eq_none (by rw[eW,List.length_set];omega),List.getElem?_eq_none (by rw[eW];omega)]
theorem eT.turned(h:eT W base (.slice (some ⟨g,0,none⟩) n cap) qs qs.length)(hi:i<qs.length)(hx:(poAt qs i).x=some ⟨g2,0,none⟩)(hg:W.grownBy W1 (some g2))(ho:dL W1 base (.slice (some ⟨g2,0,none⟩) m c') ls):
  eJ W1 base (.slice (some ⟨g,0,none⟩) n cap) qs/\g≠g2/\(∀j,j<qs.length->dL W1 base (.slice (poAt (qs.set i (bM (poAt qs i) (some ⟨g2,0,none⟩) m c' ls)) j).x (poAt (qs.set i (bM (poAt qs i) (some ⟨g2,0,none⟩) m c' ls)) j).n (poAt (qs.set i (bM (poAt qs i) (some ⟨g2,0,none⟩) m c' ls)) j).c) (poAt (qs.set i (bM (poAt qs i) (some ⟨g2,0,none⟩) m c' ls)) j).ls)/\
   (∀j k,j<qs.length->k<qs.length->j≠k->∀b,(Value.slice (poAt (qs.set i (bM (poAt qs i) (some ⟨g2,0,none⟩) m c' ls)) j).x (poAt (qs.set i (bM (poAt qs i) (some ⟨g2,0,none⟩) m c' ls)) j).n (poAt (qs.set i (bM (poAt qs i) (some ⟨g2,0,none⟩) m c' ls)) j).c).ownBlock=some b->(Value.slice (poAt (qs.set i (bM (poAt qs i) (some ⟨g2,0,none⟩) m c' ls)) k).x (poAt (qs.set i (bM (poAt qs i) (some ⟨g2,0,none⟩) m c' ls)) k).n (poAt (qs.set i (bM (poAt qs i) (some ⟨g2,0,none⟩) m c' ls)) k).c).ownBlock≠some b):=by
 obtain⟨hbg,cur,hgc⟩:=h.row.block;have hob:(Value.slice (poAt qs i).x (poAt qs i).n (poAt qs i).c).ownBlock=some g2:=by rw[hx];rfl
 have hne:g≠g2:=fun e=>(h.own i hi).ne hgc (by decide) (by rw[hob,e]);refine⟨h.row.kept hg (fun k hk=>?_),hne,fun j hj=>?_,fun j k hj hk hjk b hbj hbk=>?_⟩
 ·simp only[Value.ownBlock,Option.some.injEq]at hk;rw[<-hk];exact hne
 ·rw[eK hi];by_cases e:i=j
  ·rw[if_pos e];exact ho
  ·rw[if_neg e];exact(h.own j hj).kept hg (fun k hk e2=>h.apart j i hj hi (fun e3=>e e3.symm) k hk (by rw[hob,e2]))
 ·rw[eK hi]at hbj hbk;by_cases e:i=j
  ·rw[if_pos e]at hbj;rw[if_neg (by omega)]at hbk;have hb2:some g2=some b:=hbj;exact h.apart i k hi hk (by omega) b (by rw[hob,hb2]) hbk
  ·rw[if_neg e]at hbj;by_cases e2:i=k
   ·rw[if_pos e2]at hbk;have hb2:some g2=some b:=hbk;exact h.apart j i hj hi (fun e3=>e e3.symm) b hbj (by rw[hob,hb2])
   ·rw[if_neg e2]at hbk;exact h.apart j k hj hk hjk b hbj hbk
theorem eT.turn(h:eT W base (.slice (some ⟨g,0,none⟩) n cap) qs qs.length)(hi:i<qs.length)(hx:(poAt qs i).x=some ⟨g2,0,none⟩)(hg:W.grownBy W1 (some g2))(ho:dL W1 base (.slice (some ⟨g2,0,none⟩) m c') ls):
  eT (W1.setCell ⟨g,i*9+8,none⟩ (.slice (some ⟨g2,0,none⟩) m c')) base (.slice (some ⟨g,0,none⟩) n cap) (qs.set i (bM (poAt qs i) (some ⟨g2,0,none⟩) m c' ls)) (qs.set i (bM (poAt qs i) (some ⟨g2,0,none⟩) m c' ls)).length:=by
 obtain⟨hr,hne,hall,hap⟩:=h.turned hi hx hg ho;obtain⟨-,cur,hgc⟩:=hr.block;have hlen:(qs.set i (bM (poAt qs i) (some ⟨g2,0,none⟩) m c' ls)).length=qs.length:=List.length_set;exact⟨hr.set i hi _ _ c' _,fun j hj=>(hall j (by omega)).kept (aN _ _ _ _) (fun q hq e=>by subst e;exact(hall j (by omega)).ne hgc (by decide) hq),fun j hj hj2=>by omega,fun j k hj hk=>hap j k (by omega) (by omega)⟩
theorem eT.turnIn(h:eT W base (.slice (some ⟨g,0,none⟩) n cap) qs qs.length)(hi:i<qs.length)(hx:(poAt qs i).x=some ⟨g2,0,none⟩)(hg:W.grownBy W1 (some g2))(ho:dL W1 base (.slice (some ⟨g2,0,none⟩) (poAt qs i).n (poAt qs i).c) ls):
  eT W1 base (.slice (some ⟨g,0,none⟩) n cap) (qs.set i (bM (poAt qs i) (some ⟨g2,0,none⟩) (poAt qs i).n (poAt qs i).c ls)) (qs.set i (bM (poAt qs i) (some ⟨g2,0,none⟩) (poAt qs i).n (poAt qs i).c ls)).length:=by
 obtain⟨hr,hne,hall,hap⟩:=h.turned hi hx hg ho;have hlen:(qs.set i (bM (poAt qs i) (some ⟨g2,0,none⟩) (poAt qs i).n (poAt qs i).c ls)).length=qs.length:=List.length_set;refine⟨?_,fun j hj=>hall j (by omega),fun j hj hj2=>by omega,fun j k hj hk=>hap j k (by omega) (by omega)⟩;have e:=I5 qs i hi ls;rw[hx]at e;unfold eJ at hr⊢;rw[e,hlen];exact hr
theorem QX{v:Int}(h1: -4611686018427387904<=v)(h2:v<=4611686018427387904):IntKind.i64.wrap v=v:=by
 rw[IntKind.wrap_i64];omega
def kA(p:Po)(j:Nat)(t:Int):List Le:=if p.co=0 then p.ls.take j++p.ls.drop (j+1)else p.ls.set j ⟨(leAt p.ls j).a,(leAt p.ls j).l,3,0,t+p.co⟩
def QY(base g n cap:Nat)(qs:List Po)(i j:Nat)(t:Int)(w:World)(r:Ending)(w':World):Prop:=
 r= .returned (.tuple #[])/\∃x' c',eT w' base (.slice (some ⟨g,0,none⟩) n cap) (qs.set i (bM (poAt qs i) x' (kA (poAt qs i) j t).length c' (kA (poAt qs i) j t))) (qs.set i (bM (poAt qs i) x' (kA (poAt qs i) j t).length c' (kA (poAt qs i) j t))).length/\mY base w w'
theorem QZ(base g n cap:Nat)(qs:List Po)(i j:Nat)(t:Int)(w:World)(h:eT w base (.slice (some ⟨g,0,none⟩) n cap) qs qs.length)(hi:i<qs.length)(hj:j<(poAt qs i).n)(hn:(poAt qs i).n<=32)(hwb:base<=w.heap.size)(ht0:0<=t)(ht1:t<=1073741824)(hc0:0<=(poAt qs i).co)(hc1:(poAt qs i).co<=1024):
  Calls Tryz.prog 188 #[.pointer (some ⟨g,i*9,none⟩), .int .i64 j, .int .i64 t] w (QY base g n cap qs i j t w):=by
 obtain⟨hbg,cur,hg⟩:=h.row.block;obtain⟨xv,cv,he2, -, -, -,hm⟩:=h.row.mem;obtain⟨b2,o2,he3, -, -, -, -, -, -, -,c7,c8⟩:=hm i hi;simp only[Value.slice.injEq]at he2;obtain⟨hx2, -, -⟩:=he2;rw[<-hx2]at he3;simp only[Option.some.injEq,Addr.mk.injEq]at he3;obtain⟨rfl,rfl, -⟩:=he3;clear hx2 hm;have hO:=h.own i hi;obtain⟨hLS,hll,hnc,hc63⟩:=hO.ls;obtain⟨g2,hxs⟩:∃g2,(poAt qs i).x=some ⟨g2,0,none⟩:=by
  rcases hO.2 with ⟨hv, -⟩|⟨g2,cap2,cur2,hv, -⟩
  ·simp only[Value.slice.injEq]at hv;omega
  ·simp only[Value.slice.injEq]at hv;exact⟨_,hv.1⟩
 rw[hxs]at c8 hO hLS;obtain⟨hb2,cur2,hg2⟩:=hO.block;obtain⟨b3,o3,hx3,d0,d1,d2,d3,d4⟩:=hLS.cells j hj;simp only[Option.some.injEq,Addr.mk.injEq]at hx3;obtain⟨rfl,rfl, -⟩:=hx3;have c7':w.cell? ⟨g,i*9+7,none⟩=some (.int .i64 (poAt qs i).co):=by simpa using c7
 have c8':w.cell? ⟨g,i*9+8,none⟩=some (.slice (some ⟨g2,0,none⟩) (poAt qs i).n (poAt qs i).c):=by simpa using c8
 have d0':w.cell? ⟨g2,j*5,none⟩=some (.int .i64 (leAt (poAt qs i).ls j).a):=by simpa using d0
 have d1':w.cell? ⟨g2,j*5+1,none⟩=some (.int .i64 (leAt (poAt qs i).ls j).l):=by simpa using d1
 have d2':w.cell? ⟨g2,j*5+2,none⟩=some (.int .i64 (leAt (poAt qs i).ls j).kd):=by simpa using d2
 have d3':w.cell? ⟨g2,j*5+3,none⟩=some (.int .i64 (leAt (poAt qs i).ls j).ow):=by simpa using d3
 have d4':w.cell? ⟨g2,j*5+4,none⟩=some (.int .i64 (leAt (poAt qs i).ls j).un):=by simpa using d4
 clear c7 c8 d0 d1 d2 d3 d4;by_cases hco:(poAt qs i).co=0
 ·obtain⟨k,hk⟩:∃k,(poAt qs i).n=k+1:=⟨(poAt qs i).n- 1,by omega⟩;rw[hk]at hO hll hnc c8';have hdel:=F6 base g2 k (poAt qs i).c j (j+1) (poAt qs i).ls w hO hll (by omega) rfl (by omega) hnc hc63;rw[show((j+1:Nat):Int)=(j:Int)+1 by omega]at hdel;have hcl:Hid (kA (poAt qs i) j t=(poAt qs i).ls.take j++(poAt qs i).ls.drop (j+1)):=if_pos hco;have hlen:(kA (poAt qs i) j t).length=k:=by rw[hcl.out];simp;omega
  rw[hco]at c7';have hjk:(j:Int)<=32:=by omega
  have hj0:(0:Int)<=j:=by omega
  go_enter Tryz.func188,Tryz.ntmps188;go_wp2_with fail;refine hdel.mono ?_;rintro e w1 ⟨rfl,hO1,hg1⟩;rw[<-hcl.out]at hO1;have hk1:=mY.of_grown hg1 hb2 hwb hg2 (.inr rfl);obtain⟨hr1,hne, -, -⟩:=h.turned hi hxs hg1 hO1;obtain⟨-,cur1,hgc1⟩:=hr1.block;have f8:=(aD hgc1).2 (i*9+8);obtain⟨xw,cw,he4, -, -, -,hm4⟩:=hr1.mem;obtain⟨b4,o4,he5, -, -, -, -, -, -, -, -,k8⟩:=hm4 i hi;simp only[Value.slice.injEq]at he4;rw[<-he4.1]at he5;simp only[Option.some.injEq,Addr.mk.injEq]at he5;obtain⟨rfl,rfl, -⟩:=he5;simp only[Nat.zero_add]at k8;clear hm4 he4 c7' c8';have hOB:=h.turn hi hxs hg1 hO1;go_wp2;refine bodyPost_end (results_none Tryz.results188 _ _ _) rfl ?_;refine⟨rfl,some ⟨g2,0,none⟩,(poAt qs i).c,by rw[hlen];exact hOB,hk1.trans (mY.of_grown (aN _ _ _ _) hbg (Nat.le_trans hwb hk1.size) hgc1 (.inl rfl))⟩
 ·have hcl:Hid (kA (poAt qs i) j t=(poAt qs i).ls.set j ⟨(leAt (poAt qs i).ls j).a,(leAt (poAt qs i).ls j).l,3,0,t+(poAt qs i).co⟩):=if_neg hco;have hlen:(kA (poAt qs i) j t).length=(poAt qs i).n:=by rw[hcl.out,List.length_set];exact hll
  have hj0:(0:Int)<=j:=by omega
  have hjn:(j:Int)<(poAt qs i).n:=by omega
  have z0:=(aD hg2).2;have hO1:=hO.set j ⟨(leAt (poAt qs i).ls j).a,(leAt (poAt qs i).ls j).l,3,0,t+(poAt qs i).co⟩ (by omega);rw[<-hcl.out]at hO1;have hgr:=I4 w g2 (j*5) (j*5+1) (j*5+2) (j*5+3) (j*5+4) (.int .i64 (leAt (poAt qs i).ls j).a) (.int .i64 (leAt (poAt qs i).ls j).l) (.int .i64 3) (.int .i64 0) (.int .i64 (t+(poAt qs i).co));have hOB:=(h.turnIn hi hxs hgr hO1).later (zD).drew;rw[<-hlen]at hOB;have hKe:mY base w _:=(mY.of_grown hgr hb2 hwb hg2 (.inr rfl)).trans (mY.of_below (zD).drew (Nat.le_trans hwb hgr.size));have hwr:Hid (IntKind.i64.wrap (t+(poAt qs i).co)=t+(poAt qs i).co):=QX (by omega) (by omega);go_enter Tryz.func188,Tryz.ntmps188;go_upto_region 2 with fail
  go_region_with fail;all_goals refine bodyPost_end (results_none Tryz.results188 _ _ _) rfl ?_
  all_goals rw[hwr.out]
  all_goals exact⟨rfl,some ⟨g2,0,none⟩,(poAt qs i).c,hOB,hKe⟩
def tF(E:Int)(R:Int->List Po->Prop)(w:World)(r:Ending)(w':World):Prop:=
 ∃v rs t',r= .returned (.tuple #[.agg #[.int .i64 t',v], .int .i64 E])/\Below w.heap.size w w'/\eT w' w.heap.size v rs rs.length/\(E≠0->t'=0/\rs=[]/\v= .slice none 0 0)/\(E=0->R t' rs)
theorem tF.err{R:Int->List Po->Prop}(hE:E'=E/\E≠0)(hb:Below w.heap.size w w'):
  tF E' R w (.returned (.tuple #[.agg #[.int .i64 0, .slice none 0 0], .int .i64 E])) w':=
 ⟨_,[],0,by rw[hE.1],hb,eT.nil _ _,fun _=>⟨rfl,rfl,rfl⟩,fun h=>absurd (hE.1.symm.trans h) hE.2⟩
theorem qD(h:aX t ps=0):ps.length<=8/\(0<=t/\t<=1073741824)/\kV ps.length ps=true/\fX ps=true/\∀i,i<ps.length->jX t ps ps.length (poAt ps i)=true:=by
 refine⟨wS h,?_⟩;unfold aX at h;rw[if_neg (by have:=wS h;omega)]at h;split at h
 ·rename_i h2;simp only[zH]at h2;obtain⟨h3,h4,h5,h6⟩:=h2;refine⟨by unfold bV at h3;simpa using h3,h4,h5,fun i hi=>?_⟩;unfold lZ at h6;rw[List.all_eq_true]at h6;exact h6 i (by simpa using hi)
 ·cases h
theorem fG(h:jX t ps n p=true):eI p.a p.l p.n (lp p.ls)=0/\dB p.mn p.mx p.us p.co p.l=true/\lY ps n p=true/\A8 t ps p=true:=by
 unfold jX at h;simp only[zH]at h;obtain⟨h1,h2,h3,h4⟩:=h;exact⟨by simpa using h1,h2,h3,h4⟩
theorem VB{mn mx us co l:Int}(h:dB mn mx us co l=true):l<=mn/\mn<=us/\us<=mx/\mx<=16/\0<=co/\co<=1024:=by
 unfold dB bV at h;simp only[zH,decide_eq_true_eq]at h;omega
theorem F7(h:aX t ps=0)(i:Nat)(hi:i<ps.length):(poAt ps i).n<=32/\0<=(poAt ps i).co/\(poAt ps i).co<=1024:=by
 obtain⟨-, -, -, -,hp⟩:=qD h;obtain⟨h1,h2, -, -⟩:=fG (hp i hi);exact⟨(iB h1).1,(VB h2).2.2.2.2⟩
def mB(ls:List Le)(a l:Int)(i:Nat):Bool:=((leAt ls i).kd==1)&&(decide ((leAt ls i).a=a)&&decide ((leAt ls i).l=l))
theorem MZ(a l:Int)(p:Le)(b:Nat)(w:World)(h0:w.cell? ⟨b,0,none⟩=some (.int .i64 a))(h1:w.cell? ⟨b,1,none⟩=some (.int .i64 l)):
  Calls Tryz.prog 239 #[.agg #[.int .i64 p.a, .int .i64 p.l, .int .i64 p.kd, .int .i64 p.ow, .int .i64 p.un], .pointer (some ⟨b,0,none⟩)] w fun e w'=>e= .returned (.bool ((p.kd==1)&&(decide (p.a=a)&&decide (p.l=l))))/\Below w.heap.size w w':=by
 have k0:∀q,(w.alloc q).cell? ⟨b,0,none⟩=some (.int .i64 a):=fun q=>cell_later (bl1 w q) h0;have k1:∀q,(w.alloc q).cell? ⟨b,1,none⟩=some (.int .i64 l):=fun q=>aF (bl1 w q) h1
 cases hk:(p.kd==1)
 ·go_enter Tryz.func239,Tryz.ntmps239;go_wp2;go_ret;exact⟨rfl,bl1 w _⟩
 ·go_enter Tryz.func239,Tryz.ntmps239;go_wp2;all_goals go_ret
  all_goals first|exact⟨rfl,bl1 w _⟩|exact⟨by simp_all,bl1 w _⟩
theorem I6(args:Array Value)(W:World):(callFunc 239 args).run Tryz.prog W= .ok (.enter 239 args) W:=by simp[go_sem]
theorem VC(a l:Int)(b n:Nat)(ls:List Le)(w:World)(h0:w.cell? ⟨b,0,none⟩=some (.int .i64 a))(h1:w.cell? ⟨b,1,none⟩=some (.int .i64 l)):
  DJ 239 #[.pointer (some ⟨b,0,none⟩)] n ls (mB ls a l) w:=fun i _ W hW=>MZ a l (leAt ls i) b W (cell_later hW h0) (aF hW h1)
theorem xW(g:Nat)(cap:Array Value)(x:Option Addr)(n c:Nat)(ps:List Le)(f:Nat->Bool)(w:World)(hp:LS w x n ps)(hn:n<=1048576)(hF:DJ g cap n ps f w)
 (hg:∀args W,(callFunc g args).run Tryz.prog W= .ok (.enter g args) W):
  Calls Tryz.prog 159 #[.slice x n c, .func (.func g) #[] cap] w fun e w'=>e= .returned (.int .i64 (cE n f))/\Below w.heap.size w w':=by
 refine(gX g cap x n c ps f w hp hn hF hg).mono ?_;rintro e w' ⟨⟨r,rfl,hr⟩,hb⟩;rcases hr with ⟨i,hi,h1,h2,rfl⟩|⟨h1,rfl⟩
 ·exact⟨by rw[nM hi h1 h2],hb⟩
 ·exact⟨by rw[qC h1],hb⟩
structure XZ(w W:World)(t a l:Int)(v:Value):Prop where
 hb:W.heap[w.heap.size]?=some (lP t v)
 hp:W.heap[w.heap.size+1]?=some (.cells #[.int .i64 a, .int .i64 l] 53)
 hs:W.heap[w.heap.size+2]?=some (lP 0 (.slice none 0 0))
 below:Below w.heap.size w W
theorem XZ.later{a l:Int}(h:XZ w W t a l v)(hb:Below W.heap.size W W'):XZ w W' t a l v:=
 ⟨aA hb h.hb,aA hb h.hp,aA hb h.hs,h.below.trans (hb.mono h.below.size)⟩
theorem XZ.kept{a l:Int}(h:XZ w W t a l v)(hk:mY base W W')(hb:w.heap.size<=base):XZ w W' t a l v:=
 ⟨hk.box _ _ _ h.hb (by decide) (by decide),hk.box _ _ _ h.hp (by decide) (by decide),hk.box _ _ _ h.hs (by decide) (by decide),h.below.trans (hk.below.mono hb)⟩
def nN(t:Int)(ps:List Po)(id a l:Int):Int:=
 if aX t ps≠0 then aX t ps else if aS ps id<0 then 5 else if cE (poAt ps (aS ps id).toNat).n (mB (poAt ps (aS ps id).toNat).ls a l)<0 then 5 else 0
def DX(ps:List Po)(i j:Nat)(t:Int)(rs:List Po):Prop:=∃qs x' c',eC ps qs/\rs=qs.set i (bM (poAt qs i) x' (kA (poAt ps i) j t).length c' (kA (poAt ps i) j t))
def CC(t:Int)(ps:List Po)(id a l:Int)(t':Int)(rs:List Po):Prop:=
 t'=t/\DX ps (aS ps id).toNat (cE (poAt ps (aS ps id).toNat).n (mB (poAt ps (aS ps id).toNat).ls a l)).toNat t rs
def Q0(t:Int)(ps:List Po)(id a l:Int)(w:World):Ending->World->Prop:=tF (nN t ps id a l) (CC t ps id a l) w
theorem I7(h:rJ p q)(j:Nat)(t:Int):kA q j t=kA p j t:=by
 obtain⟨-, -, -, -, -, -, -,h1, -,h2⟩:=h;unfold kA;rw[h1,h2]
theorem BA(h:¬cE n f<0):∃i:Nat,i<n/\cE n f=i/\f i=true:=by
 rcases firstAt_any (n:=n) (f:=f)with ⟨-,i,h1,h2, -,h3⟩|⟨-, -,h3⟩
 ·exact⟨i,h1,h3,h2⟩
 ·rw[h3]at h;exact absurd (by decide) h
theorem F8(t:Int)(x:Option Addr)(n c:Nat)(ps:List Po)(id a l:Int)(w:World)(hk:Bk w x n c ps):
  Calls Tryz.prog 194 #[.agg #[.int .i64 t, .slice x n c], .int .i64 id, .agg #[.int .i64 a, .int .i64 l]] w (Q0 t ps id a l w):=by
 have hpl:Hid (ps.length=n):=hk.ps.len;go_enter Tryz.func194,Tryz.ntmps194;go_upto_region 1 with fail
 obtain⟨w0,hw0⟩:∃w0,w0=((w.alloc (lP t (.slice x n c))).alloc (.cells #[.int .i64 a, .int .i64 l] 53)).alloc (lP 0 (.slice none 0 0)):=⟨_,rfl⟩;rw[<-hw0];have hT0:XZ w w0 t a l (.slice x n c):=by
  rw[hw0];exact⟨aH _ (aH _ (aB _ rfl)),aH _ (aB _ (by simp)),aB _ (by simp),(bP w _ _).alloc (by simp;omega) _⟩
 clear hw0;obtain⟨b0,b1⟩:=aZ hT0.hb rfl rfl;obtain⟨a0,a1⟩:=aZ hT0.hp rfl rfl;obtain⟨s0,s1⟩:=aZ hT0.hs rfl rfl;obtain⟨zs0,zs1⟩:=eA hT0.hs;have hck:=mA t x n c ps w0 (hk.later hT0.below);by_cases hc0:aX t ps=0
 ·rw[hc0]at hck;go_wp2_with fail;refine hck.mono ?_;rintro e w1 ⟨rfl,hb1⟩;have hT1:=hT0.later hb1;obtain⟨hn8,⟨ht0,ht1⟩, -⟩:=qD hc0;rw[hpl.out]at hn8;clear b0 b1 a0 a1 s0 s1 zs0 zs1 hb1 hck;obtain⟨b0,b1⟩:=aZ hT1.hb rfl rfl;obtain⟨a0,a1⟩:=aZ hT1.hp rfl rfl;obtain⟨s0,s1⟩:=aZ hT1.hs rfl rfl;obtain⟨zs0,zs1⟩:=eA hT1.hs;have hpc:=pplace_any t id x n c ps w1 (hk.later hT1.below).ps (by omega);have hE1:Hid (nN t ps id a l=if aS ps id<0 then 5 else if cE (poAt ps (aS ps id).toNat).n (mB (poAt ps (aS ps id).toNat).ls a l)<0 then 5 else 0):=if_neg (c:=aX t ps≠0) (by simp[hc0]);by_cases hat:aS ps id<0
  ·have hne:nN t ps id a l=5/\(5:Int)≠0:=⟨hE1.out.trans (if_pos hat),by decide⟩;go_wp2_with fail;refine hpc.mono ?_;rintro e w2 ⟨rfl,hb2⟩;have hT2:=hT1.later hb2;clear b0 b1 a0 a1 s0 s1 zs0 zs1 hb2 hE1;obtain⟨b0,b1⟩:=aZ hT2.hb rfl rfl;obtain⟨a0,a1⟩:=aZ hT2.hp rfl rfl;obtain⟨s0,s1⟩:=aZ hT2.hs rfl rfl;obtain⟨zs0,zs1⟩:=eA hT2.hs;go_wp2;refine bodyPost_ret (v:= .tuple #[.agg #[.int .i64 0, .slice none 0 0], .int .i64 5]) (by simp[results,Tryz.results194,go_sem,s0,s1]) rfl ?_;exact tF.err hne ((hT2.below.setCell (p:=⟨w.heap.size+2,0,none⟩) (zA) _).setCell (p:=⟨w.heap.size+2,1,none⟩) (zA) _)
  ·obtain⟨i,hi,hati, -⟩:=bW hat;have hcp:=F7 hc0 i hi;rw[hpl.out]at hi;have hto:(aS ps id).toNat=i:=by rw[hati];rfl
   have hR:Hid (∀j t' rs,cE (poAt ps i).n (mB (poAt ps i).ls a l)=((j:Nat):Int)->t'=t->DX ps i j t rs->CC t ps id a l t' rs):=fun j t' rs h1 h2 h3=>⟨h2,by rw[hto,h1];exact h3⟩;have hE2:Hid (nN t ps id a l=if cE (poAt ps i).n (mB (poAt ps i).ls a l)<0 then 5 else 0):=by
    have h:=hE1.out;rw[if_neg hat,hto]at h;exact h
   rw[hati]at hpc;clear hat hati hto hE1;go_wp2_with fail;refine hpc.mono ?_;rintro e w2 ⟨rfl,hb2⟩;have hT2:=hT1.later hb2;have hi0:(0:Int)<=i:=by omega
   clear b0 b1 a0 a1 s0 s1 zs0 zs1 hb2 hpc;obtain⟨b0,b1⟩:=aZ hT2.hb rfl rfl;obtain⟨a0,a1⟩:=aZ hT2.hp rfl rfl;obtain⟨s0,s1⟩:=aZ hT2.hs rfl rfl;obtain⟨zs0,zs1⟩:=eA hT2.hs;have hk2:=hk.later hT2.below;obtain⟨b,o,rfl,c0,c1,c2,c3,c4,c5,c6,c7,c8⟩:=hk2.ps.cells i hi;obtain⟨hlc,hlm,hLS⟩:=hk2.ps.leases i hi;have hin:(i:Int)<n:=by omega
   have hix:=xW 239 #[.pointer (some ⟨w.heap.size+1,0,none⟩)] (poAt ps i).x (poAt ps i).n (poAt ps i).c (poAt ps i).ls (mB (poAt ps i).ls a l) w2 hLS hlm (VC a l (w.heap.size+1) _ _ w2 a0 a1) I6;by_cases hfi:cE (poAt ps i).n (mB (poAt ps i).ls a l)<0
   ·have hne:nN t ps id a l=5/\(5:Int)≠0:=⟨hE2.out.trans (if_pos hfi),by decide⟩;clear hR hE2;go_wp2_with fail;refine hix.mono ?_;rintro e w3 ⟨rfl,hb3⟩;have hT3:=hT2.later hb3;clear b0 b1 a0 a1 s0 s1 zs0 zs1 hb3 c0 c1 c2 c3 c4 c5 c6 c7 c8;obtain⟨b0,b1⟩:=aZ hT3.hb rfl rfl;obtain⟨a0,a1⟩:=aZ hT3.hp rfl rfl;obtain⟨s0,s1⟩:=aZ hT3.hs rfl rfl;obtain⟨zs0,zs1⟩:=eA hT3.hs;go_wp2;refine bodyPost_ret (v:= .tuple #[.agg #[.int .i64 0, .slice none 0 0], .int .i64 5]) (by simp[results,Tryz.results194,go_sem,s0,s1]) rfl ?_;exact tF.err hne ((hT3.below.setCell (p:=⟨w.heap.size+2,0,none⟩) (zA) _).setCell (p:=⟨w.heap.size+2,1,none⟩) (zA) _)
   ·have hE0:Hid (nN t ps id a l=0):=hE2.out.trans (if_neg hfi);obtain⟨j,hj,hfj, -⟩:=BA hfi;rw[hfj]at hix;have hR2:Hid (∀t' rs,t'=t->DX ps i j t rs->CC t ps id a l t' rs):=fun t' rs=>hR.out j t' rs hfj;clear hfi hfj hE2 hR;go_wp2_with fail;refine hix.mono ?_;rintro e w3 ⟨rfl,hb3⟩;have hT3:=hT2.later hb3;have hj0:(0:Int)<=j:=by omega
    clear b0 b1 a0 a1 s0 s1 zs0 zs1 hb3 c0 c1 c2 c3 c4 c5 c6 c7 c8 hix;obtain⟨b0,b1⟩:=aZ hT3.hb rfl rfl;obtain⟨a0,a1⟩:=aZ hT3.hp rfl rfl;obtain⟨s0,s1⟩:=aZ hT3.hs rfl rfl;obtain⟨zs0,zs1⟩:=eA hT3.hs;go_wp2_with fail;refine(gJ t (some ⟨b,o,none⟩) n c ps w3 (hk.later hT3.below) (by omega)).mono ?_;rintro e w5 ⟨v5,qs,rfl,hs,hOB,hb5⟩;have hql:i<qs.length:=by rw[<-hs.1,hpl.out];exact hi
    rcases hOB.row.2 with ⟨-,h0⟩|⟨g,cap,cur,rfl,hg1,hg2, -⟩
    ·omega
    clear b0 b1 a0 a1 s0 s1 zs0 zs1;go_upto_region 11 with fail
    obtain⟨w6,hw6⟩:∃w6,w6=w5.alloc (lP t (.slice (some ⟨g,0,none⟩) qs.length cap)):=⟨_,rfl⟩;rw[<-hw6];have hT6:XZ w w6 t a l (.slice (some ⟨b,o,none⟩) n c):=by rw[hw6];exact(hT3.later hb5).later (bl1 _ _)
    have hn6:w6.heap[w5.heap.size]?=some (lP t (.slice (some ⟨g,0,none⟩) qs.length cap)):=by rw[hw6];exact aB _ rfl
    have hOB6:eT w6.drew w3.heap.size (.slice (some ⟨g,0,none⟩) qs.length cap) qs qs.length:=by
     rw[hw6];exact hOB.later (bl1 _ _).drew
    have hs6:w3.heap.size<=w6.drew.heap.size:=by rw[hw6];have:=hb5.size;simp;omega
    clear hw6 hOB hb5 hg2;have hsp:=hs.2 i (by rw[hpl.out];exact hi);have hsp2:=hsp;obtain⟨-, -, -, -, -, -, -,hqc,hqn, -⟩:=hsp2;have hql2:(i:Int)<qs.length:=by omega
    obtain⟨m0,m1⟩:=aZ hn6 rfl rfl;have hcool:=QZ w3.heap.size g qs.length cap qs i j t w6.drew hOB6 hql (by rw[<-hqn];exact hj) (by rw[<-hqn];exact hcp.1) hs6 ht0 ht1 (by rw[<-hqc];exact hcp.2.1) (by rw[<-hqc];exact hcp.2.2);go_region_with (go_at_call 188;refine hcool.mono ?_;rintro e w7 ⟨rfl,x',c',hOB7,hK7⟩);all_goals have hK:mY w3.heap.size w6 w7:=⟨hK7.os,hK7.tape,hK7.output,hK7.size,hK7.low,hK7.box⟩
    all_goals have hT7:=hT6.kept hK hT3.below.size
    all_goals have hn7:=hK.box _ _ _ hn6 (by decide) (by decide)
    all_goals clear m0 m1 hcool
    all_goals obtain⟨m0,m1⟩:=aZ hn7 rfl rfl
    all_goals obtain⟨s0,s1⟩:=aZ hT7.hs rfl rfl
    all_goals obtain⟨zs0,zs1⟩:=eA hT7.hs
    all_goals have hsz:w.heap.size+2<w3.heap.size:=(zG hT3.hs)
    all_goals go_wp2
    all_goals refine bodyPost_ret (v:= .tuple #[.agg #[.int .i64 t, .slice (some ⟨g,0,none⟩) qs.length cap], .int .i64 0]) (by simp[results,Tryz.results194,go_sem,s0,s1]) rfl ?_
    all_goals have hfin:=(hT7.below.setCell (p:=⟨w.heap.size+2,0,none⟩) (zA) (.int .i64 t)).setCell (p:=⟨w.heap.size+2,1,none⟩) (zA) (.slice (some ⟨g,0,none⟩) qs.length cap)
    all_goals have hob:=((hOB7.put (o:=0) (u:= .int .i64 t) hsz).put (o:=1) (u:= .slice (some ⟨g,0,none⟩) qs.length cap) hsz).low hT3.below.size
    all_goals exact⟨_,_,t,by rw[hE0.out],hfin,hob,fun h=>absurd hE0.out h,fun _=>hR2.out t _ rfl ⟨qs,x',c',hs,by rw[I7 hsp]⟩⟩
 ·have hne:nN t ps id a l=aX t ps/\aX t ps≠0:=⟨if_pos hc0,hc0⟩;go_wp2_with fail;refine hck.mono ?_;rintro e w1 ⟨rfl,hb1⟩;have hT1:=hT0.later hb1;clear b0 b1 a0 a1 s0 s1 zs0 zs1 hck hb1;obtain⟨b0,b1⟩:=aZ hT1.hb rfl rfl;obtain⟨a0,a1⟩:=aZ hT1.hp rfl rfl;obtain⟨s0,s1⟩:=aZ hT1.hs rfl rfl;obtain⟨zs0,zs1⟩:=eA hT1.hs;go_wp2;refine bodyPost_ret (v:= .tuple #[.agg #[.int .i64 0, .slice none 0 0], .int .i64 (aX t ps)]) (by simp[results,Tryz.results194,go_sem,s0,s1]) rfl ?_;exact tF.err hne ((hT1.below.setCell (p:=⟨w.heap.size+2,0,none⟩) (zA) _).setCell (p:=⟨w.heap.size+2,1,none⟩) (zA) _)
def Y4(T:Int)(e:Le):Bool:=(e.kd==3)&&decide (e.un<=T)
def aCb(t:Int)(ps:List Po)(m:Int):Int:=if aX t ps≠0 then aX t ps else if m<1\/1073741824- t<m then 3 else 0
def X0(T:Int)(ls:List Le):List Le:=ls.filter (fun e=>!Y4 T e)
def Y6(T:Int)(qs:List Po)(k:Nat)(rs:List Po):Prop:=
 rs.length=qs.length/\∀j,j<qs.length->(j<k->∃x c,poAt rs j=bM (poAt qs j) x (X0 T (poAt qs j).ls).length c (X0 T (poAt qs j).ls))/\(k<=j->poAt rs j=poAt qs j)
def aCc(t:Int)(ps:List Po)(m:Int)(t':Int)(rs:List Po):Prop:=t'=t+m/\∃qs,eC ps qs/\Y6 (t+m) qs qs.length rs
open Go.RowKit
def uZ(P:Program)(md:Region.Mode)(ops:Array Oper)(C:World->Prop)(n:Nat)(L:Array Bool->Act->Prop):Nat->Array Bool->Act->Prop
 |0,listed,a=>L listed a
 |f+1,listed,a=>Region.ready md ops listed≠[]/\∀i∈Region.ready md ops listed,i<n/\qOp P ops C i (uZ P md ops C n L f (listed.setIfInBounds i true)) a
theorem vA{md:Region.Mode}{L:Array Bool->Act->Prop}(hL:∀listed a w,C w->L listed a->wpAny P md ops Q g listed a w)(f:Nat):
  ∀(listed:Array Bool) (a:Act) (w:World),C w->uZ P md ops C n L f listed a->wpAny P md ops Q (f+g) listed a w:=by
 induction f with
 |zero=>intro listed a w hw h;rw[Nat.zero_add];exact hL _ _ _ hw h
 |succ f ih=>
  intro listed a w hw h
  rw[Nat.succ_add]
  refine⟨fun h0=>absurd h0 h.1,fun i hi=>?_⟩
  exact wpOp_of_qOp hw (fun a' w' hw' h'=>ih _ a' w' hw' h') (h.2 i hi).2
theorem F9{md:Region.Mode}{L:Array Bool->Act->Prop}(hi:ops[i]?=some oi)(hsel:∀(j:Nat) (o:Oper) cs b,ops[j]?=some o->o.op≠ .select cs b)
 (hs:Region.sinkB md ops n=true)(hc:Region.chainB md ops n=true)(hn:n<ops.size)(hin:i<n)(hL:∀listed a,L listed a->∀j∈Region.ready md ops listed,n<=j)(f:Nat):
  ∀(listed:Array Bool) (a:Act),HeadInv md ops n listed->(∀j oj,ops[j]?=some oj->j≠i->listed.getD j true=false->(∀e∈oj.after,Region.binds md e=true->e.on≠i)->oi.apart ops oj=true)->
   i∈Region.ready md ops listed->YieldsIn P ops C oi v a->uZ P md ops C n L f (listed.setIfInBounds i true) (a.put oi.dst v)->uZ P md ops C n L (f+1) listed a:=by
 induction f with
 |zero=>
  intro listed a inv hfree hr hy H
  refine⟨List.ne_nil_of_mem hr,fun j hj=>?_⟩
  have hjn:j<n:=Nat.lt_of_not_le fun h=>tail_waits hs hc hn inv _ i rfl hin (mem_ready.1 hr).1 j h hj
  refine⟨hjn,?_⟩
  by_cases e:j=i
  ·subst e;exact hy.qOp hi H
  ·exact absurd (hL _ _ H j (ready_mono hj e)) (by omega)
 |succ f ih=>
  intro listed a inv hfree hr hy H
  refine⟨List.ne_nil_of_mem hr,fun j hj=>?_⟩
  have hjn:j<n:=Nat.lt_of_not_le fun h=>tail_waits hs hc hn inv _ i rfl hin (mem_ready.1 hr).1 j h hj
  refine⟨hjn,?_⟩
  by_cases e:j=i
  ·subst e;exact hy.qOp hi H
  obtain⟨hun,oj,hoj,hall⟩:=mem_ready.1 hj
  have hno:∀x∈oj.after,Region.binds md x=true->x.on≠i:=fun x hx hb he=>by
   have h1:=hall x hx hb;rw[he,getD_both (mem_ready.1 hr).1]at h1
   cases h1
  have h2:=qOp_put hoj (hfree j oj hoj e hun hno) (fun cs b=>hsel i oi cs b hi) (fun cs b=>hsel j oj cs b hoj) hy (H.2 j (ready_mono hj e)).2
  refine qOp_mono (fun a' h3=>ih _ a' (inv.set hj hjn) (fun k ok hk hki hku=>?_) (ready_mono hr (Ne.symm e)) h3.1 ?_) h2
  ·refine hfree k ok hk hki ?_;by_cases hjk:j=k
   ·subst hjk;exact hun
   ·rw[getD_set_ne true hjk]at hku;exact hku
  ·rw[Array.setIfInBounds_comm _ _ e];exact h3.2
theorem M0{md:Region.Mode}{K:Act->Prop}(hsel:Region.noSelect ops=true)(hs:Region.sinkB md ops n=true)(hc:Region.chainB md ops n=true)(hn:n<ops.size)(l:List Oper):
  ∀(k:Nat) (listed:Array Bool) (a:Act),(∀j,j<l.length->l[j]?=ops[k+j]?)->k+l.length=n->HeadInv md ops n listed->Region.lexHead md ops g l.length k listed=true->wpQuiet P ops C K l a->
   uZ P md ops C n (fun listed' a'=>Region.seqB md ops g n listed'=true/\K a') l.length listed a:=by
 induction l with
 |nil=>
  intro k listed a _ hk _ hB h
  obtain rfl:k=n:=by simpa using hk
  exact⟨by simpa[Region.lexHead]using hB,h⟩
 |cons o l ih=>
  intro k listed a hl hk inv hB h
  have h0:ops[k]?=some o:=by simpa using(hl 0 (by simp)).symm
  simp only[List.length_cons,Region.lexHead,zH]at hB
  have hkn:k<n:=by simp only[List.length_cons]at hk;omega
  have hr:k∈Region.ready md ops listed:=by simpa using hB.1.1
  have hq:qOp P ops C k (wpQuiet P ops C K l) a:=by unfold qOp;simp only[h0];exact h
  obtain⟨v,hy,hK⟩:=yieldsIn_of_qOp h0 hq
  refine F9 h0 (Region.noSelect_spec hsel) hs hc hn hkn (fun _ _ hL=>seqB_ready hL.1) l.length listed a inv (Region.free_spec h0 hB.1.2) hr hy ?_
  exact ih (k+1) _ _ (fun j hj=>by have:=hl (j+1) (by simp;omega);simpa[Nat.add_assoc,Nat.add_comm 1 j]using this) (by simp only[List.length_cons]at hk;omega) (inv.set hr hkn) hB.2 hK
theorem jG{id:Nat}(m n:Nat)(hm:P.follows .mixedOrders=true)(hB:Region.lexTailB .any l.toArray n=true)
 (h:wpQuiet P l.toArray (fun w'=>∃u:Ws m w,w'=u.val) (fun a'=>∀u:Ws m w,wpList P l.toArray Q (l.drop n) a' u.val) (l.take n) a):(Code.region id l.toArray true).wp P Q a w:=by
 simp only[Region.lexTailB,zH,decide_eq_true_eq]at hB;obtain⟨⟨⟨⟨hsel,hn⟩,hs⟩,hc⟩,hlex⟩:=hB;have htl:(l.take n).length=n:=by simp at hn⊢;omega
 have hdl:(l.drop n).length=l.toArray.size- n:=by simp
 have inv0:HeadInv .any l.toArray n (Array.replicate l.toArray.size false):=
  ⟨by simp,fun j oj _ hl=>(by rw[getD_replicate_false]at hl;cases hl),fun t _ ht=>getD_in (by simpa using ht) (getD_replicate_false _ _)⟩
 have H:=M0 (md:= .any) (g:=l.toArray.size- n) hsel hs hc hn (l.take n) 0 _ a (fun j hj=>by rw[htl]at hj;simp[hj]) (by simpa using htl) inv0 (by rw[htl];exact hlex) h;refine wp_region_any hm ?_;have h2:=vA (Q:=Q) (g:=l.toArray.size- n) (C:=fun w'=>∃u:Ws m w,w'=u.val) (fun listed a' w' hw' hL=>by
  obtain⟨u,rfl⟩:=hw';have h3:=wpAny_of_seq (md:= .any) (Q':=Q) (l.drop n) n listed a' u.val (fun j=>by simp[List.getElem?_drop]) (by rw[hdl];exact hL.1) (hL.2 u);rwa[hdl]at h3) _ _ _ _ ⟨⟨_,(Below.refl m w).drew⟩,rfl⟩ H
 rw[htl,show n+(l.toArray.size- n)=l.toArray.size by omega]at h2;exact h2
theorem I8{id:Int}(h:aS ps id=i):i<ps.length/\(poAt ps i).id=id/\∀j,j<i->(poAt ps j).id≠id:=by
 unfold aS at h
 cases hf:ps.findIdx? (fun p=>p.id==id)with
 |none=>rw[hf]at h;simp only at h;omega
 |some k=>
  rw[hf]at h
  simp only at h
  obtain rfl:k=i:=by omega
  rw[List.findIdx?_eq_some_iff_getElem]at hf
  obtain⟨hi,h1,h2⟩:=hf
  refine⟨hi,by rw[bJ hi];simpa using h1,fun j hj=>?_⟩
  have:=h2 j hj
  rw[bJ (by omega)]
  simpa using this
theorem M1{id:Int}(h:aS ps id<0):∀j,j<ps.length->(poAt ps j).id≠id:=by
 intro j hj e;unfold aS at h
 cases hf:ps.findIdx? (fun p=>p.id==id)with
 |none=>
  rw[List.findIdx?_eq_none_iff]at hf
  have:=hf _ (List.getElem_mem hj)
  rw[bJ hj]at e
  simp[e]at this
 |some k=>rw[hf]at h;simp only at h;omega
theorem Y7(h:kV ps.length ps=true)(i:Nat)(hi:i<ps.length):1<=(poAt ps i).id/\(poAt ps i).id<=65536:=by
 unfold kV at h;simp only[zH,Bool.not_eq_true']at h;have h2:=h.2;by_cases hw:bV (poAt ps i).id 1 65536=true
 ·unfold bV at hw;simpa using hw
 ·have:=aW (n:=ps.length) (f:=fun i=>!bV (poAt ps i).id 1 65536) hi (by simpa using hw);rw[this]at h2
  cases h2
def aCd(ls:List Le)(i:Nat):Bool:=!((leAt ls i).kd==3)
def Y8(t:Int)(ps:List Po)(id:Int):Int:=
 if aX t ps≠0 then aX t ps else if aS ps id<0 then 5 else if anyAt (poAt ps (aS ps id).toNat).n (aCd (poAt ps (aS ps id).toNat).ls)=true then 9 else 0
def VD(t:Int)(ps:List Po)(i:Nat)(rs:List Po):Prop:=
 ∃qs,(aS ps (poAt ps i).up<0->eC ps qs)/\(∀k:Nat,aS ps (poAt ps i).up=k->DX ps k (cE (poAt ps k).n (fE (poAt ps k).ls (poAt ps i).id)).toNat t qs)/\rs=qs.take i++qs.drop (i+1)
def Y9(t:Int)(ps:List Po)(id:Int)(t':Int)(rs:List Po):Prop:=t'=t/\VD t ps (aS ps id).toNat rs
def I9(t:Int)(ps:List Po)(id up z:Int):Int:=
 if aX t ps≠0 then aX t ps else if bV id 1 65536=false then 3 else if aS ps up<0 then 5 else if 0<=aS ps id then 6 else mR (poAt ps (aS ps up).toNat) z
def Q1(t:Int)(ps:List Po)(id up z:Int):Int×Int:=
 if I9 t ps id up z≠0 then(0,0)else jY (poAt ps (aS ps up).toNat) z
def aCe(t:Int)(ps:List Po)(id up z mn mx us co:Int):Int:=
 if I9 t ps id up z≠0 then I9 t ps id up z else xV ps (Q1 t ps id up z).2 mn mx us co
def ZA(ps:List Po)(e:Po)(up:Int)(rs:List Po):Prop:=
 ∃qs ms x' c' ls',eC ps qs/\F5 e qs ms/\rK ⟨e.a,e.l,2,e.id,0⟩ (poAt ms (aS ms up).toNat).ls ls'/\rs=ms.set (aS ms up).toNat (bM (poAt ms (aS ms up).toNat) x' ls'.length c' ls')
theorem M2(w:World):Calls Tryz.prog 42 #[] w fun e w'=>e= .returned (.agg #[.int .i64 8, .int .i64 16, .int .i64 12, .int .i64 3])/\Below w.heap.size w w':=by
 go_enter Tryz.func42,Tryz.ntmps42;go_wp2;refine bodyPost_ret (v:= .agg #[.int .i64 8, .int .i64 16, .int .i64 12, .int .i64 3]) (by simp[results,Tryz.results42,go_sem]) rfl ⟨rfl,?_⟩;exact bl1 w _
theorem Bk.nil(w:World):Bk w none 0 0 []:=⟨⟨rfl,fun i hi=>by omega,fun i hi=>by omega⟩,by omega,by omega⟩
open Go.ChangeShapes Go.WideShapes Go.ChangeAt Go.RowKit Go.Joins
theorem Q2{H:Type}(d:DataW H):1<=Rows.uptoBulk d:=by
 cases d with
 |lit l=>cases l<;>simp[Rows.uptoBulk]
 |nil=>simp[Rows.uptoBulk]
 |ptr d=>simp[Rows.uptoBulk]
 |slice es sp=>simp[Rows.uptoBulk]
 |agg ps=>simp[Rows.uptoBulk]
 |iface t d=>simp[Rows.uptoBulk]
 |map es=>simp[Rows.uptoBulk]
 |held h=>simp[Rows.uptoBulk]
theorem tG{H:Type}{d:DataW H}{l:List (DataW H)}(h:d∈l):Rows.uptoBulk d<=Rows.uptoBulkAll l:=by
 induction l with
 |nil=>cases h
 |cons x r ih=>
  rw[Rows.uptoBulkAll]
  rcases List.mem_cons.1 h with rfl|e
  ·omega
  ·have:=ih e;omega
theorem GA{H:Type}(l:List (DataW H)):l.length<=Rows.uptoBulkAll l:=by
 induction l with
 |nil=>exact Nat.zero_le _
 |cons x r ih=>have:=Q2 x;rw[Rows.uptoBulkAll,List.length_cons];omega
theorem ZB:Tryz.prog.cellsOf 55=5:=by kernel_rfl
theorem VE:Tryz.prog.cellsOf 64=9:=by kernel_rfl
theorem ZC:Tryz.prog.cellsOf 61=4:=by kernel_rfl
theorem VF:Tryz.prog.cellsOf 62=1:=by kernel_rfl
theorem VG:Tryz.prog.cellsOf 22=1:=by kernel_rfl
theorem ZD:Tryz.prog.cellsOf 24=2:=by kernel_rfl
section
variable {H : Type} {enc : TypeId × Value → H} {w : World}
theorem gC{y:Option (DataW H×List MemPlace)}(hy:y.isSome=true)(h:DataW.trod enc Tryz.prog w 0 (fun _=>true) true n 3 [v]=y):∃a:Int,v= .int .i64 a:=by
 obtain⟨y,rfl⟩:=Option.isSome_iff_exists.1 hy;obtain⟨a,e, -⟩:=DataW.trod_int Tryz.underlying3 h;simp at e;exact⟨a,e⟩
theorem cH{α:Type}{xs:List α}{m i:Nat}(h:xs.length=m)(hi:i<m):(xs[i]?).isSome=true:=by
 rw[List.getElem?_eq_getElem (by omega)];rfl
theorem JA{x:DataW H×List MemPlace}(hl:cs.length=5)(h:DataW.trod enc Tryz.prog w 0 (fun _=>true) true n 55 cs=some x):∃e:Le,cs=cL e:=by
 obtain⟨xs,k, -, -, -,hxl,hf⟩:=DataW.trod_struct Tryz.underlying55 h;match cs,hl with
 |[v0,v1,v2,v3,v4],_=>
  have g0:=hf 0 _ rfl
  have g1:=hf 1 _ rfl
  have g2:=hf 2 _ rfl
  have g3:=hf 3 _ rfl
  have y:∀i,i<4->(xs[i]?).isSome=true:=fun i hi=>cH hxl hi
  simp[gA,DG]at g0 g1 g2 g3
  obtain⟨z0,h0⟩:=Option.isSome_iff_exists.1 (y 0 (by omega))
  rw[h0]at g0
  obtain⟨a2,rfl⟩:=gC (y 1 (by omega)) g1
  obtain⟨a3,rfl⟩:=gC (y 2 (by omega)) g2
  obtain⟨a4,rfl⟩:=gC (y 3 (by omega)) g3
  obtain⟨us,k4, -, -, -,hul,hu⟩:=DataW.trod_struct Tryz.underlying53 g0
  have p0:=hu 0 _ rfl
  have p1:=hu 1 _ rfl
  simp[gA]at p0 p1
  obtain⟨a0,rfl⟩:=gC (cH hul (by decide)) p0
  obtain⟨a1,rfl⟩:=gC (cH hul (by decide)) p1
  exact⟨⟨a0,a1,a2,a3,a4⟩,rfl⟩
theorem GB{y:DataW H×List MemPlace}(h:DataW.trod enc Tryz.prog w 0 (fun _=>true) true n 62 [v]=some y):
  ∃(x:Option Addr) (k c:Nat) (ls:List Le),v= .slice x k c/\LS w x k ls/\k<=c/\k<=Rows.uptoBulk y.1:=by
 rcases Deep.open_slice Tryz.underlying62 h with ⟨h0, -⟩|⟨a,len,cap,m,k,D,Pl,h1, -,hl,hm,hmm,hx,hcell⟩
 ·simp at h0;exact⟨none,0,0,[],h0,⟨rfl,fun i hi=>by cases hi⟩,by omega,by omega⟩
 ·simp at h1;subst h1;simp at hmm;have hmm':=hmm.symm;subst hmm';clear hmm;have hd:y.1= .slice ((List.range len).map D) ((List.range (cap- len)).map fun j=>D (len+j)):=by rw[hx]
  have hbk:len<=Rows.uptoBulk y.1:=by
   rw[hd,Rows.uptoBulk];have:=GA ((List.range len).map D);rw[List.length_map,List.length_range]at this;omega
  have each:∀i,i<cap->∃q:Le,∀j,j<5->w.cell? (a.add (i*5+j))=(cL q)[j]?:=fun i hi=>by
   obtain⟨cs',e1,e2⟩:=hcell i hi;rw[ZB]at e1;obtain⟨-,hlen,hc⟩:=World.cells?_some e1;obtain⟨q,rfl⟩:=JA hlen e2;exact⟨q,fun j hj=>by
    have:=hc j hj;rw[Deep.add_add]at this;exact this⟩
  have:Inhabited Le:=⟨K1⟩;obtain⟨Q,hQ⟩:=Deep.choose_lt each;by_cases hn0:len=0
  ·subst hn0;exact⟨some a,0,cap,[],rfl,⟨rfl,fun i hi=>by cases hi⟩,by omega,by omega⟩
  ·have hsp:a.spot=none:=by
    have h0:=hQ 0 (by omega) 0 (by omega);have h1:w.cell? (a.add (0*5+0))=some (.int .i64 (Q 0).a):=h0;have:=World.cell?_spot h1;simpa[Addr.add]using this
   obtain⟨b,o,sp⟩:=a;simp only at hsp;subst hsp;refine⟨some ⟨b,o,none⟩,len,cap,(List.range len).map Q,rfl,⟨by simp,fun i hi=>⟨b,o,rfl,?_⟩⟩,hl,hbk⟩;have hat:leAt ((List.range len).map Q) i=Q i:=by unfold leAt;rw[zF,List.getElem?_map,List.getElem?_range hi];rfl
   rw[hat];have e:∀j,j<5->∀u,(cL (Q i))[j]?=some u->w.cell? ⟨b,o+i*5+j,none⟩=some u:=fun j hj u hu=>by
    have:=hQ i (by omega) j hj;rw[cA,hu,<-Nat.add_assoc]at this;exact this
   exact⟨e 0 (by omega) _ rfl,e 1 (by omega) _ rfl,e 2 (by omega) _ rfl,e 3 (by omega) _ rfl,e 4 (by omega) _ rfl⟩
theorem M3{x:DataW H×List MemPlace}(hl:cs.length=9)(h:DataW.trod enc Tryz.prog w 0 (fun _=>true) true n 64 cs=some x):∃p:Po,cs=cP p/\LS w p.x p.n p.ls/\p.n<=p.c/\p.n<=Rows.uptoBulk x.1:=by
 obtain⟨xs,k, -,hxx, -,hxl,hf⟩:=DataW.trod_struct Tryz.underlying64 h;match cs,hl with
 |[v0,v1,v2,v3,v4,v5,v6,v7,v8],_=>
  have g0:=hf 0 _ rfl
  have g1:=hf 1 _ rfl
  have g2:=hf 2 _ rfl
  have g3:=hf 3 _ rfl
  have g4:=hf 4 _ rfl
  have y:∀i,i<5->(xs[i]?).isSome=true:=fun i hi=>cH hxl hi
  simp[gA,DG,ZC,VF]at g0 g1 g2 g3 g4
  obtain⟨a0,rfl⟩:=gC (y 0 (by omega)) g0
  obtain⟨a1,rfl⟩:=gC (y 1 (by omega)) g1
  obtain⟨z2,h2⟩:=Option.isSome_iff_exists.1 (y 2 (by omega))
  obtain⟨z3,h3⟩:=Option.isSome_iff_exists.1 (y 3 (by omega))
  obtain⟨z4,h4⟩:=Option.isSome_iff_exists.1 (y 4 (by omega))
  rw[h2]at g2
  rw[h3]at g3
  rw[h4]at g4
  obtain⟨us,k4, -, -, -,hul,hu⟩:=DataW.trod_struct Tryz.underlying53 g2
  obtain⟨ts,k5, -, -, -,htl,ht⟩:=DataW.trod_struct Tryz.underlying61 g3
  have p0:=hu 0 _ rfl
  have p1:=hu 1 _ rfl
  have r0:=ht 0 _ rfl
  have r1:=ht 1 _ rfl
  have r2:=ht 2 _ rfl
  have r3:=ht 3 _ rfl
  simp[gA]at p0 p1 r0 r1 r2 r3
  obtain⟨a4,rfl⟩:=gC (cH hul (by decide)) p0
  obtain⟨a5,rfl⟩:=gC (cH hul (by decide)) p1
  obtain⟨a6,rfl⟩:=gC (cH htl (by decide)) r0
  obtain⟨a7,rfl⟩:=gC (cH htl (by decide)) r1
  obtain⟨a8,rfl⟩:=gC (cH htl (by decide)) r2
  obtain⟨a9,rfl⟩:=gC (cH htl (by decide)) r3
  obtain⟨lx,ln,lc,ls,rfl,hLS,hlc,hlb⟩:=GB g4
  refine⟨⟨a0,a1,a4,a5,a6,a7,a8,a9,lx,ln,lc,ls⟩,rfl,hLS,hlc,?_⟩
  have hm:z4.1∈xs.map (·.1):=List.mem_map.2 ⟨z4,List.mem_of_getElem? h4,rfl⟩
  have hb:=tG hm
  have hx1:x.1= .agg (xs.map (·.1)):=by rw[hxx]
  rw[hx1,Rows.uptoBulk]
  show ln<=_
  omega
end
theorem GC{g:Nat->Bool}(h:∀i,i<n->f i=g i):(List.range n).all f=(List.range n).all g:=by
 rw[Bool.eq_iff_iff,List.all_eq_true,List.all_eq_true];exact⟨fun k i hi=>by rw[<-h i (List.mem_range.1 hi)];exact k i hi,fun k i hi=>by rw[h i (List.mem_range.1 hi)];exact k i hi⟩
theorem GD{g:Nat->Bool}(h:∀i,i<n->f i=g i):anyAt n f=anyAt n g:=by
 unfold anyAt;rw[Bool.eq_iff_iff,List.any_eq_true,List.any_eq_true];exact⟨fun⟨i,hi,k⟩=>⟨i,hi,by rw[<-h i (List.mem_range.1 hi)];exact k⟩,fun⟨i,hi,k⟩=>⟨i,hi,by rw[h i (List.mem_range.1 hi)];exact k⟩⟩
def Q3(p q:Po):Prop:=p.id=q.id/\p.up=q.up/\p.a=q.a/\p.l=q.l/\p.mn=q.mn/\p.mx=q.mx/\p.us=q.us/\p.co=q.co
def qE(ps qs:List Po):Prop:=ps.length=qs.length/\∀i,i<ps.length->Q3 (poAt ps i) (poAt qs i)
theorem rJ.head(h:rJ p q):Q3 p q:=⟨h.1,h.2.1,h.2.2.1,h.2.2.2.1,h.2.2.2.2.1,h.2.2.2.2.2.1,h.2.2.2.2.2.2.1,h.2.2.2.2.2.2.2.1⟩
theorem CD(h:qE ps qs)(id:Int):aS qs id=aS ps id:=by
 by_cases h1:aS ps id<0
 ·have h2:=M1 h1;rw[wP (ps:=ps) h2,wP];intro j hj;rw[<-h.1]at hj;rw[<-(h.2 j hj).1];exact h2 j hj
 ·obtain⟨i,hi,hat, -⟩:=bW h1;obtain⟨-,h3,h4⟩:=I8 hat;rw[hat];refine kT (by rw[<-h.1];exact hi) (by rw[<-(h.2 i hi).1];exact h3) (fun j hj=>?_);rw[<-(h.2 j (by omega)).1];exact h4 j hj
theorem Q4(h:qE ps qs):kV qs.length qs=kV ps.length ps:=by
 unfold kV iG;rw[<-h.1];congr 1
 ·refine GC fun i hi=>?_;unfold jE;rw[(h.2 i hi).1,(h.2 (i- 1) (by omega)).1]
 ·congr 1;refine GD fun i hi=>?_;rw[(h.2 i hi).1]
theorem M4(h:qE ps qs):fX qs=fX ps:=by
 unfold fX;rw[<-h.1];refine GC fun i hi=>?_;obtain⟨-,h2,h3,h4, -⟩:=h.2 i hi;unfold lX;rw[h2,h3,h4];congr 2;refine GD fun j hj=>?_;obtain⟨-,g2,g3,g4, -⟩:=h.2 j (by omega);unfold lW;rw[g2,g3,g4]
theorem Q5(h:qE ps qs)(t id:Int)(e:Le):lO t qs id e=lO t ps id e:=by
 unfold lO;rw[CD h];by_cases h1:e.kd=1
 ·rw[if_pos h1,if_pos h1]
 ·rw[if_neg h1,if_neg h1];by_cases h2:e.kd=2
  ·rw[if_pos h2,if_pos h2];by_cases h3:aS ps e.ow<0
   ·rw[if_pos h3,if_pos h3]
   ·rw[if_neg h3,if_neg h3];obtain⟨i,hi,hat, -⟩:=bW h3;rw[hat];obtain⟨-,g2,g3,g4, -⟩:=h.2 i hi;unfold U6;rw[Int.toNat_natCast,g2,g3,g4]
  ·rw[if_neg h2,if_neg h2]
theorem fH(hi:i<ls.length):leAt ls i∈ls:=by
 unfold leAt;rw[zF,List.getElem?_eq_getElem hi];exact List.getElem_mem hi
theorem GE(h:e∈ls):∃i,i<ls.length/\leAt ls i=e:=by
 obtain⟨i,hi,rfl⟩:=List.mem_iff_getElem.1 h;exact⟨i,hi,by unfold leAt;rw[zF,List.getElem?_eq_getElem hi];rfl⟩
theorem wT{id:Int}(hn:ls.length=n):anyAt n (fE ls id)=true↔∃e∈ls,e.kd=2/\e.ow=id:=by
 constructor
 ·intro h;obtain⟨i,hi,hf, -⟩:=F0 h;unfold fE at hf;simp only[zH,beq_iff_eq]at hf;exact⟨_,fH (by omega),hf⟩
 ·rintro⟨e,he,h1,h2⟩;obtain⟨i,hi,rfl⟩:=GE he;refine aW (k:=i) (by rw[<-hn];exact hi) ?_;unfold fE;rw[h1,h2];simp
def kH(ps:List Po):Prop:=∀i,i<ps.length->(poAt ps i).ls.length=(poAt ps i).n
theorem Q6(h:qE ps qs)(hp:kH ps)(hq:kH qs)(h2:∀k,k<ps.length->∀e∈(poAt ps k).ls,e.kd=2->e∈(poAt qs k).ls)(f:Nat):
  ∀p q:Po,Q3 p q->lY ps f p=true->lY qs f q=true:=by
 induction f with
 |zero=>intro p q _ h1;cases h1
 |succ f ih=>
  intro p q hpq h1
  obtain⟨e1,e2, -⟩:=hpq
  unfold lY at h1⊢
  rw[<-e1,<-e2]
  by_cases c1:p.up=0
  ·rw[if_pos c1]
  ·rw[if_neg c1]at h1⊢;rw[CD h];by_cases c2:aS ps p.up<0
   ·rw[if_pos c2]at h1;cases h1
   ·rw[if_neg c2]at h1⊢;obtain⟨i,hi,hat, -⟩:=bW c2;rw[hat]at h1⊢;rw[Int.toNat_natCast]at h1⊢;by_cases c3:anyAt (poAt ps i).n (fE (poAt ps i).ls p.id)=true
    ·rw[if_pos c3]at h1;obtain⟨e,he,k1,k2⟩:=(wT (hp i hi)).1 c3;rw[if_pos ((wT (hq i (by rw[<-h.1];exact hi))).2 ⟨e,h2 i hi e he k1,k1,k2⟩)];exact ih _ _ (h.2 i hi) h1
    ·rw[if_neg c3]at h1;cases h1
theorem wU(hn:p.ls.length=p.n):A8 t ps p=true↔∀e∈p.ls,lO t ps p.id e=true:=by
 unfold A8;rw[List.all_eq_true];constructor
 ·intro h e he;obtain⟨i,hi,rfl⟩:=GE he;exact h i (List.mem_range.2 (by omega))
 ·intro h i hi;exact h _ (fH (by have:=List.mem_range.1 hi;omega))
theorem M5{T:Int}(hc:aX t ps=0)(hT0:0<=T)(hT1:T<=1073741824)(h:qE ps qs)(hp:kH ps)(hq:kH qs)(hn:∀k,k<ps.length->(poAt qs k).n<=32)(hU:∀k,k<ps.length->MJ (lp (poAt qs k).ls) (poAt ps k).a (poAt ps k).l)
 (h2:∀k,k<ps.length->∀e∈(poAt ps k).ls,e.kd=2->e∈(poAt qs k).ls)(hL:∀k,k<ps.length->∀e∈(poAt qs k).ls,lO T ps (poAt ps k).id e=true):aX T qs=0:=by
 obtain⟨h8, -,hi,ht,hpo⟩:=qD hc;refine DS (by rw[<-h.1];exact h8) ?_;have hw:bV T 0 1073741824=true:=by unfold bV;simp[hT0,hT1]
 rw[hw,Q4 h,hi,M4 h,ht];simp only[Bool.true_and];refine tD fun j hj=>?_;have hj2:j<ps.length:=by rw[h.1];exact hj
 obtain⟨p1,p2,p3,p4⟩:=fG (hpo j hj2);obtain⟨e1,e2,e3,e4,e5,e6,e7,e8⟩:=h.2 j hj2;obtain⟨-,hrt, -⟩:=iB p1;unfold jX;have k1:eI (poAt qs j).a (poAt qs j).l (poAt qs j).n (lp (poAt qs j).ls)=0:=by
  unfold eI;rw[if_neg (by have:=hn j hj2;omega),<-e3,<-e4,hrt,QB (hU j hj2)];rfl
 have k3:lY qs qs.length (poAt qs j)=true:=by
  rw[<-h.1];exact Q6 h hp hq h2 _ _ _ (h.2 j hj2) p3
 have k4:A8 T qs (poAt qs j)=true:=(wU (hq j hj)).2 fun e he=>by
  rw[Q5 h,<-e1];exact hL j hj2 e he
 rw[k1,k3,k4,<-e4,<-e5,<-e6,<-e7,<-e8,p2];rfl
theorem Q7(hc:aX t ps=0)(i:Nat)(hi:i<ps.length):MJ (lp (poAt ps i).ls) (poAt ps i).a (poAt ps i).l:=by
 obtain⟨-, -, -, -,hp⟩:=qD hc;exact KX (iB (fG (hp i hi)).1).2.2
theorem Bk.full(h:Bk w x n c ps):kH ps:=fun i hi=>(h.ps.leases i (by rw[<-h.ps.len];exact hi)).2.2.len
theorem eT.full(h:eT w base v ps ps.length):kH ps:=fun i hi=>(h.own i hi).ls.2.1
def UN(ps:List Po):Nat->Nat->Prop
 |0,q=>q<ps.length/\(poAt ps q).up=0
 |d+1,q=>q<ps.length/\(poAt ps q).up≠0/\∃r:Nat,aS ps (poAt ps q).up=r/\(∃e∈(poAt ps r).ls,e.kd=2/\e.ow=(poAt ps q).id)/\UN ps d r
theorem Q8(hF:kH ps)(f:Nat):∀q,q<ps.length->lY ps f (poAt ps q)=true->∃d,UN ps d q:=by
 induction f with
 |zero=>intro q _ h;cases h
 |succ f ih=>
  intro q hq h
  unfold lY at h
  by_cases c1:(poAt ps q).up=0
  ·exact⟨0,hq,c1⟩
  ·rw[if_neg c1]at h;by_cases c2:aS ps (poAt ps q).up<0
   ·rw[if_pos c2]at h;cases h
   ·rw[if_neg c2]at h;obtain⟨r,hr,hat, -⟩:=bW c2;rw[hat,Int.toNat_natCast]at h;by_cases c3:anyAt (poAt ps r).n (fE (poAt ps r).ls (poAt ps q).id)=true
    ·rw[if_pos c3]at h;obtain⟨d,hd⟩:=ih r hr h;exact⟨d+1,hq,c1,r,hat,(wT (hF r hr)).1 c3,hd⟩
    ·rw[if_neg c3]at h;cases h
theorem UN.lt:∀{d q:Nat},UN ps d q->q<ps.length
 |0,_,h=>h.1
 |_+1,_,h=>h.1
theorem Q9(h:kV ps.length ps=true)(i:Nat):∀d,i+d+1<ps.length->(poAt ps i).id<(poAt ps (i+d+1)).id:=by
 unfold kV iG at h;simp only[zH]at h;have hr:=List.all_eq_true.1 h.1;have one:∀k,k+1<ps.length->(poAt ps k).id<(poAt ps (k+1)).id:=fun k hk=>by
  have:=hr (k+1) (List.mem_range.2 hk);unfold jE at this;simpa using this
 intro d;induction d with
 |zero=>intro hd;exact one i hd
 |succ d ih=>
  intro hd
  have h1:=ih (by omega)
  have h2:=one (i+d+1) (by omega)
  rw[show i+(d+1)+1=i+d+1+1 by omega]
  omega
theorem within_at(x lo hi:Int)(t:Bool)(h:bV x lo hi=t)(w:World):Calls Tryz.prog 31 #[.int .i64 x, .int .i64 lo, .int .i64 hi] w fun e w'=>e= .returned (.bool t)/\w'=w:=by
 subst h;exact within_any x lo hi w
theorem GF(t:Int)(p:Po)(x:Option Addr)(n c:Nat)(ps:List Po)(e:Le)(w:World)(hk:e.kd=1):
  Calls Tryz.prog 36 #[.agg #[.int .i64 t, .slice x n c],IZ p,LA e] w fun r w'=>r= .returned (.bool (lO t ps p.id e))/\Below w.heap.size w w':=by
 have hb1:(e.kd==1)=true:=by simpa using hk
 rw[aBx hk];clear hk
 cases hi:bV e.ow 1 65536;all_goals go_enter Tryz.func36,Tryz.ntmps36
 all_goals go_wp2_with (go_at_call 31;refine(within_at e.ow 1 65536 _ hi _).mono ?_;rintro r w1 ⟨rfl,rfl⟩)
 all_goals go_ret
 all_goals exact⟨rfl,(bP w _ _).alloc (by simp;omega) _⟩
theorem GG(t:Int)(p:Po)(x:Option Addr)(n c:Nat)(ps:List Po)(e:Le)(w:World)(hk:e.kd=3)(t0:0<=t)(t1:t<=1073741824):
  Calls Tryz.prog 36 #[.agg #[.int .i64 t, .slice x n c],IZ p,LA e] w fun r w'=>r= .returned (.bool (lO t ps p.id e))/\Below w.heap.size w w':=by
 have hb1:(e.kd==1)=false:=by simp[hk]
 have hb2:(e.kd==2)=false:=by simp[hk]
 have hb3:(e.kd==3)=true:=by simp[hk]
 rw[aBy hk];clear hk
 cases ho:(e.ow==0)
 ·go_enter Tryz.func36,Tryz.ntmps36;go_wp2;go_ret;exact⟨rfl,(bP w _ _).alloc (by simp;omega) _⟩
 ·have hw:(decide (t<e.un)&&decide (e.un<=t+1024))=bV e.un (t+1) (t+1024):=by
   unfold bV;congr 1
  rw[hw]
  cases hu:bV e.un (t+1) (t+1024);all_goals go_enter Tryz.func36,Tryz.ntmps36
  all_goals go_wp2_with fail
  all_goals refine(within_at e.un (t+1) (t+1024) _ hu _).mono ?_
  all_goals rintro r w1 ⟨rfl,rfl⟩
  all_goals go_wp2
  all_goals go_ret
  all_goals exact⟨rfl,(bP w _ _).alloc (by simp;omega) _⟩
theorem GH(t:Int)(p:Po)(x:Option Addr)(n c:Nat)(ps:List Po)(e:Le)(w:World)(h1:e.kd≠1)(h2:e.kd≠2)(h3:e.kd≠3):
  Calls Tryz.prog 36 #[.agg #[.int .i64 t, .slice x n c],IZ p,LA e] w fun r w'=>r= .returned (.bool (lO t ps p.id e))/\Below w.heap.size w w':=by
 have hb1:(e.kd==1)=false:=by simpa using h1
 have hb2:(e.kd==2)=false:=by simpa using h2
 have hb3:(e.kd==3)=false:=by simpa using h3
 rw[aBz h1 h2 h3];clear h1 h2 h3;go_enter Tryz.func36,Tryz.ntmps36;go_wp2;go_ret;exact⟨rfl,(bP w _ _).alloc (by simp;omega) _⟩
theorem GI(t:Int)(p:Po)(x:Option Addr)(n c:Nat)(ps:List Po)(e:Le)(w:World)(hp:kS w x n ps)(hn:n<=64)(hk:e.kd=2):
  Calls Tryz.prog 36 #[.agg #[.int .i64 t, .slice x n c],IZ p,LA e] w fun r w'=>r= .returned (.bool (lO t ps p.id e))/\Below w.heap.size w w':=by
 have hpl:Hid (ps.length=n):=hp.len;have hb1:(e.kd==1)=false:=by simp[hk]
 have hb2:(e.kd==2)=true:=by simp[hk]
 have hk':Hid (e.kd=2):=hk;clear hk;go_enter Tryz.func36,Tryz.ntmps36;go_upto_region 5 with fail
 obtain⟨w0,hw0⟩:∃w0,w0=((w.alloc (QJ t x n c)).alloc (oL p)).alloc (tC e):=⟨_,rfl⟩;rw[<-hw0];have hB0:Below w.heap.size w w0:=by rw[hw0];exact(bP w _ _).alloc (by simp;omega) _
 have hb0:w0.heap[w.heap.size]?=some (QJ t x n c):=by rw[hw0];exact aH _ (aH _ (aB _ rfl))
 have hp0:w0.heap[w.heap.size+1]?=some (oL p):=by rw[hw0];exact aH _ (aB _ (by simp))
 have hq0:w0.heap[w.heap.size+2]?=some (tC e):=by rw[hw0];exact aB _ (by simp)
 clear hw0;obtain⟨kb, -⟩:=aD hb0;obtain⟨kq, -⟩:=aD hq0;obtain⟨kp, -⟩:=aD hp0;go_upto_region 6 with (go_at_call 41;refine(poolAt_any t e.ow x n c ps _ (hp.later hB0) (by omega)).mono ?_;rintro r w1 ⟨rfl,hb1'⟩)
 have hbb1:=aA hb1' hb0;have hbq1:=aA hb1' hq0;have hbp1:=aA hb1' hp0;have hB1:=hB0.trans (hb1'.mono hB0.size);clear hb1' kb kq kp hb0 hq0 hp0 hB0;obtain⟨kb, -⟩:=aD hbb1;obtain⟨kq, -⟩:=aD hbq1;obtain⟨kp, -⟩:=aD hbp1;have g0:=Ws.here (v:= .slice x n c) (kb 1);have g1:=Ws.here (v:= .int .i64 e.a) (kq 0);have g2:=Ws.here (v:= .int .i64 e.l) (kq 1);have g3:=Ws.here (v:= .int .i64 e.un) (kq 4);have g4:=Ws.here (v:= .int .i64 p.id) (kp 0)
 cases hneg:decide (aS ps e.ow<0)
 ·obtain⟨i,hi,hai, -⟩:=bW (ps:=ps) (id:=e.ow) (by simpa using hneg);have hai':Hid (aS ps e.ow=i):=hai;rw[hpl.out]at hi;have hpw:=hp.later hB1;obtain⟨b,o,rfl,c0,c1,c2,c3, -⟩:=hpw.cells i hi;rw[hai];have hge:decide ((i:Int)≥0)=true:=by simp
  clear hai hneg;have e1:=Ws.here c1;have e2:=Ws.here c2;have e3:=Ws.here c3
  cases hup:((poAt ps i).up==p.id)
  ·refine aE w1.heap.size (by kernel_rfl) (by kernel_rfl) ?_;repeat(go_big_quiet_step (fail))
   refine wpQuiet_nil ?_;rintro _ ⟨u,rfl⟩;have hu2:=hB1.trans (u.property.mono hB1.size);generalize u.val=wu at hu2⊢;clear u g0 g1 g2 g3 g4 e1 e2 e3;go_wp2;go_ret;exact⟨aI (by rw[U7 hk'.out hai'.out];unfold U6;rw[hup];rfl),hu2⟩
  ·cases heq:(decide ((poAt ps i).a=e.a)&&decide ((poAt ps i).l=e.l));all_goals refine aE w1.heap.size (by kernel_rfl) (by kernel_rfl) ?_
   all_goals repeat(go_big_quiet_step (fail))
   all_goals refine xP _ _ _ (poAt ps i).a (poAt ps i).l e.a e.l rfl (by rfl) rfl rfl ?_
   all_goals rw[heq]
   all_goals simp only[Act.put,List.setIfInBounds_toArray,List.set_cons_zero,List.set_cons_succ]
   all_goals repeat(go_big_quiet_step (fail))
   all_goals refine wpQuiet_nil ?_
   all_goals rintro _ ⟨u,rfl⟩
   all_goals have hu2:=hB1.trans (u.property.mono hB1.size)
   all_goals generalize u.val=wu at hu2⊢
   all_goals clear u g0 g1 g2 g3 g4 e1 e2 e3
   all_goals go_wp2
   all_goals go_ret
   all_goals exact⟨aI (by rw[U7 hk'.out hai'.out];unfold U6;rw[hup,heq];rfl),hu2⟩
 ·have hai':Hid (aS ps e.ow<0):=by unfold Hid;simpa using hneg
  have hge:decide (aS ps e.ow≥0)=false:=by simp at hneg⊢;omega
  clear hneg;refine aE w1.heap.size (by kernel_rfl) (by kernel_rfl) ?_;repeat(go_big_quiet_step (fail))
  refine wpQuiet_nil ?_;rintro _ ⟨u,rfl⟩;have hu2:=hB1.trans (u.property.mono hB1.size);generalize u.val=wu at hu2⊢;clear u g0 g1 g2 g3 g4;go_wp2;go_ret;exact⟨aI (by rw[XY hk'.out hai'.out]),hu2⟩
theorem BB(t:Int)(p:Po)(x:Option Addr)(n c:Nat)(ps:List Po)(e:Le)(w:World)(hp:kS w x n ps)(hn:n<=64)(t0:0<=t)(t1:t<=1073741824):
  Calls Tryz.prog 36 #[.agg #[.int .i64 t, .slice x n c],IZ p,LA e] w fun r w'=>r= .returned (.bool (lO t ps p.id e))/\Below w.heap.size w w':=by
 by_cases h1:e.kd=1
 ·exact GF t p x n c ps e w h1
 ·by_cases h2:e.kd=2
  ·exact GI t p x n c ps e w hp hn h2
  ·by_cases h3:e.kd=3
   ·exact GG t p x n c ps e w h3 t0 t1
   ·exact GH t p x n c ps e w h1 h2 h3
theorem RA(j:Nat)(f:Nat->Bool):anyAt (j+1) f=(anyAt j f||f j):=by
 unfold anyAt;rw[List.range_succ,List.any_append];simp
theorem JB(t:Int)(x:Option Addr)(n c:Nat)(ps:List Po)(p:Po)(w:World)(hp:kS w x n ps)(hn:n<=64):
  Calls Tryz.prog 35 #[.agg #[.int .i64 t, .slice x n c],IZ p] w fun e w'=>e= .returned (.bool (lY ps (n+1) p))/\Below w.heap.size w w':=by
 have hpl:Hid (ps.length=n):=hp.len;go_enter Tryz.func35,Tryz.ntmps35;go_upto_region 1 with fail
 obtain⟨w0,hw0⟩:∃w0,w0=(w.alloc (.cells #[.int .i64 t, .slice x n c] 24)).alloc (oL p):=⟨_,rfl⟩;rw[<-hw0];have hB0:Below w.heap.size w w0:=by rw[hw0];exact bP w _ _
 have hb0:w0.heap[w.heap.size]?=some (.cells #[.int .i64 t, .slice x n c] 24):=by rw[hw0];exact aH _ (aB _ rfl)
 have hq0:w0.heap[w.heap.size+1]?=some (oL p):=by rw[hw0];exact aB _ (by simp)
 clear hw0;go_wp2;go_loopw [5] (fun i wr=>∃(k:Nat) (q:Po),k<=n+1/\i= .int .i64 k/\Hid (lY ps (n+1) p=lY ps (n+1- k) q)/\wr.heap[w.heap.size]?=some (.cells #[.int .i64 t, .slice x n c] 24)/\wr.heap[w.heap.size+1]?=some (oL q)/\Below w.heap.size w wr) (fun i _=>n+1- (intOf i).toNat)
 case atStart=>exact⟨0,p,by omega,rfl,rfl,hb0,hq0,hB0⟩
 case round=>
  obtain⟨k,q,hk,rfl,hup,hbb,hbq,hB⟩:=hrel
  clear hb0 hq0 hB0
  have kb1:=aO hbb 1 rfl
  by_cases hlt:k<=n
  ·have hlt':Hid (k<=n):=hlt;obtain⟨f,hf⟩:∃f:Nat,Hid (n+1- k=f+1):=⟨n- k,by unfold Hid;omega⟩;have hkn:(k:Int)<=n:=by omega
   have hkd:decide ((k:Int)<=n)=true:=by simpa using hlt
   have kb0:=aO hbb 0 rfl;obtain⟨kq0,kq1⟩:=aZ hbq rfl rfl;clear hlt;by_cases hu:q.up=0
   ·have hu':Hid (q.up=0):=hu;have hub:(q.up==0)=true:=by simpa using hu
    go_wp2;go_ret;exact⟨aI (by rw[hup.out,hf.out,aBw hu'.out]),hB⟩
   ·have hu':Hid (q.up≠0):=hu;have hub:(q.up==0)=false:=by simpa using hu
    clear hu;obtain⟨ia,hia⟩:∃ia,Hid (ia=aS ps q.up):=⟨_,rfl⟩;have hpc:=poolAt_any t q.up x n c ps wr (hp.later hB) (by omega);rw[<-hia.out]at hpc;go_wp2_with fail;refine hpc.mono ?_;rintro e w1 ⟨rfl,hb1⟩;have hbb1:=aA hb1 hbb;have hbq1:=aA hb1 hbq;have hB1:=hB.trans (hb1.mono hB.size);clear hb1 kb0 kb1 kq0 kq1 hbb hbq hB hpc;by_cases hneg:ia<0
    ·have hai':Hid (aS ps q.up<0):=by unfold Hid;rw[<-hia.out];exact hneg
     clear hia;go_wp2;go_ret;exact⟨aI (by rw[hup.out,hf.out,K7 hu'.out hai'.out]),hB1⟩
    ·obtain⟨i,hi,hai, -⟩:=bW (ps:=ps) (id:=q.up) (by rw[<-hia.out];exact hneg);have hai':Hid (aS ps q.up=i):=hai;obtain rfl:ia=(i:Int):=hia.out.trans hai;rw[hpl.out]at hi;have hpw:=hp.later hB1;obtain⟨b,o,rfl,c0,c1,c2,c3,c4,c5,c6,c7,c8⟩:=hpw.cells i hi;obtain⟨hl1,hl2,hl3⟩:=hpw.leases i hi;have hge:decide ((i:Int)<0)=false:=by simp
     have hi0:(0:Int)<=i:=by omega
     have hin:(i:Int)<n:=by omega
     have hlen:Hid ((poAt ps i).ls.length=(poAt ps i).n):=hl3.len;clear hai hneg hia;have kb1:=aO hbb1 1 rfl;have kq0:=aO hbq1 0 rfl;go_wp2;go_loopw [8,7] (fun kk s ws=>∃j:Nat,kk= .int .i64 j/\j<=(poAt ps i).n/\s= .bool (anyAt j (fE (poAt ps i).ls q.id))/\Below w1.heap.size w1 ws) (fun kk _ _=>(poAt ps i).n- (intOf kk).toNat)
     case atStart=>exact⟨0,rfl,by omega,rfl,zD⟩
     case round=>
      obtain⟨j,rfl,hjn,rfl,hBs⟩:=hrel
      have kb1':=aF hBs kb1
      have kq0':=aF hBs kq0
      have c8':=aF hBs c8
      have hstep:Hid (anyAt (j+1) (fE (poAt ps i).ls q.id)=(anyAt j (fE (poAt ps i).ls q.id)||fE (poAt ps i).ls q.id j)):=RA j _
      obtain⟨B,hB'⟩:∃B,Hid (B=anyAt j (fE (poAt ps i).ls q.id)):=⟨_,rfl⟩
      rw[<-hB'.out]
      by_cases hltj:j<(poAt ps i).n
      ·obtain⟨b2,o2,hx2,e0,e1,e2,e3,e4⟩:=(hl3.later hBs).cells j hltj;rw[hx2]at c8';have hjn2:(j:Int)<(poAt ps i).n:=by omega
       have hj0:(0:Int)<=j:=by omega
       have hltjh:Hid (j<(poAt ps i).n):=hltj;clear hltj;go_upto_region 14 with fail
       obtain⟨w2,hw2⟩:∃w2,w2=wr.alloc (tC (leAt (poAt ps i).ls j)):=⟨_,rfl⟩;rw[show wr.alloc (.cells #[.int .i64 (leAt (poAt ps i).ls j).a, .int .i64 (leAt (poAt ps i).ls j).l, .int .i64 (leAt (poAt ps i).ls j).kd, .int .i64 (leAt (poAt ps i).ls j).ow, .int .i64 (leAt (poAt ps i).ls j).un] 55)=w2 from hw2.symm];have hB2:Below wr.heap.size wr w2:=by rw[hw2];exact bl1 _ _
       have hv2:w2.heap[wr.heap.size]?=some (tC (leAt (poAt ps i).ls j)):=by rw[hw2];exact aB _ rfl
       have hBt:=hBs.trans (hB2.mono hBs.size);have kq2:=aF hB2 kq0';clear hw2 hB2 e0 e1 e2 e3 e4 kb1' kq0' c8';have v2:=aO hv2 2 rfl;have v3:=aO hv2 3 rfl;have hst:Hid (∀r,r=(B||(((leAt (poAt ps i).ls j).kd==2)&&((leAt (poAt ps i).ls j).ow==q.id)))->Value.bool r= .bool (anyAt (j+1) (fE (poAt ps i).ls q.id))):=fun r hr=>by
        rw[hr,hstep.out,<-hB'.out];rfl
       clear hstep hB'
       cases B with
       |true=>
        go_wp2
        go_roundw
        case rel=>exact⟨j+1,by go_num,hltjh.out,hst.out true rfl,hBt⟩
        case measure=>have:=hltjh.out;simp[intOf];omega
       |false=>
        cases hk2:((leAt (poAt ps i).ls j).kd==2)with
        |false=>
         go_wp2
         go_roundw
         case rel=>exact⟨j+1,by go_num,hltjh.out,hst.out false (by rw[hk2];rfl),hBt⟩
         case measure=>have:=hltjh.out;simp[intOf];omega
        |true=>
         cases ho2:((leAt (poAt ps i).ls j).ow==q.id)with
         |false=>
          go_wp2
          go_roundw
          case rel=>exact⟨j+1,by go_num,hltjh.out,hst.out false (by rw[hk2,ho2];rfl),hBt⟩
          case measure=>have:=hltjh.out;simp[intOf];omega
         |true=>
          go_wp2
          go_roundw
          case rel=>exact⟨j+1,by go_num,hltjh.out,hst.out true (by rw[hk2,ho2];rfl),hBt⟩
          case measure=>have:=hltjh.out;simp[intOf];omega
      ·have hne:¬(j:Int)<(poAt ps i).n:=by omega
       have hje:Hid (j=(poAt ps i).n):=by unfold Hid;omega
       have hBe:Hid (B=anyAt (poAt ps i).n (fE (poAt ps i).ls q.id)):=by
        unfold Hid;rw[hB'.out,hje.out]
       have hbb2:=aA hBs hbb1;have hbq2:=aA hBs hbq1;have hu2:=hB1.trans (hBs.mono hB1.size);have d0:=aF hBs c0;have d1:=aF hBs c1;have d2:=aF hBs c2;have d3:=aF hBs c3;have d4:=aF hBs c4;have d5:=aF hBs c5;have d6:=aF hBs c6;have d7:=aF hBs c7;obtain⟨kq,fq⟩:=aD hbq2;clear hltj hstep hB'
       cases B with
       |false=>
        go_wp2
        go_ret
        exact⟨aI (by rw[hup.out,hf.out,QI hu'.out hai'.out hBe.out.symm]),hu2⟩
       |true=>
        go_wp2
        go_roundw
        case rel=>exact⟨k+1,poAt ps i,by have:=hlt'.out;omega,by go_num,by
         unfold Hid;rw[hup.out,hf.out,K8 hu'.out hai'.out hBe.out.symm];congr 1;have:=hf.out;omega,(B8 (poAt ps i) (by omega)).trans hbb2,K9 (poAt ps i) hbq2,B9 (poAt ps i) hu2 (by omega)⟩
        case measure=>have:=hlt'.out;simp[intOf];omega
  ·have hne:¬(k:Int)<=n:=by omega
   have hkd:decide ((k:Int)<=n)=false:=by simpa using hlt
   have hke:Hid (n+1- k=0):=by unfold Hid;omega
   clear hlt;go_wp2;go_ret;exact⟨aI (by rw[hup.out,hke.out];rfl),hB⟩
theorem tH:∀(n:Nat) (l:List Nat),l.Nodup->(∀x∈l,x<n)->l.length<=n
 |0,l,_,h=>by
  match l,h with
  |[],_=>exact zE
  |x::r,h=>exact absurd (h x (by simp)) (by omega)
 |n+1,l,hn,h=>by
  by_cases hm:n∈l
  ·have h1:=tH n (l.erase n) (hn.erase n) (fun x hx=>by
    have hx1:=h x (List.mem_of_mem_erase hx);have hx2:x≠n:=fun e=>by
     subst e;exact(List.Nodup.not_mem_erase hn) hx
    omega)
   rw[List.length_erase_of_mem hm]at h1;omega
  ·have h1:=tH n l hn (fun x hx=>by
    have hx1:=h x hx;have hx2:x≠n:=fun e=>hm (e▸hx);omega)
   omega
theorem LD:∀(d e q:Nat),UN ps d q->UN ps e q->d=e
 |0,0,_,_,_=>rfl
 |0,e+1,q,h,g=>absurd h.2 g.2.1
 |d+1,0,q,h,g=>absurd g.2 h.2.1
 |d+1,e+1,q,h,g=>by
  obtain⟨-, -,r,h1, -,h2⟩:=h;obtain⟨-, -,s,g1, -,g2⟩:=g;have:r=s:=by omega
  subst this;rw[LD d e r h2 g2]
theorem GJ:∀(d q:Nat),UN ps d q->∃l:List Nat,l.length=d+1/\l.Nodup/\∀x∈l,x<ps.length/\∃e,e<=d/\UN ps e x
 |0,q,h=>⟨[q],rfl,by simp,fun x hx=>by
  obtain rfl:x=q:=by simpa using hx
  exact⟨h.1,0,zE,h⟩⟩
 |d+1,q,h=>by
  have hq:=h;obtain⟨h0, -,r, -, -,h2⟩:=h;obtain⟨l,l1,l2,l3⟩:=GJ d r h2;refine⟨q::l,by rw[List.length_cons,l1],List.nodup_cons.2 ⟨fun hm=>?_,l2⟩,fun x hx=>?_⟩
  ·obtain⟨-,e,he,hd⟩:=l3 q hm;have:=LD _ _ _ hq hd;omega
  ·rcases List.mem_cons.1 hx with rfl|hx
   ·exact⟨h0,d+1,zE,hq⟩
   ·obtain⟨x1,e,he,hd⟩:=l3 x hx;exact⟨x1,e,by omega,hd⟩
theorem RC{q:Nat}(h:UN ps d q):d<ps.length:=by
 obtain⟨l,l1,l2,l3⟩:=GJ d q h;have:=tH ps.length l l2 (fun x hx=>(l3 x hx).1);omega
theorem tI(hF:kH ps):∀(d f q:Nat),UN ps d q->d<f->lY ps f (poAt ps q)=true
 |0,f+1,q,h,_=>by unfold lY;rw[if_pos h.2]
 |d+1,f+1,q,h,hf=>by
  obtain⟨-,h1,r,h2,h3,h4⟩:=h;have hr:=h4.lt;unfold lY;rw[if_neg h1,h2,if_neg (by omega),Int.toNat_natCast,if_pos ((wT (hF r hr)).2 h3)];exact tI hF d f r h4 (by omega)
theorem LE(hF:kH ps){q:Nat}(hq:q<ps.length):lY ps (ps.length+1) (poAt ps q)=lY ps ps.length (poAt ps q):=by
 cases h:lY ps (ps.length+1) (poAt ps q)with
 |true=>
  obtain⟨d,hd⟩:=Q8 hF _ q hq h
  exact(tI hF d _ q hd (RC hd)).symm
 |false=>
  cases h2:lY ps ps.length (poAt ps q)with
  |false=>rfl
  |true=>
   obtain⟨d,hd⟩:=Q8 hF _ q hq h2
   rw[tI hF d _ q hd (by have:=RC hd;omega)]at h
   cases h
def JC(ps:List Po)(j:Nat):Prop:=bV (poAt ps j).id 1 65536=true/\(j=0\/(poAt ps (j- 1)).id<(poAt ps j).id)/\eI (poAt ps j).a (poAt ps j).l (poAt ps j).n (lp (poAt ps j).ls)=0/\dB (poAt ps j).mn (poAt ps j).mx (poAt ps j).us (poAt ps j).co (poAt ps j).l=true
def JD(t:Int)(ps:List Po)(j:Nat):Prop:=lY ps (ps.length+1) (poAt ps j)=true/\(∀k,k<(poAt ps j).n->lO t ps (poAt ps j).id (leAt (poAt ps j).ls k)=true)/\∀m,m<j->((poAt ps j).up=0/\(poAt ps m).up=0)->eD (poAt ps j).a (poAt ps j).l (poAt ps m).a (poAt ps m).l=false
theorem ZE(h:ps.length<=8):aX t ps=0\/aX t ps=1:=by
 unfold aX;rw[if_neg (by omega)];split
 ·exact .inl rfl
 ·exact .inr rfl
theorem rL:lX ps j=true↔∀m,m<j->((poAt ps j).up=0/\(poAt ps m).up=0)->eD (poAt ps j).a (poAt ps j).l (poAt ps m).a (poAt ps m).l=false:=by
 constructor
 ·intro h m hm hu
  cases hx:eD (poAt ps j).a (poAt ps j).l (poAt ps m).a (poAt ps m).l with
  |false=>rfl
  |true=>
   have hy:anyAt j (lW ps (poAt ps j).a (poAt ps j).l)=true:=aW hm (by unfold lW;rw[hu.2,nB,hx];rfl)
   unfold lX at h
   rw[hu.1,hy]at h
   cases h
 ·intro h;unfold lX
  cases hu:((poAt ps j).up==0)with
  |false=>rfl
  |true=>
   have hn:anyAt j (lW ps (poAt ps j).a (poAt ps j).l)=false:=dD fun m hm=>by
    unfold lW
    cases hv:((poAt ps m).up==0)with
    |false=>rfl
    |true=>
     rw[nB,h m hm ⟨by simpa using hu,by simpa using hv⟩]
     rfl
   rw[hn]
   rfl
theorem RD(hF:kH ps)(h8:ps.length<=8):aX t ps=0↔bV t 0 1073741824=true/\∀j,j<ps.length->JC ps j/\JD t ps j:=by
 constructor
 ·intro h;obtain⟨-,ht,hi,htop,hp⟩:=qD h;refine⟨by unfold bV;simp[ht.1,ht.2],fun j hj=>?_⟩;obtain⟨p1,p2,p3,p4⟩:=fG (hp j hj);refine⟨⟨?_,?_,p1,p2⟩,?_,fun k hk=>?_,?_⟩
  ·have:=Y7 hi j hj;unfold bV;simp[this.1,this.2]
  ·cases j with
   |zero=>exact .inl rfl
   |succ j=>
    have:=Q9 hi j 0 (by omega)
    exact .inr this
  ·rw[LE hF hj];exact p3
  ·exact(wU (hF j hj)).1 p4 _ (fH (by rw[hF j hj];exact hk))
  ·unfold fX at htop;exact rL.1 (List.all_eq_true.1 htop j (List.mem_range.2 hj))
 ·rintro⟨ht,h⟩;refine DS h8 ?_;have hi:kV ps.length ps=true:=by
   unfold kV;have h1:iG ps=true:=IX fun j hj=>by
    unfold jE;rcases(h j hj).1.2.1 with c|c
    ·simp[c]
    ·simp[c]
   have h2:anyAt ps.length (fun i=>!bV (poAt ps i).id 1 65536)=false:=dD fun j hj=>by rw[(h j hj).1.1];rfl
   rw[h1,h2];rfl
  have htp:fX ps=true:=FY fun j hj=>rL.2 (h j hj).2.2.2;have hps:lZ t ps=true:=tD fun j hj=>by
   obtain⟨⟨-, -,r3,r4⟩,s1,s2, -⟩:=h j hj;rw[LE hF hj]at s1;have s3:A8 t ps (poAt ps j)=true:=LB s2;unfold jX;rw[r3,r4,s1,s3];rfl
  rw[ht,hi,htp,hps];rfl
def VH(md:Region.Mode)(ops:Array Oper)(n:Nat):Bool:=
 (List.range ops.size).all fun t=>decide (t<=n)||(List.range t).any fun s=>decide (n<=s)&&Region.waitsFor md ops t s
theorem CE{md:Region.Mode}(hs:Region.sinkB md ops n=true)(hc:VH md ops n=true)(inv:HeadInv md ops n listed):
  ∀(d i:Nat),n- i=d->i<n->listed.getD i true=false->∀t,n<=t->t∉Region.ready md ops listed:=by
 intro d;induction d using Nat.strongRecOn with
 |_ d ih=>
  intro i hd hi hun t ht hr
  obtain⟨_,ot,hot,hall⟩:=mem_ready.1 hr
  have htlt:t<ops.size:=(zG hot)
  by_cases htn:t=n
  ·subst htn;have h1:=List.all_eq_true.1 hs i (List.mem_range.2 hi);obtain⟨j,hj,hj2⟩:=List.any_eq_true.1 h1;simp only[zH,decide_eq_true_eq]at hj2;obtain⟨oj,hoj,e,he,hb,hon⟩:=Region.waitsFor_spec hj2.2;have hjle:j<=t:=by have:=List.mem_range.1 hj;omega
   by_cases hjt:j=t
   ·subst hjt;have:oj=ot:=Option.some.inj (hoj.symm.trans hot);subst this;have h2:=hall e he hb;rw[hon,getD_both hun]at h2
    cases h2
   ·cases hl:listed.getD j false with
    |true=>
     have h2:=inv.closed j oj hoj hl e he hb
     rw[hon,getD_both hun]at h2
     cases h2
    |false=>
     have hjs:j<listed.size:=by rw[inv.size];omega
     exact ih (t- j) (by omega) j rfl (by omega) (getD_in hjs hl) t (zE) hr
  ·have h1:=List.all_eq_true.1 hc t (List.mem_range.2 htlt);simp only[Bool.or_eq_true,decide_eq_true_eq]at h1;rcases h1 with h1|h1
   ·omega
   ·obtain⟨s,hs1,hs2⟩:=List.any_eq_true.1 h1;simp only[zH,decide_eq_true_eq]at hs2;have hst:=List.mem_range.1 hs1;obtain⟨o',ho',e,he,hb,hon⟩:=Region.waitsFor_spec hs2.2;have:o'=ot:=Option.some.inj (ho'.symm.trans hot);subst this;have h2:=hall e he hb;rw[hon,getD_both (inv.tail s hs2.1 (by omega))]at h2
    cases h2
theorem M6{md:Region.Mode}{L:Array Bool->Act->Prop}(hi:ops[i]?=some oi)(hsel:∀(j:Nat) (o:Oper) cs b,ops[j]?=some o->o.op≠ .select cs b)
 (hs:Region.sinkB md ops n=true)(hc:VH md ops n=true)(hin:i<n)(hL:∀listed a,L listed a->∀j∈Region.ready md ops listed,n<=j)(f:Nat):
  ∀(listed:Array Bool) (a:Act),HeadInv md ops n listed->(∀j oj,ops[j]?=some oj->j≠i->listed.getD j true=false->(∀e∈oj.after,Region.binds md e=true->e.on≠i)->oi.apart ops oj=true)->
   i∈Region.ready md ops listed->YieldsIn P ops C oi v a->uZ P md ops C n L f (listed.setIfInBounds i true) (a.put oi.dst v)->uZ P md ops C n L (f+1) listed a:=by
 induction f with
 |zero=>
  intro listed a inv hfree hr hy H
  refine⟨List.ne_nil_of_mem hr,fun j hj=>?_⟩
  have hjn:j<n:=Nat.lt_of_not_le fun h=>CE hs hc inv _ i rfl hin (mem_ready.1 hr).1 j h hj
  refine⟨hjn,?_⟩
  by_cases e:j=i
  ·subst e;exact hy.qOp hi H
  ·exact absurd (hL _ _ H j (ready_mono hj e)) (by omega)
 |succ f ih=>
  intro listed a inv hfree hr hy H
  refine⟨List.ne_nil_of_mem hr,fun j hj=>?_⟩
  have hjn:j<n:=Nat.lt_of_not_le fun h=>CE hs hc inv _ i rfl hin (mem_ready.1 hr).1 j h hj
  refine⟨hjn,?_⟩
  by_cases e:j=i
  ·subst e;exact hy.qOp hi H
  obtain⟨hun,oj,hoj,hall⟩:=mem_ready.1 hj
  have hno:∀x∈oj.after,Region.binds md x=true->x.on≠i:=fun x hx hb he=>by
   have h1:=hall x hx hb;rw[he,getD_both (mem_ready.1 hr).1]at h1
   cases h1
  have h2:=qOp_put hoj (hfree j oj hoj e hun hno) (fun cs b=>hsel i oi cs b hi) (fun cs b=>hsel j oj cs b hoj) hy (H.2 j (ready_mono hj e)).2
  refine qOp_mono (fun a' h3=>ih _ a' (inv.set hj hjn) (fun k ok hk hki hku=>?_) (ready_mono hr (Ne.symm e)) h3.1 ?_) h2
  ·refine hfree k ok hk hki ?_;by_cases hjk:j=k
   ·subst hjk;exact hun
   ·rw[getD_set_ne true hjk]at hku;exact hku
  ·rw[Array.setIfInBounds_comm _ _ e];exact h3.2
def doneTo:Nat->Nat->Array Bool->Array Bool
 |0,_,listed=>listed
 |f+1,k,listed=>doneTo f (k+1) (listed.setIfInBounds k true)
def LF(md:Region.Mode)(ops:Array Oper):Nat->Nat->Array Bool->Bool
 |0,_,_=>true
 |f+1,k,listed=>(Region.ready md ops listed).contains k&&Region.free md ops listed k&&LF md ops f (k+1) (listed.setIfInBounds k true)
def LG(md:Region.Mode)(ops:Array Oper):Nat->Nat->Array Bool->Bool
 |0,_,_=>true
 |g+1,k,listed=>decide (Region.ready md ops listed=[k])&&LG md ops g (k+1) (listed.setIfInBounds k true)
theorem RE{md:Region.Mode}{K:Act->Prop}(hsel:Region.noSelect ops=true)(hs:Region.sinkB md ops n=true)(hc:VH md ops n=true)
 (hD:∀j∈Region.ready md ops D,n<=j)(l:List Oper):
  ∀(k:Nat) (listed:Array Bool) (a:Act),(∀j,j<l.length->l[j]?=ops[k+j]?)->k+l.length=n->HeadInv md ops n listed->LF md ops l.length k listed=true->doneTo l.length k listed=D->wpQuiet P ops C K l a->
   uZ P md ops C n (fun listed' a'=>listed'=D/\K a') l.length listed a:=by
 induction l with
 |nil=>
  intro k listed a _ hk _ hB hd h
  exact⟨hd,h⟩
 |cons o l ih=>
  intro k listed a hl hk inv hB hd h
  have h0:ops[k]?=some o:=by simpa using(hl 0 (by simp)).symm
  simp only[List.length_cons,LF,zH]at hB
  have hkn:k<n:=by simp only[List.length_cons]at hk;omega
  have hr:k∈Region.ready md ops listed:=by simpa using hB.1.1
  have hq:qOp P ops C k (wpQuiet P ops C K l) a:=by unfold qOp;simp only[h0];exact h
  obtain⟨v,hy,hK⟩:=yieldsIn_of_qOp h0 hq
  refine M6 h0 (Region.noSelect_spec hsel) hs hc hkn (fun _ _ hL=>by rw[hL.1];exact hD) l.length listed a inv (Region.free_spec h0 hB.1.2) hr hy ?_
  exact ih (k+1) _ _ (fun j hj=>by have:=hl (j+1) (by simp;omega);simpa[Nat.add_assoc,Nat.add_comm 1 j]using this) (by simp only[List.length_cons]at hk;omega) (inv.set hr hkn) hB.2 hd hK
def GK(P:Program)(ops:Array Oper)(g:Nat)(D:Array Bool)(Q:Exit->Act->World->Prop):Exit->Act->World->Prop
 | .normal,a,w=>wpAny P .any ops Q g D a w
 | .exit i,a,w=>Q (.exit i) a w
 | .goto i,a,w=>Q (.goto i) a w
 | .ret,a,w=>Q .ret a w
 | .panic c,a,w=>Q (.panic c) a w
 | .outgrown,a,w=>Q .outgrown a w
theorem rM(h:wpAny P .any ops Q g D a w):GK P ops g D Q .normal a w:=h
theorem M7{K:Act->World->Prop}(h:o.wp P a w K (GK P ops g D Q)):o.wp P a w K Q:=by
 unfold Oper.wp at*;generalize(execOp a.eval o).run P w=r at*
 cases r with
 |ok n w'=>
  cases n<;>simp only[Oper.upon]at h⊢<;>
   first
    |exact h
    |exact Calls.mono h (fun e w'' he=>by cases e<;>exact he)
 |halt x w'=>cases x<;>simp only[Oper.upon]at h⊢<;>exact h
theorem CF:∀(l:List Oper) (k:Nat) (listed:Array Bool) (a:Act) (w:World),(∀j,j<l.length->l[j]?=ops[k+j]?)->
  LG .any ops l.length k listed=true->doneTo l.length k listed=D->wpList P ops (GK P ops g D Q) l a w->wpAny P .any ops Q (l.length+g) listed a w
 |[],_,_,_,_,_,_,hd,h=>by
  subst hd;rw[List.length_nil,Nat.zero_add];exact h
 |o::l,k,listed,a,w,hl,hB,hd,h=>by
  have h0:ops[k]?=some o:=by simpa using(hl 0 (by simp)).symm
  simp only[List.length_cons,LG,zH,decide_eq_true_eq]at hB;rw[List.length_cons,show l.length+1+g=(l.length+g)+1 by omega];refine⟨fun h1=>(by rw[hB.1]at h1;cases h1),fun i hi=>?_⟩;rw[hB.1]at hi;have hik:i=k:=by simpa using hi
  subst hik;have hw:wpOp P ops Q i (wpList P ops (GK P ops g D Q) l) a w:=by
   unfold wpOp;simp only[h0];unfold wpList at h;by_cases hg:Region.wanted o (yielded ops a.tmps)=true
   ·rw[if_pos hg]at h⊢;exact h.imp M7 id
   ·rw[if_neg hg]at h⊢;exact h
  exact wpOp_mono (fun a' w' h'=>CF l (i+1) _ a' w' (fun j hj=>by have:=hl (j+1) (by simp;omega);simpa[Nat.add_assoc,Nat.add_comm 1 j]using this) hB.2 hd h') hw
def aCf(ops:Array Oper)(n k:Nat):Bool:=
 Region.noSelect ops&&decide (n<=k)&&decide (k<=ops.size)&&Region.sinkB .any ops n&&VH .any ops n&&LF .any ops n 0 (Array.replicate ops.size false)&&
  (Region.ready .any ops (doneTo n 0 (Array.replicate ops.size false))).all (fun j=>decide (n<=j))&&LG .any ops (k- n) n (doneTo n 0 (Array.replicate ops.size false))
theorem pK{id:Nat}(m n k:Nat)(hm:P.follows .mixedOrders=true)(hB:aCf l.toArray n k=true)
 (h:wpQuiet P l.toArray (fun w'=>∃u:Ws m w,w'=u.val) (fun a'=>∀u:Ws m w,wpList P l.toArray (GK P l.toArray (l.length- k) (doneTo (k- n) n (doneTo n 0 (Array.replicate l.toArray.size false))) Q) ((l.drop n).take (k- n)) a' u.val) (l.take n) a):(Code.region id l.toArray true).wp P Q a w:=by
 simp only[aCf,zH,decide_eq_true_eq]at hB;obtain⟨⟨⟨⟨⟨⟨⟨hsel,hnk⟩,hk⟩,hs⟩,hc⟩,hlex⟩,hD⟩,hseq⟩:=hB;have hk':k<=l.length:=by simpa using hk
 have htl:(l.take n).length=n:=by simp;omega
 have hml:((l.drop n).take (k- n)).length=k- n:=by simp;omega
 have hD':∀j∈Region.ready .any l.toArray (doneTo n 0 (Array.replicate l.toArray.size false)),n<=j:=fun j hj=>by simpa using List.all_eq_true.1 hD j hj
 have inv0:HeadInv .any l.toArray n (Array.replicate l.toArray.size false):=
  ⟨by simp,fun j oj _ hl=>(by rw[getD_replicate_false]at hl;cases hl),fun t _ ht=>getD_in (by simpa using ht) (getD_replicate_false _ _)⟩
 have H:=RE (md:= .any) hsel hs hc hD' (l.take n) 0 _ a (fun j hj=>by rw[htl]at hj;simp[hj]) (by simpa using htl) inv0 (by rw[htl];exact hlex) (by rw[htl]) h;refine wp_region_any hm ?_;have h2:=vA (Q:=Q) (g:=l.toArray.size- n) (C:=fun w'=>∃u:Ws m w,w'=u.val) (fun listed a' w' hw' hL=>by
  obtain⟨u,rfl⟩:=hw';obtain⟨rfl,hL2⟩:=hL;have h3:=CF (Q:=Q) ((l.drop n).take (k- n)) n _ a' u.val (fun j hj=>by rw[hml]at hj;simp[List.getElem?_drop,hj]) (by rw[hml];exact hseq) (by rw[hml]) (hL2 u);rw[hml]at h3;rwa[show k- n+(l.length- k)=l.toArray.size- n by simp;omega]at h3) _ _ _ _ ⟨⟨_,(Below.refl m w).drew⟩,rfl⟩ H
 rw[htl,show n+(l.toArray.size- n)=l.toArray.size by simp;omega]at h2;exact h2
end Go.Proofs.YtkgeoeglidnnnaaGreatDoor
