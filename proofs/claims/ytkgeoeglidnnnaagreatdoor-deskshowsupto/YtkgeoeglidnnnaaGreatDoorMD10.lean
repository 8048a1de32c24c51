/- A part of the proof. -/
import Derived.Test.YtkgeoeglidnnnaaGreatDoorMD09
set_option maxRecDepth 100000
set_option maxHeartbeats 20000000
namespace Go.Proofs.YtkgeoeglidnnnaaGreatDoor
variable {ls ms es : List (Int × Int)} {a y vid : Int} {b c k n i p ln lc rn rc sn sc base g base' cap o : Nat} {t : TypeId} {vs fs us : List Vn} {w W W' w' w0 w2 : World} {x lx rx sx : Option Addr} {v u vV vK : Value} {rs : List Rg} {ss : List Sb} {cs : Array Value} {fr : Nat × Nat} {ad : Addr} {e : Vn}
open Go.RowKit Go.Shelf
theorem N8(x:Option Addr)(n c:Nat)(vs:List Vn)(lx:Option Addr)(ln lc:Nat)(id:Int)(w:World)(hp:VS w x n vs)(hn:n<=1048576):
  Calls Tryz.prog 15 #[.agg #[.slice x n c, .slice lx ln lc], .int .i64 id] w fun e w'=>e= .returned (.int .i64 (aM n vs id))/\Below w.heap.size w w':=by
 go_enter Tryz.func15,Tryz.ntmps15;go_upto_region 1 with fail
 obtain⟨w2,hw2⟩:∃w2,w2=w.alloc (jR x n c lx ln lc):=⟨_,rfl⟩;rw[<-hw2];have h02:Below w.heap.size w w2:=by rw[hw2];exact bl1 w _
 have hbox:w2.heap[w.heap.size]?=some (jR x n c lx ln lc):=by rw[hw2];exact aB _ rfl
 clear hw2;obtain⟨hcl, -⟩:=aD hbox;have q0:w2.cell? ⟨w.heap.size,0,none⟩=some (.slice x n c):=hcl 0;clear hcl hbox;have hp2:=hp.later h02;generalize hbk:w.heap.size=bk at*;go_wp2;go_loopw [5] (fun i wr=>∃k:Nat,k<=n/\i= .int .i64 k/\wr=w2/\(∀j,j<k->((vnAt vs j).id==id)=false)) (fun i _=>n- (intOf i).toNat)
 case atStart=>exact⟨0,by omega,rfl,rfl,fun j hj=>by omega⟩
 case round=>
  obtain⟨k,hk,rfl,rfl,hno⟩:=hrel
  have hno':Hid (∀j,j<k->((vnAt vs j).id==id)=false):=hno
  clear hno
  by_cases hlt:k<n
  ·have hlt':Hid (k<n):=hlt;obtain⟨b,o,rfl,c0,c1,c2⟩:=hp2.cells k hlt
   cases he:((vnAt vs k).id==id)
   ·go_wp2;go_roundw
    case rel=>exact⟨k+1,hlt'.out,by go_num,by first|rfl|trivial,fun j hj=>by
     by_cases hj2:j<k
     ·exact hno'.out j hj2
     ·obtain rfl:j=k:=by omega
      exact he⟩
    case measure=>simp[intOf];have:=hlt'.out;omega
   ·have hv:Hid (aM n vs id=k):=mD hlt he hno'.out;go_wp2;go_ret;exact⟨aP hv.out.symm,by rw[hbk];exact h02⟩
  ·obtain rfl:k=n:=by omega
   have hv:Hid (aM k vs id= -1):=tQ hno'.out;go_wp2;go_ret;exact⟨aP hv.out.symm,by rw[hbk];exact h02⟩
theorem nZ(x:Option Addr)(n c:Nat)(vs:List Vn)(lx:Option Addr)(ln lc:Nat)(id t:Int)(h:aM n vs id=t)(w:World)(hp:VS w x n vs)(hn:n<=1048576):
  Calls Tryz.prog 15 #[.agg #[.slice x n c, .slice lx ln lc], .int .i64 id] w fun e w'=>e= .returned (.int .i64 t)/\Below w.heap.size w w':=by
 subst h;exact N8 x n c vs lx ln lc id w hp hn
open Go.RowKit Go.Shelf Go.Maps
def zN(ls:List (Int×Int))(a y:Int):Prop:=∀P:Int->Prop,P a->(∀b c,P b->(b,c)∈ls->P c)->(∀b c,P b->(c,b)∈ls->P c)->P y
theorem zN.here:zN ls a a:=fun _ p _ _=>p
theorem zN.out{b c:Int}(h:zN ls a b)(m:(b,c)∈ls):zN ls a c:=fun P p o k=>o _ _ (h P p o k) m
theorem zN.back{b c:Int}(h:zN ls a b)(m:(c,b)∈ls):zN ls a c:=fun P p o k=>k _ _ (h P p o k) m
theorem zN.trans{b c:Int}(h:zN ls a b)(k:zN ls b c):zN ls a c:=
 k (fun y=>zN ls a y) h (fun _ _ ih m=>ih.out m) (fun _ _ ih m=>ih.back m)
theorem zN.more{b:Int}(h:zN ls a b)(hs:∀p∈ls,p∈ms):zN ms a b:=
 h (fun y=>zN ms a y) zN.here (fun _ _ ih m=>ih.out (hs _ m)) (fun _ _ ih m=>ih.back (hs _ m))
theorem VN(ls:List (Int×Int)):∀p∈ls,bH ls p.1=bH ls p.2:=by
 suffices h:∀n,∀ls:List (Int×Int),ls.length=n->∀p∈ls,bH ls p.1=bH ls p.2 from h _ ls rfl
 intro n;induction n with
 |zero=>
  intro ls hl p hp
  rw[List.length_eq_zero_iff.1 hl]at hp
  cases hp
 |succ n ih=>
  intro ls hl p hp
  have hne:ls≠[]:=by intro e;rw[e]at hl;cases hl
  rw[<-List.dropLast_concat_getLast hne]at hp⊢
  rw[kZ,kZ]
  rcases List.mem_append.1 hp with hp|hp
  ·rw[ih _ (by rw[List.length_dropLast,hl];rfl) p hp]
  ·rw[List.mem_singleton.1 hp,if_pos rfl];split<;>rfl
theorem ZN(ls:List (Int×Int)):∀a b,bH ls a=bH ls b->zN ls a b:=by
 suffices h:∀n,∀ls:List (Int×Int),ls.length=n->∀a b,bH ls a=bH ls b->zN ls a b from h _ ls rfl
 intro n;induction n with
 |zero=>
  intro ls hl a b h
  rw[List.length_eq_zero_iff.1 hl]at h⊢
  have e:a=b:=h
  rw[e]
  exact .here
 |succ n ih=>
  intro ls hl a b h
  have hne:ls≠[]:=by intro e;rw[e]at hl;cases hl
  rw[<-List.dropLast_concat_getLast hne]at h⊢
  rw[kZ,kZ]at h
  have ih':=ih ls.dropLast (by rw[List.length_dropLast,hl];rfl)
  generalize ls.dropLast=ms at*
  generalize ls.getLast hne=l at*
  have up:∀{x y},zN ms x y->zN (ms++[l]) x y:=fun c=>c.more fun p hp=>List.mem_append.2 (.inl hp)
  have hl:(l.1,l.2)∈ms++[l]:=by simp
  split at h
  ·rename_i ha;split at h
   ·rename_i hb;exact up (ih' a b (ha.trans hb.symm))
   ·exact((up (ih' a l.1 ha)).out hl).trans (up (ih' l.2 b h))
  ·split at h
   ·rename_i hb;exact((up (ih' a l.2 h)).back hl).trans (up (ih' l.1 b hb.symm))
   ·exact up (ih' a b h)
def G5(ls:List (Int×Int))(a b:Int):Bool:=decide ((min a b,max a b)∈ls)
theorem aCt{b:Int}(h:G5 ls a b=true):bH ls a=bH ls b:=by
 have:=VN ls _ (of_decide_eq_true h);rcases Int.le_total a b with e|e
 ·rwa[Int.min_eq_left e,Int.max_eq_right e]at this
 ·rw[Int.min_eq_right e,Int.max_eq_left e]at this;exact this.symm
def iT(bs:List Bool)(k:Nat):Bool:=bs.getD k false
theorem sJ{bs:List Bool}(h:k<bs.length)(b:Bool)(i:Nat):iT (bs.set k b) i=if i=k then b else iT bs i:=by
 unfold iT;simp only[zF,List.getElem?_set];by_cases e:k=i
 ·subst e;rw[if_pos rfl,if_pos h,if_pos rfl];rfl
 ·rw[if_neg e,if_neg fun x=>e x.symm]
def pO(bs:List Bool):Nat:=bs.countP id
theorem R9(bs:List Bool):pO bs<=bs.length:=List.countP_le_length
theorem G6:∀{bs0 bs:List Bool},bs0.length=bs.length->(∀k,iT bs0 k=true->iT bs k=true)->pO bs0<=pO bs/\(pO bs0=pO bs->bs0=bs)
 |[],[],_,_=>⟨zE,fun _=>rfl⟩
 |[],b::bs,hl,_=>by cases hl
 |a::bs0,[],hl,_=>by cases hl
 |a::bs0,b::bs,hl,h=>by
  have ih:=G6 (bs0:=bs0) (bs:=bs) (by simpa using hl) fun k hk=>by
   have:=h (k+1);simp only[iT,zJ]at this;exact this hk
  have h0:a=true->b=true:=h 0;unfold pO at ih⊢;rw[List.countP_cons,List.countP_cons]
  cases a<;>cases b<;>simp at h0⊢
  ·exact⟨ih.1,fun e=>ih.2 e⟩
  ·constructor
   ·omega
   ·omega
  ·exact⟨ih.1,fun e=>ih.2 e⟩
def UO(ls:List (Int×Int))(n:Nat)(ids:Nat->Int)(id:Int)(bs:List Bool):Prop:=bs.length=n/\∀k,k<n->iT bs k=true->bH ls (ids k)=bH ls id
def SA(ls:List (Int×Int))(n:Nat)(ids:Nat->Int)(bs:List Bool):Prop:=∀i k,i<n->k<n->iT bs i=true->G5 ls (ids i) (ids k)=true->iT bs k=true
structure qM(ls:List (Int×Int))(n:Nat)(ids:Nat->Int)(bs0 bs:List Bool)(i k:Nat):Prop where
 up:∀j,iT bs0 j=true->iT bs j=true
 rows:∀j m,j<i->m<n->iT bs0 j=true->G5 ls (ids j) (ids m)=true->iT bs m=true
 row:∀m,m<k->iT bs0 i=true->G5 ls (ids i) (ids m)=true->iT bs m=true
 still:SA ls n ids bs0->bs=bs0
theorem qM.zero{ids:Nat->Int}(bs0:List Bool):qM ls n ids bs0 bs0 0 0:=⟨fun _ h=>h,fun _ _ h=>absurd h (Nat.not_lt_zero _),fun _ h=>absurd h (Nat.not_lt_zero _),fun _=>rfl⟩
theorem qM.next{ids:Nat->Int}{bs0 bs:List Bool}(h:qM ls n ids bs0 bs i n):qM ls n ids bs0 bs (i+1) 0:=⟨h.up,fun j m hj hm ha hl=>by
 rcases Nat.lt_succ_iff_lt_or_eq.1 hj with e|e
 ·exact h.rows j m e hm ha hl
 ·subst e;exact h.row m hm ha hl,fun _ h=>absurd h (Nat.not_lt_zero _),h.still⟩
theorem qM.step{ids:Nat->Int}{bs0 bs:List Bool}(h:qM ls n ids bs0 bs i k)(hl:bs.length=n)(hi:i<n)(hk:k<n):
  qM ls n ids bs0 (bs.set k (iT bs k||(iT bs i&&G5 ls (ids i) (ids k)))) i (k+1):=by
 have hup:∀j,iT bs j=true->iT (bs.set k (iT bs k||(iT bs i&&G5 ls (ids i) (ids k)))) j=true:=fun j hj=>by
  rw[sJ (by omega)];split
  ·rename_i e;subst e;rw[hj];rfl
  ·exact hj
 refine⟨fun j hj=>hup j (h.up j hj),fun j m hj hm ha hlk=>hup m (h.rows j m hj hm ha hlk),fun m hm ha hlk=>?_,fun hs=>?_⟩;rotate_left
 ·have e:=h.still hs;subst e;have e2:(iT bs k||(iT bs i&&G5 ls (ids i) (ids k)))=iT bs k:=by
   cases hb:iT bs k
   ·cases h1:iT bs i
    ·rfl
    ·cases h2:G5 ls (ids i) (ids k)
     ·rfl
     ·have:=hs i k hi hk h1 h2;rw[hb]at this
      cases this
   ·rfl
  rw[e2];unfold iT;rw[zF,List.getElem?_eq_getElem (by omega)];exact List.set_getElem_self _
 rcases Nat.lt_succ_iff_lt_or_eq.1 hm with e|e
 ·exact hup m (h.row m e ha hlk)
 ·subst e;rw[sJ (by omega),if_pos rfl,h.up i ha,hlk];simp
theorem UO.step{ids:Nat->Int}{id:Int}{bs:List Bool}(h:UO ls n ids id bs){i k:Nat}(hi:i<n)(hk:k<n):UO ls n ids id (bs.set k (iT bs k||(iT bs i&&G5 ls (ids i) (ids k)))):=by
 refine⟨by rw[List.length_set];exact h.1,fun j hj hb=>?_⟩;rw[sJ (by rw[h.1];exact hk)]at hb;split at hb
 ·rename_i e;subst e;rcases Bool.or_eq_true_iff.1 hb with hb|hb
  ·exact h.2 j hj hb
  ·obtain⟨h1,h2⟩:=Bool.and_eq_true_iff.1 hb;exact(aCt h2).symm.trans (h.2 i hi h1)
 ·exact h.2 j hj hb
def ZO(ls:List (Int×Int))(n:Nat)(ids:Nat->Int)(t:Nat)(bs:List Bool):Prop:=SA ls n ids bs\/t+1<=pO bs
theorem qM.far{ids:Nat->Int}{bs0 bs:List Bool}{t:Nat}(h:qM ls n ids bs0 bs n 0)(ha:bs0.length=n)(hb:bs.length=n)(hf:ZO ls n ids t bs0):ZO ls n ids (t+1) bs:=by
 rcases hf with hf|hf
 ·rw[h.still hf];exact .inl hf
 ·obtain⟨h1,h2⟩:=G6 (by rw[ha,hb]) h.up;by_cases e:pO bs0=pO bs
  ·have e2:=h2 e;subst e2;exact .inl fun i k hi hk hm hl=>h.rows i k hi hk hm hl
  ·exact .inr (by omega)
theorem ZO.shut{ids:Nat->Int}{bs:List Bool}(h:ZO ls n ids n bs)(hl:bs.length=n):SA ls n ids bs:=by
 rcases h with h|h
 ·exact h
 ·have:=R9 bs;omega
def mG(n p:Nat):List Bool:=(List.replicate n false).set p true
theorem zO(hp:p<n)(k:Nat):iT (mG n p) k=decide (k=p):=by
 unfold mG;rw[sJ (by rw[List.length_replicate];exact hp)];by_cases e:k=p
 ·rw[if_pos e,decide_eq_true e]
 ·rw[if_neg e,decide_eq_false e];unfold iT;rw[zF,List.getElem?_replicate];split<;>rfl
theorem G7{ids:Nat->Int}{id:Int}(hp:p<n)(hid:ids p=id):UO ls n ids id (mG n p):=by
 refine⟨by unfold mG;rw[List.length_set,List.length_replicate],fun k _ hb=>?_⟩;rw[zO hp]at hb;rw[of_decide_eq_true hb,hid]
theorem G8{ids:Nat->Int}(hp:p<n):ZO ls n ids 0 (mG n p):=by
 right;unfold pO;refine List.countP_pos_iff.2 ⟨true,?_,rfl⟩;unfold mG;rw[List.mem_iff_getElem];exact⟨p,by rw[List.length_set,List.length_replicate];exact hp,by simp⟩
theorem VO{ids:Nat->Int}{id:Int}{bs:List Bool}(hS:UO ls n ids id bs)(hC:SA ls n ids bs)(hp:p<n)(hid:ids p=id)(hpb:iT bs p=true)
 (hU:∀i k,i<n->k<n->ids i=ids k->i=k)(hL:∀q∈ls,q.1<q.2/\(∃k,k<n/\ids k=q.1)/\∃k,k<n/\ids k=q.2):
  ∀k,k<n->iT bs k=(bH ls (ids k)==bH ls id):=by
 have key:∀c,zN ls id c->∃k,k<n/\ids k=c/\iT bs k=true:=by
  intro c h;refine h (fun c=>∃k,k<n/\ids k=c/\iT bs k=true) ⟨p,hp,hid,hpb⟩ (fun _ _ ih m=>?_) (fun _ _ ih m=>?_)
  ·obtain⟨k,hk,h1,h2⟩:=ih;obtain⟨hlt, -,k2,hk2,h3⟩:=hL _ m;refine⟨k2,hk2,h3,hC k k2 hk hk2 h2 ?_⟩;simp only at h3 hlt;unfold G5;rw[h1,h3,Int.min_eq_left (by omega),Int.max_eq_right (by omega)];exact decide_eq_true m
  ·obtain⟨k,hk,h1,h2⟩:=ih;obtain⟨hlt,⟨k2,hk2,h3⟩, -⟩:=hL _ m;refine⟨k2,hk2,h3,hC k k2 hk hk2 h2 ?_⟩;simp only at h3 hlt;unfold G5;rw[h1,h3,Int.min_eq_right (by omega),Int.max_eq_left (by omega)];exact decide_eq_true m
 intro k hk
 cases hb:iT bs k
 ·symm;rw[beq_eq_false_iff_ne];intro e;obtain⟨k2,hk2,h1,h2⟩:=key _ (ZN ls _ _ e.symm);rw[hU k2 k hk2 hk h1,hb]at h2
  cases h2
 ·symm;rw[beq_iff_eq];exact hS.2 k hk hb
theorem aCu(hl:ls.length=ln)(a b:Int):PV ln ls a b=G5 ls a b:=by
 unfold G5;by_cases h:(min a b,max a b)∈ls
 ·rw[decide_eq_true h];obtain⟨i,hi,e⟩:=List.getElem_of_mem h;have e2:=yL hi;rw[e]at e2;exact yZ.2 ⟨i,by omega,congrArg Prod.fst e2,congrArg Prod.snd e2⟩
 ·rw[decide_eq_false h]
  cases hj:PV ln ls a b
  ·rfl
  ·exfalso;obtain⟨i,hi,h0,h1⟩:=yZ.1 hj;apply h;have e2:=yL (ls:=ls) (k:=i) (by omega);rw[h0,h1]at e2;rw[e2];exact List.getElem_mem _
theorem G9(hl:vs.length=n)(hll:ls.length=ln)(h:cN n vs ln ls=true):∀q∈ls,q.1<q.2/\(∃k,k<n/\(vnAt vs k).id=q.1)/\∃k,k<n/\(vnAt vs k).id=q.2:=by
 intro q hq;obtain⟨i,hi,e⟩:=List.getElem_of_mem hq;have e2:=yL hi;rw[e]at e2;have e3:at0 ls i=q.1:=congrArg Prod.fst e2;have e4:bY ls i=q.2:=congrArg Prod.snd e2;obtain⟨m0,m1⟩:=tU hl h i (by omega);rw[e3]at m0;rw[e4]at m1;obtain⟨k0,hk0,h0⟩:=rX m0;obtain⟨k1,hk1,h1⟩:=rX m1;refine⟨?_,⟨k0,by omega,h0⟩,⟨k1,by omega,h1⟩⟩;unfold cN at h;rw[zH,Bool.not_eq_true']at h;have h2:=gT.1 h.2 i (by omega);unfold pB at h2;simp only[Bool.or_eq_false_iff,decide_eq_false_iff_not]at h2;rw[e3,e4]at h2;omega
theorem HA(hl:vs.length=n)(h:cX vs=true):∀i k,i<n->k<n->(vnAt vs i).id=(vnAt vs k).id->i=k:=by
 intro i k hi hk e;have h1:=lD hl h hi;rw[e,lD hl h hk]at h1;omega
theorem J3(rn:Nat)(rs:List Rg)(qn:Nat)(qs:List Rg):kY rn rs qn qs=kY qn qs rn rs:=by
 have h:∀(rn:Nat) (rs:List Rg) (qn:Nat) (qs:List Rg),kY rn rs qn qs=true->kY qn qs rn rs=true:=by
  intro rn rs qn qs h;obtain⟨i,hi,h1⟩:=nT h;obtain⟨j,hj,h2⟩:=nT h1;refine aW (k:=j) hj (aW (k:=i) hi ?_);rw[nB];exact h2
 cases h1:kY rn rs qn qs
 ·cases h2:kY qn qs rn rs
  ·rfl
  ·rw[h _ _ _ _ h2]at h1
   cases h1
 ·rw[h _ _ _ _ h1]
def SB(a b:Vn):Bool:=kY a.rn a.rs b.rn b.rs
def gZ(ls:List (Int×Int))(n:Nat)(vs:List Vn)(i k:Nat):Bool:=
 (!(aU (lA ls vs (vnAt vs i).id) k==(vnAt vs i).id))&&SB (vnAt vs i) (vnAt vs (aM n vs (aU (lA ls vs (vnAt vs i).id) k)).toNat)
theorem HB{id:Int}:y∈lA ls vs id↔y∈bF vs/\bH ls y=bH ls id:=by
 unfold lA;rw[List.mem_filter,beq_iff_eq]
theorem SC(hl:vs.length=n)(hr:cX vs=true){id:Int}{k:Nat}(hk:k<(lA ls vs id).length):
  ∃j,j<n/\(vnAt vs j).id=aU (lA ls vs id) k/\aM n vs (aU (lA ls vs id) k)=j/\bH ls (vnAt vs j).id=bH ls id:=by
 have hm:aU (lA ls vs id) k∈lA ls vs id:=by rw[eL hk];exact List.getElem_mem _
 obtain⟨h1,h2⟩:=HB.1 hm;obtain⟨j,hj,e⟩:=rX h1;refine⟨j,by omega,e,?_,by rw[e];exact h2⟩;rw[<-e];exact lD hl hr (by omega)
theorem ZP(hl:vs.length=n)(hr:cX vs=true)(h:∀i,i<n->∀k,k<(lA ls vs (vnAt vs i).id).length->gZ ls n vs i k=false):tS ls n vs=true:=by
 unfold tS;rw[List.all_eq_true];intro i hi;unfold JS;rw[List.all_eq_true];intro j hj;rw[List.mem_range]at hi hj
 cases hc:yM (bH ls) vs i j
 ·rfl
 ·exfalso;unfold yM at hc;rw[zH,beq_iff_eq]at hc;have hjn:j<n:=by omega
  have hm:(vnAt vs j).id∈lA ls vs (vnAt vs i).id:=by
   refine HB.2 ⟨?_,hc.1.symm⟩;unfold bF;exact List.mem_map.2 ⟨vnAt vs j,by rw[dW (by omega)];exact List.getElem_mem _,rfl⟩
  obtain⟨k,hk,e⟩:=List.getElem_of_mem hm;have hb:=h i hi k hk;unfold gZ at hb;rw[eL hk,e,lD hl hr hjn]at hb;have hne:((vnAt vs j).id==(vnAt vs i).id)=false:=by
   rw[beq_eq_false_iff_ne];intro e2;have:=HA hl hr j i hjn hi e2;omega
  rw[hne]at hb;simp only[Bool.not_false,Bool.true_and,Int.toNat_natCast]at hb;unfold SB at hb;rw[hb]at hc
  cases hc.2
theorem aCv(hl:vs.length=n)(hr:cX vs=true){i k:Nat}(hi:i<n)(hk:k<(lA ls vs (vnAt vs i).id).length)(hb:gZ ls n vs i k=true):tS ls n vs=false:=by
 cases ha:tS ls n vs
 ·rfl
 ·exfalso;obtain⟨j,hj,e,hp,hh⟩:=SC hl hr hk;unfold gZ at hb;rw[hp,<-e]at hb;simp only[zH,Bool.not_eq_true',beq_eq_false_iff_ne,Int.toNat_natCast]at hb;obtain⟨hne,hm⟩:=hb;rcases Nat.lt_trichotomy i j with hlt|heq|hgt
  ·have h1:=YC ha hj hlt;unfold yM at h1;rw[hh]at h1;unfold SB at hm;rw[J3]at hm;rw[hm]at h1;simp at h1
  ·subst heq;exact hne rfl
  ·have h1:=YC ha hi hgt;unfold yM at h1;rw[hh]at h1;unfold SB at hm;rw[hm]at h1;simp at h1
theorem J4(x:Option Addr)(n c:Nat)(lx:Option Addr)(ln lc:Nat)(ls:List (Int×Int))(a b:Int)(w:World)(hl:PS w lx ln ls)(hln:ln<=1048576):
  Calls Tryz.prog 69 #[.agg #[.slice x n c, .slice lx ln lc], .int .i64 a, .int .i64 b] w fun e w'=>e= .returned (.bool (PV ln ls a b))/\Below w.heap.size w w':=by
 have hbd:Hid (PV ln ls a b=anyAt ln (lC ls (min a b) (max a b))):=rfl;go_enter Tryz.func69,Tryz.ntmps69;go_upto_region 1 with fail
 obtain⟨w2,hw2⟩:∃w2,w2=w.alloc (jR x n c lx ln lc):=⟨_,rfl⟩;rw[<-hw2];have h02:Below w.heap.size w w2:=by rw[hw2];exact bl1 w _
 have hbox:w2.heap[w.heap.size]?=some (jR x n c lx ln lc):=by rw[hw2];exact aB _ rfl
 clear hw2;obtain⟨hcl, -⟩:=aD hbox;have q1:w2.cell? ⟨w.heap.size,1,none⟩=some (.slice lx ln lc):=hcl 1;clear hcl hbox;have hl2:=hl.later h02;generalize hbk:w.heap.size=bk at*;go_wp2;go_loopw [7] (fun i wr=>∃k:Nat,k<=ln/\i= .int .i64 k/\wr=w2/\(∀j,j<k->lC ls (min a b) (max a b) j=false)) (fun i _=>ln- (intOf i).toNat)
 case atStart=>exact⟨0,by omega,rfl,rfl,fun j hj=>by omega⟩
 case round=>
  obtain⟨k,hk,rfl,rfl,hno⟩:=hrel
  have hno':Hid (∀j,j<k->lC ls (min a b) (max a b) j=false):=hno
  clear hno
  by_cases hlt:k<ln
  ·have hlt':Hid (k<ln):=hlt;obtain⟨bb,o,rfl,c0,c1⟩:=hl2.cells k hlt;have he:∀W,(binOp .eql 77 (.agg #[.int .i64 (at0 ls k), .int .i64 (bY ls k)]) (.agg #[.int .i64 (min a b), .int .i64 (max a b)])).run Tryz.prog W= .ok (.bool (lC ls (min a b) (max a b) k)) W:=fun W=>by
    rw[LL];unfold lC;rw[decide_eq_decide.2 (eq_comm (a:=at0 ls k)),decide_eq_decide.2 (eq_comm (a:=bY ls k))]
   have hg:=fun x y W=>yY .eql x y #[.int .i64 (at0 ls k), .int .i64 (bY ls k)] #[.int .i64 (min a b), .int .i64 (max a b)] W;generalize hmn:min a b=mn at*;generalize hmx:max a b=mx at*
   cases hq:lC ls mn mx k;all_goals rw[hq]at he
   ·go_wp2;go_roundw
    case rel=>exact⟨k+1,hlt'.out,by go_num,by first|rfl|trivial,fun j hj=>by
     by_cases hj2:j<k
     ·exact hno'.out j hj2
     ·obtain rfl:j=k:=by omega
      exact hq⟩
    case measure=>simp[intOf];have:=hlt'.out;omega
   ·have hv:Hid (PV ln ls a b=true):=by rw[hbd.out];exact aW hlt hq
    go_wp2;go_ret;exact⟨aI hv.out.symm,by rw[hbk];exact h02⟩
  ·obtain rfl:k=ln:=by omega
   have hv:Hid (PV k ls a b=false):=by rw[hbd.out];exact dD hno'.out
   go_wp2;go_ret;exact⟨aI hv.out.symm,by rw[hbk];exact h02⟩
theorem N9(x:Option Addr)(n c:Nat)(lx:Option Addr)(ln lc:Nat)(ls:List (Int×Int))(a b:Int)(t:Bool)(h:PV ln ls a b=t)(w:World)(hl:PS w lx ln ls)(hln:ln<=1048576):
  Calls Tryz.prog 69 #[.agg #[.slice x n c, .slice lx ln lc], .int .i64 a, .int .i64 b] w fun e w'=>e= .returned (.bool t)/\Below w.heap.size w w':=by
 subst h;exact J4 x n c lx ln lc ls a b w hl hln
theorem SD(a l c m:Int)(t:Bool)(h:eD a l c m=t)(w:World):
  Calls Tryz.prog 37 #[.agg #[.int .i64 a, .int .i64 l], .agg #[.int .i64 c, .int .i64 m]] w fun e w'=>e= .returned (.bool t)/\Below w.heap.size w w':=by
 subst h;exact xD a l c m w
theorem OA(p q:Vn)(w:World)(hp:RS w p.rx p.rn p.rs)(hq:RS w q.rx q.rn q.rs)(hpn:p.rn<=1048576)(hqn:q.rn<=1048576):
  Calls Tryz.prog 40 #[.agg #[.int .i64 p.id, .slice p.rx p.rn p.rc, .slice p.sx p.sn p.sc], .agg #[.int .i64 q.id, .slice q.rx q.rn q.rc, .slice q.sx q.sn q.sc]] w fun e w'=>e= .returned (.bool (SB p q))/\Below w.heap.size w w':=by
 have hbd:Hid (SB p q=anyAt p.rn fun i=>anyAt q.rn fun j=>eD (rgAt p.rs i).a (rgAt p.rs i).l (rgAt q.rs j).a (rgAt q.rs j).l):=rfl;obtain⟨pid,prx,prn,prc,prs,psx,psn,psc,pss⟩:=p;obtain⟨qid,qrx,qrn,qrc,qrs,qsx,qsn,qsc,qss⟩:=q;simp only at hp hq hpn hqn hbd⊢;go_enter Tryz.func40,Tryz.ntmps40;go_upto_region 1 with fail
 obtain⟨w1,hw1⟩:∃w1,w1=w.alloc (.cells #[.int .i64 pid, .slice prx prn prc, .slice psx psn psc] 51):=⟨_,rfl⟩;obtain⟨w2,hw2⟩:∃w2,w2=w1.alloc (.cells #[.int .i64 qid, .slice qrx qrn qrc, .slice qsx qsn qsc] 51):=⟨_,rfl⟩;rw[<-hw1,<-hw2];have hz1:w1.heap.size=w.heap.size+1:=by rw[hw1];simp
 have h01:Below w.heap.size w w1:=by rw[hw1];exact bl1 w _
 have h12:Below w1.heap.size w1 w2:=by rw[hw2];exact bl1 w1 _
 have h02:Below w.heap.size w w2:=h01.trans (h12.mono h01.size);have b1:w1.heap[w.heap.size]?=some (.cells #[.int .i64 pid, .slice prx prn prc, .slice psx psn psc] 51):=by rw[hw1];exact aB _ rfl
 have b2:w2.heap[w1.heap.size]?=some (.cells #[.int .i64 qid, .slice qrx qrn qrc, .slice qsx qsn qsc] 51):=by rw[hw2];exact aB _ rfl
 rw[hz1]at b2;have q1:w2.cell? ⟨w.heap.size,1,none⟩=some (.slice prx prn prc):=(aD (aA h12 b1)).1 1;have q2:=aO b2 1 rfl;try rw[hz1]
 clear hw1 hw2 b1 b2 h01 h12;have hp2:=hp.later h02;have hq2:=hq.later h02;have hsz:Hid (w.heap.size<=w2.heap.size):=h02.size;clear hz1 hp hq;generalize hbk:w.heap.size=bk at*;go_wp2;go_loopw [5] (fun i wr=>∃k:Nat,k<=prn/\i= .int .i64 k/\Below w2.heap.size w2 wr/\(∀j,j<k->(anyAt qrn fun j'=>eD (rgAt prs j).a (rgAt prs j).l (rgAt qrs j').a (rgAt qrs j').l)=false)) (fun i _=>prn- (intOf i).toNat)
 case atStart=>exact⟨0,by omega,rfl,zD,fun j hj=>by omega⟩
 case round=>
  obtain⟨k,hk,rfl,hB,hno⟩:=hrel
  have hno':Hid (∀j,j<k->(anyAt qrn fun j'=>eD (rgAt prs j).a (rgAt prs j).l (rgAt qrs j').a (rgAt qrs j').l)=false):=hno
  clear hno
  have r1:=cell_later hB q1
  have r2:=cell_later hB q2
  by_cases hlt:k<prn
  ·have hlt':Hid (k<prn):=hlt;go_wp2;go_loopw [6] (fun i wr=>∃m:Nat,m<=qrn/\i= .int .i64 m/\Below w2.heap.size w2 wr/\(∀j,j<m->eD (rgAt prs k).a (rgAt prs k).l (rgAt qrs j).a (rgAt qrs j).l=false)) (fun i _=>qrn- (intOf i).toNat)
   case atStart=>exact⟨0,by omega,rfl,hB,fun j hj=>by omega⟩
   case round=>
    clear r1 r2
    obtain⟨m,hm,rfl,hC,hnq⟩:=hrel
    have hnq':Hid (∀j,j<m->eD (rgAt prs k).a (rgAt prs k).l (rgAt qrs j).a (rgAt qrs j).l=false):=hnq
    clear hnq hB
    have r1:=cell_later hC q1
    have r2:=cell_later hC q2
    by_cases hltq:m<qrn
    ·have hltq':Hid (m<qrn):=hltq;obtain⟨b,o,rfl,c0,c1,c2⟩:=(hp2.later hC).cells k hlt;obtain⟨b',o',rfl,d0,d1,d2⟩:=(hq2.later hC).cells m hltq;have g0:=Ws.here c0;have g1:=Ws.here c1;have g2:=Ws.here d0;have g3:=Ws.here d1;have g4:=Ws.here r1;have g5:=Ws.here r2;go_upto_region 7 with fail
     clear c0 c1 c2 d0 d1 d2;refine aE wr.heap.size (by kernel_rfl) (by kernel_rfl) ?_
     cases hmt:eD (rgAt prs k).a (rgAt prs k).l (rgAt qrs m).a (rgAt qrs m).l;all_goals repeat(go_big_quiet_step ((go_at_call 37;exact Calls.in_ws (zE) (SD _ _ _ _ _ hmt _))))
     all_goals refine wpQuiet_nil ?_
     all_goals rintro _ ⟨u,rfl⟩
     all_goals have hu:=hC.trans (u.property.mono hC.size)
     all_goals generalize u.val=wu at hu⊢
     all_goals clear u g0 g1 g2 g3 g4 g5 r1 r2
     ·have r1:=cell_later hu q1;have r2:=cell_later hu q2;go_wp2;go_roundw
      case rel=>exact⟨m+1,hltq'.out,by go_num,hu,fun j hj=>by
       by_cases hj2:j<m
       ·exact hnq'.out j hj2
       ·obtain rfl:j=m:=by omega
        exact hmt⟩
      case measure=>simp[intOf];have:=hltq'.out;omega
     ·have hv:Hid (SB ⟨pid,some ⟨b,o,none⟩,prn,prc,prs,psx,psn,psc,pss⟩ ⟨qid,some ⟨b',o',none⟩,qrn,qrc,qrs,qsx,qsn,qsc,qss⟩=true):=by rw[hbd.out];exact aW hlt (aW hltq hmt)
      go_wp2;go_ret;exact⟨aI hv.out.symm,by rw[hbk];exact h02.trans (hu.mono hsz.out)⟩
    ·obtain rfl:m=qrn:=by omega
     have hall:Hid ((anyAt m fun j'=>eD (rgAt prs k).a (rgAt prs k).l (rgAt qrs j').a (rgAt qrs j').l)=false):=dD hnq'.out;go_wp2;go_roundw
     case rel=>exact⟨k+1,hlt'.out,by go_num,hC,fun j hj=>by
      by_cases hj2:j<k
      ·exact hno'.out j hj2
      ·obtain rfl:j=k:=by omega
       exact hall.out⟩
     case measure=>simp[intOf];have:=hlt'.out;omega
  ·obtain rfl:k=prn:=by omega
   have hv:Hid (SB ⟨pid,prx,k,prc,prs,psx,psn,psc,pss⟩ ⟨qid,qrx,qrn,qrc,qrs,qsx,qsn,qsc,qss⟩=false):=by rw[hbd.out];exact dD hno'.out
   go_wp2;go_ret;exact⟨aI hv.out.symm,by rw[hbk];exact h02.trans (hB.mono hsz.out)⟩
theorem VP:Tryz.prog.underlying 143=some (.slice 4):=by kernel_rfl
theorem ZQ:(Tryz.prog.info? 4).map (fun i=>(i.zero,i.size,i.bytes))=some (some (.bool false),1,1):=by kernel_rfl
structure HC(w W:World)(x:Option Addr)(n c:Nat)(lx:Option Addr)(ln lc:Nat)(bs:List Bool):Prop where
 below:Below w.heap.size w W
 box:W.heap[w.heap.size]?=some (jR x n c lx ln lc)
 row:W.rowIs (w.heap.size+1) 4 n (fun k=> .bool (iT bs k))
theorem HC.later{bs:List Bool}(h:HC w W x n c lx ln lc bs)(hb:Below W.heap.size W W'):HC w W' x n c lx ln lc bs:=by
 refine⟨h.below.trans (hb.mono h.below.size),aA hb h.box,?_⟩;obtain⟨cs,h0,h1,h2⟩:=h.row;exact⟨cs,aA hb h0,h1,h2⟩
theorem HC.set{bs:List Bool}(h:HC w W x n c lx ln lc bs){k:Nat}(hk:k<bs.length)(b:Bool):HC w (W.setCell ⟨w.heap.size+1,k,none⟩ (.bool b)) x n c lx ln lc (bs.set k b):=by
 refine⟨h.below.setCell (p:=⟨w.heap.size+1,k,none⟩) (by show w.heap.size<=w.heap.size+1;omega) _,(Go.Deep.blk_setCell_other _ _ _ _ (by show w.heap.size≠w.heap.size+1;omega)).trans h.box,?_⟩;refine(h.row.set k (.bool b)).congr fun j _=>?_;rw[sJ hk];split<;>rfl
theorem HC.cells{bs:List Bool}(h:HC w W x n c lx ln lc bs):W.cell? ⟨w.heap.size,0,none⟩=some (.slice x n c)/\W.cell? ⟨w.heap.size,1,none⟩=some (.slice lx ln lc):=⟨(aD h.box).1 0,(aD h.box).1 1⟩
theorem HC.grown{bs:List Bool}{es:List Int}(h:HC w W x n c lx ln lc bs)(hI:dQ W w.heap.size v es)(hg:W.grownBy W' v.ownBlock):HC w W' x n c lx ln lc bs:=by
 have hk:∀{b:Nat} {o:Obj},W.heap[b]?=some o->v.ownBlock≠some b->W'.heap[b]?=some o:=fun{b o} h0 hne=>(hg.block b (zG h0) (fun e=>hne e.symm)).trans h0;refine⟨dH h.below hg (fun q e=>(hI.lt q e).1),hk h.box (hI.ne h.box (by decide)),?_⟩;obtain⟨cs,h0,h1,h2⟩:=h.row;exact⟨cs,hk h0 (hI.ne h0 (by decide)),h1,h2⟩
theorem HD(x:Option Addr)(n c:Nat)(vs:List Vn)(lx:Option Addr)(ln lc:Nat)(ls:List (Int×Int))(id:Int)(p:Nat)(w:World)(hp:VS w x n vs)(hn:n<=1048576)(hl:PS w lx ln ls)(hln:ln<=1048576)
 (hr:cX vs=true)(hlk:cN n vs ln ls=true)(hpn:p<n)(hpi:(vnAt vs p).id=id):
  Calls Tryz.prog 39 #[.agg #[.slice x n c, .slice lx ln lc], .int .i64 id] w fun e w'=>∃v,e= .returned v/\dQ w' w.heap.size v (lA ls vs id)/\Below w.heap.size w w':=by
 have hvl:Hid (vs.length=n):=hp.len;have hll:Hid (ls.length=ln):=hl.len;have hpl:aM n vs id=p:=by rw[<-hpi];exact lD hp.len hr hpn
 have hfin:Hid (∀bs,UO ls n (fun k=>(vnAt vs k).id) id bs->SA ls n (fun k=>(vnAt vs k).id) bs->iT bs p=true->∀k,k<n->iT bs k=(bH ls (vnAt vs k).id==bH ls id)):=fun bs h1 h2 h3=>VO h1 h2 hpn hpi h3 (HA hp.len hr) (G9 hp.len hl.len hlk);have hpi':Hid ((vnAt vs p).id=id):=hpi;have hmk:=run_make_row' (P:=Tryz.prog) 143 4 (.bool false) 1 VP ZQ rfl .i64 .i64 n (by omega) (by omega);clear hr hlk hpi;go_enter Tryz.func39,Tryz.ntmps39;go_upto_region 1 with fail
 obtain⟨w2,hw2⟩:∃w2,w2=w.alloc (jR x n c lx ln lc):=⟨_,rfl⟩;rw[<-hw2];have h02:Below w.heap.size w w2:=by rw[hw2];exact bl1 w _
 have hz2:w2.heap.size=w.heap.size+1:=by rw[hw2];simp
 have hbox:w2.heap[w.heap.size]?=some (jR x n c lx ln lc):=by rw[hw2];exact aB _ rfl
 clear hw2;have q0:=aO hbox 0 rfl;go_upto_region 2 with fail
 have hrow:=World.rowIs_made w2 (.bool false) n 4;have h23:Below w2.heap.size w2 (w2.alloc (.cells (madeCells #[.bool false] n) 4)):=bl1 w2 _;obtain⟨w3,hw3⟩:∃w3,w3=w2.alloc (.cells (madeCells #[.bool false] n) 4):=⟨_,rfl⟩;rw[<-hw3]at hrow h23⊢;rw[hz2]at hrow;have hG3:HC w w3 x n c lx ln lc (List.replicate n false):=by
  refine⟨h02.trans (h23.mono h02.size),aA h23 hbox,hrow.congr fun j _=>?_⟩;unfold iT;rw[zF,List.getElem?_replicate];split<;>rfl
 clear hw3 hrow h23 hbox q0 h02 hz2 hmk;have q0:=hG3.cells.1;have q1:=hG3.cells.2;go_wp2_with fail;refine(nZ x n c vs lx ln lc id p hpl w3 (hp.later hG3.below) hn).mono ?_;rintro e w4 ⟨rfl,hb4⟩;have hG4:=hG3.later hb4;clear q0 q1 hG3 hb4 hpl;have m0:=hG4.row.cell (i:=p) hpn;have m1:=hG4.row.frozen p;have hp0:(0:Int)<=p:=by omega
 have hp1:(p:Int)<n:=by omega
 have hG5:=hG4.set (k:=p) (by rw[List.length_replicate];exact hpn) true;go_upto_region 3 with fail
 have hG5':HC w (w4.setCell ⟨w.heap.size+1,p,none⟩ (.bool true)) x n c lx ln lc (mG n p):=hG5;clear hG5 m0 m1 hG4;generalize w4.setCell ⟨w.heap.size+1,p,none⟩ (.bool true)=w5 at hG5'⊢;go_wp2;go_loopw [6] (fun i wr=>∃(t:Nat) (bs:List Bool),t<=n/\i= .int .i64 t/\HC w wr x n c lx ln lc bs/\Hid (UO ls n (fun k=>(vnAt vs k).id) id bs)/\Hid (ZO ls n (fun k=>(vnAt vs k).id) t bs)/\Hid (iT bs p=true)) (fun i _=>n- (intOf i).toNat)
 case atStart=>exact⟨0,_,by omega,rfl,hG5',G7 hpn hpi'.out,G8 hpn,by show _=_;rw[zO hpn];simp⟩
 case round=>
  obtain⟨t,bs0,ht,rfl,hG,hS,hF,hP⟩:=hrel
  by_cases hlt:t<n
  ·have hlt':Hid (t<n):=hlt;go_wp2;go_loopw [7] (fun i wr=>∃(m:Nat) (bs:List Bool),m<=n/\i= .int .i64 m/\HC w wr x n c lx ln lc bs/\Hid (UO ls n (fun k=>(vnAt vs k).id) id bs)/\Hid (qM ls n (fun k=>(vnAt vs k).id) bs0 bs m 0)) (fun i _=>n- (intOf i).toNat)
   case atStart=>exact⟨0,bs0,by omega,rfl,hG,hS,qM.zero bs0⟩
   case round=>
    clear hG
    obtain⟨m,bs,hm,rfl,hG,hS1,hT⟩:=hrel
    by_cases hltm:m<n
    ·have hltm':Hid (m<n):=hltm;go_wp2;go_loopw [8] (fun i wr=>∃(q:Nat) (bs:List Bool),q<=n/\i= .int .i64 q/\HC w wr x n c lx ln lc bs/\Hid (UO ls n (fun k=>(vnAt vs k).id) id bs)/\Hid (qM ls n (fun k=>(vnAt vs k).id) bs0 bs m q)) (fun i _=>n- (intOf i).toNat)
     case atStart=>exact⟨0,bs,by omega,rfl,hG,hS1,hT⟩
     case round=>
      clear hG hS1 hT bs
      obtain⟨q,bs,hq,rfl,hG,hS1,hT⟩:=hrel
      by_cases hltq:q<n
      ·have hltq':Hid (q<n):=hltq;have hbl:Hid (bs.length=n):=hS1.out.1;have hS2:Hid (UO ls n (fun k=>(vnAt vs k).id) id (bs.set q (iT bs q||(iT bs m&&G5 ls (vnAt vs m).id (vnAt vs q).id)))):=hS1.out.step hltm hltq;have hT2:Hid (qM ls n (fun k=>(vnAt vs k).id) bs0 (bs.set q (iT bs q||(iT bs m&&G5 ls (vnAt vs m).id (vnAt vs q).id))) m (q+1)):=hT.out.step hbl.out hltm hltq;clear hS1 hT;have hpr:=hp.later hG.below;have hlr:=hl.later hG.below;obtain⟨b,o,rfl,c0, -, -⟩:=hpr.cells m hltm;obtain⟨b',o',he,d0, -, -⟩:=hpr.cells q hltq;obtain⟨rfl,rfl⟩:b=b'/\o=o':=by simpa using he
       clear he;have e0:=hG.row.cell (i:=q) hltq;have e1:=hG.row.cell (i:=m) hltm;have hjl:∀W,Below wr.heap.size wr W->Calls Tryz.prog 69 #[.agg #[.slice (some ⟨b,o,none⟩) n c, .slice lx ln lc], .int .i64 (vnAt vs m).id, .int .i64 (vnAt vs q).id] W fun e w'=>e= .returned (.bool (G5 ls (vnAt vs m).id (vnAt vs q).id))/\Below W.heap.size W w':=fun W hW=>N9 _ n c lx ln lc ls _ _ _ (aCu hll.out _ _) W (hlr.later hW) hln;have a0:=Ws.here hG.cells.1;have a1:=Ws.here hG.cells.2;have a2:=Ws.here c0;have a3:=Ws.here d0;have a4:=Ws.here e0;have a5:=Ws.here e1;clear c0 d0 e0 e1 hpr hlr;have hq0:(0:Int)<=q:=by omega
       have hq1:(q:Int)<n:=by omega
       have hm0:(0:Int)<=m:=by omega
       have hm1:(m:Int)<n:=by omega
       clear hlt hltm hltq ht hm hq;go_upto_region 12 with fail
       refine jG wr.heap.size 29 (by kernel_rfl) (by kernel_rfl) ?_;simp only[List.take_succ_cons,List.take_zero,List.drop_succ_cons,List.drop_zero]
       cases hbq:iT bs q;all_goals cases hbm:iT bs m
       all_goals cases hlb:G5 ls (vnAt vs m).id (vnAt vs q).id
       all_goals simp only[hbq,hbm,hlb,Bool.or_false,Bool.or_true,Bool.and_false,Bool.and_true]at a4 a5 hjl hS2 hT2
       all_goals repeat(go_big_quiet_step ((go_at_call 69;exact Calls.in_ws (zE) (hjl _ (Ws.property _)))))
       all_goals refine wpQuiet_nil ?_
       all_goals intro uu
       all_goals have hG6:=hG.later uu.property
       all_goals generalize uu.val=w6 at hG6⊢
       all_goals clear uu a0 a1 a2 a3 a4 a5 hG hjl
       all_goals have z0:=hG6.row.cell (i:=q) hltq'.out
       all_goals have z1:=hG6.row.frozen q
       all_goals have hG7:=hG6.set (k:=q) (by rw[hbl.out];exact hltq'.out)
       all_goals go_wp2
       all_goals go_roundw
       all_goals first
        |(case rel=>exact⟨q+1,_,hltq'.out,by go_num,hG7 _,hS2,hT2⟩)
        |(case measure=>simp[intOf];have:=hltq'.out;omega)
        |skip
      ·obtain rfl:q=n:=by omega
       have hT2:Hid (qM ls q (fun k=>(vnAt vs k).id) bs0 bs (m+1) 0):=hT.out.next;go_wp2;go_roundw
       case rel=>exact⟨m+1,bs,hltm'.out,by go_num,hG,hS1,hT2⟩
       case measure=>simp[intOf];have:=hltm'.out;omega
    ·obtain rfl:m=n:=by omega
     have hF2:Hid (ZO ls m (fun k=>(vnAt vs k).id) (t+1) bs):=hT.out.far hS.out.1 hS1.out.1 hF.out;have hP2:Hid (iT bs p=true):=hT.out.up p hP.out;go_wp2;go_roundw
     case rel=>exact⟨t+1,bs,hlt'.out,by go_num,hG,hS1,hF2,hP2⟩
     case measure=>simp[intOf];have:=hlt'.out;omega
  ·obtain rfl:t=n:=by omega
   have hall:=hfin.out bs0 hS.out (hF.out.shut hS.out.1) hP.out;clear hS hF hP hfin;go_wp2;go_loopw [9,10] (fun v i wr=>∃k:Nat,k<=t/\i= .int .i64 k/\HC w wr x t c lx ln lc bs0/\dQ wr w.heap.size v ((bF (vs.take k)).filter fun y=>bH ls y==bH ls id)) (fun _ i _=>t- (intOf i).toNat)
   case atStart=>exact⟨0,by omega,rfl,hG,World.ownsRow_nil _ _ _ _⟩
   case round=>
    clear hG
    obtain⟨k,hk,rfl,hG,hI⟩:=hrel
    by_cases hltk:k<t
    ·have hltk':Hid (k<t):=hltk;have hst:Hid (bF (vs.take (k+1))=bF (vs.take k)++[(vnAt vs k).id]):=RY (by rw[hvl.out];exact hltk);have e0:=hG.row.cell (i:=k) hltk;have hak:=hall k hltk;obtain⟨b,o,rfl,c0, -, -⟩:=(hp.later hG.below).cells k hltk;have q0:=hG.cells.1
     cases hde:(bH ls (vnAt vs k).id==bH ls id);all_goals rw[hde]at hak
     all_goals simp only[hak]at e0
     ·clear hak;go_wp2;go_roundw
      case rel=>exact⟨k+1,hltk'.out,by go_num,hG,by rw[hst.out,List.filter_append];simpa[hde]using hI⟩
      case measure=>simp[intOf];have:=hltk'.out;omega
     ·clear hak;go_upto_region 18 with fail
      go_wp2_with (first|(at_builtin;refine Hid.out ?_))
      unfold Hid;refine mV rfl _ _ rfl w.heap.size _ _ rfl (hI.later (bl1 _ _)) ⟨wr.heap.size,0,none⟩ 1 1 [(vnAt vs k).id] rfl rfl ?_ ?_ ?_ ?_
      ·intro j u hj;have hn:=aB (W:=wr) (.cells #[.int .i64 (vnAt vs k).id] 3) rfl;rw[cA,Nat.zero_add];exact((aD hn).1 j).trans (by rw[List.getElem?_toArray];exact hj)
      ·have h1:=List.length_filter_le (fun y=>bH ls y==bH ls id) (bF (vs.take k));have h2:(bF (vs.take k)).length<=k:=by simp[bF,List.length_take];omega
       omega
      ·have:=hG.below.size;simp;omega
      intro v8 w8 hI8 hg8;have hIa:=hI.later (bl1 wr (.cells #[.int .i64 (vnAt vs k).id] 3));have hGa:=hG.later (bl1 wr (.cells #[.int .i64 (vnAt vs k).id] 3));have hG8:=hGa.grown hIa hg8;have hI8':Hid (dQ w8 w.heap.size v8 ((bF (vs.take (k+1))).filter fun y=>bH ls y==bH ls id)):=by
       show dQ _ _ _ _;rw[hst.out,List.filter_append];simpa[hde]using hI8
      clear hIa hGa hg8 hI8 hI hG e0 c0 q0;go_wp2;go_roundw
      case rel=>exact⟨k+1,hltk'.out,by go_num,hG8,hI8'.out⟩
      case measure=>simp[intOf];have:=hltk'.out;omega
    ·obtain rfl:k=t:=by omega
     have e:vs.take k=vs:=by rw[<-hvl.out,List.take_length]
     rw[e]at hI;go_wp2;go_ret;exact⟨_,rfl,hI,hG.below⟩
theorem SE(hv:Vp w rx rn rc rs sx sn sc ss):LH vid rn rs sn ss=bN vid rn rs sn ss:=by
 unfold LH bN;rw[aCl hv.ranges.len,aCm hv.subs.len (fun i hi=>⟨(hv.subs.faces i hi).2.2.len,fun k hk=>((hv.subs.faces i hi).2.2.addrs k hk).2.2.len⟩)]
theorem EE(v:Vn)(t:Int)(h:bN v.id v.rn v.rs v.sn v.ss=t)(w:World)(hv:Vp w v.rx v.rn v.rc v.rs v.sx v.sn v.sc v.ss)(hrn:v.rn<=9223372036854775807)(hsn:v.sn<=9223372036854775807):
  Calls Tryz.prog 38 #[.agg #[.int .i64 v.id, .slice v.rx v.rn v.rc, .slice v.sx v.sn v.sc]] w fun e w'=>e= .returned (.int .i64 t)/\Below w.heap.size w w':=by
 rw[<-h,<-SE (vid:=v.id) hv];exact EA v.id v.rx v.rn v.rc v.rs v.sx v.sn v.sc v.ss w hv hrn hsn
def eV(vs:List Vn)(i:Nat):Bool:=gS (vnAt vs i)||!fK vs i
theorem SF(hl:vs.length=n)(h:∀i,i<n->eV vs i=false):dV n vs=true:=by
 have hh:∀i,i<n->gS (vnAt vs i)=false/\fK vs i=true:=fun i hi=>by
  have:=h i hi;unfold eV at this;simpa using this
 unfold dV;rw[NG fun j hj=>(hh j (by omega)).2,dD fun j hj=>(hh j hj).1];rfl
theorem VQ(hl:vs.length=n){i:Nat}(hi:i<n)(h:eV vs i=true):dV n vs=false:=by
 unfold eV at h;unfold dV;rcases Bool.or_eq_true_iff.1 h with h|h
 ·rw[aW (f:=fun i=>gS (vnAt vs i)) hi h];simp
 ·rw[RW (k:=i) (by omega) (by simpa using h)];rfl
def eF(n:Nat)(vs:List Vn)(ls:List (Int×Int))(i:Nat):Bool:=pB n vs ls i||!eS ls i
theorem OD(hl:ls.length=ln)(h:∀i,i<ln->eF n vs ls i=false):cN n vs ln ls=true:=by
 have hh:∀i,i<ln->pB n vs ls i=false/\eS ls i=true:=fun i hi=>by
  have:=h i hi;unfold eF at this;simpa using this
 unfold cN;rw[CL fun j hj=>(hh j (by omega)).2,dD fun j hj=>(hh j hj).1];rfl
theorem SG(hl:ls.length=ln){i:Nat}(hi:i<ln)(h:eF n vs ls i=true):cN n vs ln ls=false:=by
 unfold eF at h;unfold cN;rcases Bool.or_eq_true_iff.1 h with h|h
 ·rw[aW (f:=pB n vs ls) hi h];simp
 ·rw[GU (k:=i) (by omega) (by simpa using h)];rfl
theorem CO(h:(decide (6<n)||decide (12<ln))=true):bQ n vs ln ls=2:=by
 unfold bQ;rw[if_pos h]
theorem tX(h:(decide (6<n)||decide (12<ln))=false)(h2:(dV n vs&&cN n vs ln ls&&tS ls n vs)=false):bQ n vs ln ls=1:=by
 unfold bQ;rw[if_neg (by rw[h];simp),if_neg (by rw[h2];simp)]
theorem VR(h:(decide (6<n)||decide (12<ln))=false)(h1:dV n vs=true)(h2:cN n vs ln ls=true)(h3:tS ls n vs=true):bQ n vs ln ls=0:=by
 unfold bQ;rw[if_neg (by rw[h];simp),h1,h2,h3];rfl
theorem EF(x:Option Addr)(n c:Nat)(vs:List Vn)(lx:Option Addr)(ln lc:Nat)(ls:List (Int×Int))(w:World)(hp:VS w x n vs)(hn:n<=9223372036854775807)(hl:PS w lx ln ls)(hln:ln<=9223372036854775807):
  Calls Tryz.prog 13 #[.agg #[.slice x n c, .slice lx ln lc]] w fun e w'=>e= .returned (.int .i64 (bQ n vs ln ls))/\Below w.heap.size w w':=by
 have hvl:Hid (vs.length=n):=hp.len;have hll:Hid (ls.length=ln):=hl.len;go_enter Tryz.func13,Tryz.ntmps13;go_upto_region 1 with fail
 obtain⟨w2,hw2⟩:∃w2,w2=w.alloc (jR x n c lx ln lc):=⟨_,rfl⟩;rw[<-hw2];have h02:Below w.heap.size w w2:=by rw[hw2];exact bl1 w _
 have hbox:w2.heap[w.heap.size]?=some (jR x n c lx ln lc):=by rw[hw2];exact aB _ rfl
 clear hw2;obtain⟨q0,q1⟩:=aZ hbox rfl rfl;have hp2:=hp.later h02;have hl2:=hl.later h02;have hsz:Hid (w.heap.size<=w2.heap.size):=h02.size;clear hbox hp hl;generalize hbk:w.heap.size=bk at*;by_cases h6:6<n
 ·have hv:Hid (bQ n vs ln ls=2):=CO (by simp[h6]);go_wp2;go_ret;exact⟨aP hv.out.symm,by first|exact h02|(rw[hbk];exact h02)⟩
 by_cases h12:12<ln
 ·have hv:Hid (bQ n vs ln ls=2):=CO (by simp[h12]);go_wp2;go_ret;exact⟨aP hv.out.symm,by first|exact h02|(rw[hbk];exact h02)⟩
 have hfew:Hid ((decide (6<n)||decide (12<ln))=false):=by show _=_;simp[h6,h12]
 have hn6:Hid (n<=6):=by show _<=_;omega
 have hl12:Hid (ln<=12):=by show _<=_;omega
 go_wp2;clear h6 h12;go_loopw [3] (fun i wr=>∃k:Nat,k<=n/\i= .int .i64 k/\Below w2.heap.size w2 wr/\Hid (∀j,j<k->eV vs j=false)) (fun i _=>n- (intOf i).toNat)
 case atStart=>exact⟨0,by omega,rfl,zD,fun j hj=>by omega⟩
 case round=>
  obtain⟨k,hk,rfl,hB,hno⟩:=hrel
  have r0:=cell_later hB q0
  by_cases hlt:k<n
  ·have hlt':Hid (k<n):=hlt;have hpr:=hp2.later hB;have hvp:=hpr.vps k hlt;obtain⟨b,o,rfl,c0,c1,c2⟩:=hpr.cells k hlt;have hcv:∀t,bN (vnAt vs k).id (vnAt vs k).rn (vnAt vs k).rs (vnAt vs k).sn (vnAt vs k).ss=t->∀W,Below wr.heap.size wr W->Calls Tryz.prog 38 #[.agg #[.int .i64 (vnAt vs k).id, .slice (vnAt vs k).rx (vnAt vs k).rn (vnAt vs k).rc, .slice (vnAt vs k).sx (vnAt vs k).sn (vnAt vs k).sc]] W fun e w'=>e= .returned (.int .i64 t)/\Below W.heap.size W w':=fun t ht W hW=>EE _ t ht W (hvp.2.2.2.later hW) hvp.1 hvp.2.1;have a0:=Ws.here r0;have a2:=Ws.here c0;have a3:=Ws.here c1;have a4:=Ws.here c2;go_upto_region 6 with fail
   clear r0 c0 c1 c2;go_cut [52] (fun t wc=>t= .bool (eV vs k)/\Below wr.heap.size wr wc)
   case first=>
    by_cases hz:bN (vnAt vs k).id (vnAt vs k).rn (vnAt vs k).rs (vnAt vs k).sn (vnAt vs k).ss=0
    ·have hcv0:=hcv 0 hz;have hvb:Hid (gS (vnAt vs k)=false):=by show _=_;unfold gS;simp[hz]
     clear hz hcv;by_cases hk0:k=0
     ·have hdk:decide (0<k)=false:=by simp;omega
      have hv:Hid (eV vs k=false):=by show _=_;unfold eV;rw[hvb.out,hk0];rfl
      refine aE wr.heap.size (by kernel_rfl) (by kernel_rfl) ?_;clear hk0;repeat(go_big_quiet_step (first|(go_at_call 38;exact Calls.in_ws (zE) (hcv0 _ (Ws.property _)))))
      refine wpQuiet_nil ?_;rintro _ ⟨u,rfl⟩;have hu:=u.property;generalize u.val=wu at hu⊢;clear u a0 a2 a3 a4;go_wp2;go_meet
      case rel=>exact⟨by rw[hv.out],hu⟩
     ·obtain⟨i,rfl⟩:∃i,k=i+1:=⟨k- 1,by omega⟩;obtain⟨b4,o4,hx4,d0, -, -⟩:=hpr.cells i (by omega);simp only[Option.some.injEq,Addr.mk.injEq,and_true]at hx4;obtain⟨rfl,rfl⟩:=hx4;have a5:=Ws.here d0;clear d0;have hra:Hid (fK vs (i+1)=decide ((vnAt vs i).id<(vnAt vs (i+1)).id)):=by show _=_;unfold fK;simp
      by_cases hle:(vnAt vs i).id<(vnAt vs (i+1)).id
      ·have hge:decide ((vnAt vs i).id≥(vnAt vs (i+1)).id)=false:=by simp;omega
       have hv:Hid (eV vs (i+1)=false):=by show _=_;unfold eV;rw[hvb.out,hra.out,decide_eq_true hle];rfl
       refine aE wr.heap.size (by kernel_rfl) (by kernel_rfl) ?_;repeat(go_big_quiet_step (first|(go_at_call 38;exact Calls.in_ws (zE) (hcv0 _ (Ws.property _)))))
       refine wpQuiet_nil ?_;rintro _ ⟨u,rfl⟩;have hu:=u.property;generalize u.val=wu at hu⊢;clear u a0 a2 a3 a4 a5;go_wp2;go_meet
       case rel=>exact⟨by rw[hv.out],hu⟩
      ·have hge:decide ((vnAt vs i).id≥(vnAt vs (i+1)).id)=true:=by simp;omega
       have hv:Hid (eV vs (i+1)=true):=by show _=_;unfold eV;rw[hvb.out,hra.out,decide_eq_false hle];rfl
       refine aE wr.heap.size (by kernel_rfl) (by kernel_rfl) ?_;repeat(go_big_quiet_step (first|(go_at_call 38;exact Calls.in_ws (zE) (hcv0 _ (Ws.property _)))))
       refine wpQuiet_nil ?_;rintro _ ⟨u,rfl⟩;have hu:=u.property;generalize u.val=wu at hu⊢;clear u a0 a2 a3 a4 a5;go_wp2;go_meet
       case rel=>exact⟨by rw[hv.out],hu⟩
    ·have hvb:Hid (gS (vnAt vs k)=true):=by show _=_;unfold gS;simpa using hz
     have hcv0:=hcv _ rfl;clear hcv;generalize bN (vnAt vs k).id (vnAt vs k).rn (vnAt vs k).rs (vnAt vs k).sn (vnAt vs k).ss=t0 at*;have h1:(t0==0)=false:=by simpa using hz
     have h2:(t0 !=0)=true:=by simpa using hz
     have hv:Hid (eV vs k=true):=by show _=_;unfold eV;rw[hvb.out];rfl
     refine aE wr.heap.size (by kernel_rfl) (by kernel_rfl) ?_;repeat(go_big_quiet_step (first|(go_at_call 38;exact Calls.in_ws (zE) (hcv0 _ (Ws.property _)))))
     refine wpQuiet_nil ?_;rintro _ ⟨u,rfl⟩;have hu:=u.property;generalize u.val=wu at hu⊢;clear u a0 a2 a3 a4;go_wp2;go_meet
     case rel=>exact⟨by rw[hv.out],hu⟩
   case rest=>
    obtain⟨rfl,hBc⟩:=hcut
    clear a0 a2 a3 a4 hcv hvp hpr
    have hfin:=hB.trans (hBc.mono hB.size)
    clear hB hBc
    cases hh:eV vs k
    ·go_wp2;go_roundw
     case rel=>exact⟨k+1,hlt'.out,by go_num,hfin,fun j hj=>by
      by_cases hj2:j<k
      ·exact hno.out j hj2
      ·obtain rfl:j=k:=by omega
       exact hh⟩
     case measure=>simp[intOf];have:=hlt'.out;omega
    ·have hv:Hid (bQ n vs ln ls=1):=tX hfew.out (by rw[VQ hvl.out hlt hh];rfl);go_wp2;go_ret;exact⟨aP hv.out.symm,by first|exact h02.trans (hfin.mono hsz.out)|(rw[hbk];exact h02.trans (hfin.mono hsz.out))⟩
  ·obtain rfl:n=k:=by omega
   have hvr:Hid (dV n vs=true):=SF hvl.out hno.out;clear r0 hno hlt hk;obtain⟨w3,hw3⟩:∃w3,w3=wr:=⟨_,rfl⟩;subst hw3;have h03:Below bk w w3:=h02.trans (hB.mono hsz.out);have hsz3:Hid (bk<=w3.heap.size):=Nat.le_trans hsz.out hB.size;have hp3:=hp2.later hB;have hl3:=hl2.later hB;have s0:=cell_later hB q0;have s1:=cell_later hB q1;clear hB hp2 hl2 q0 q1 h02 hsz;go_wp2;go_loopw [4] (fun i wr=>∃q:Nat,q<=ln/\i= .int .i64 q/\Below w3.heap.size w3 wr/\Hid (∀j,j<q->eF n vs ls j=false)) (fun i _=>ln- (intOf i).toNat)
   case atStart=>exact⟨0,by omega,rfl,zD,fun j hj=>by omega⟩
   case round=>
    obtain⟨q,hq,rfl,hC,hno⟩:=hrel
    have r0:=cell_later hC s0
    have r1:=cell_later hC s1
    by_cases hlt:q<ln
    ·have hlt':Hid (q<ln):=hlt;have hlr:=hl3.later hC;obtain⟨b,o,rfl,c0,c1⟩:=hlr.cells q hlt;go_upto_region 12 with fail
     obtain⟨w4,hw4⟩:∃w4,w4=wr.alloc (.cells #[.int .i64 (at0 ls q), .int .i64 (bY ls q)] 77):=⟨_,rfl⟩;rw[<-hw4];have h34:Below wr.heap.size wr w4:=by rw[hw4];exact bl1 wr _
     have hbf:w4.heap[wr.heap.size]?=some (.cells #[.int .i64 (at0 ls q), .int .i64 (bY ls q)] 77):=by rw[hw4];exact aB _ rfl
     clear hw4 c0 c1;have hC4:=hC.trans (h34.mono hC.size);have hp4:=hp3.later hC4;have hl4:=hlr.later h34;have a0:=Ws.here (v:= .int .i64 (at0 ls q)) ((aD hbf).1 0);have a1:=Ws.here (v:= .int .i64 (bY ls q)) ((aD hbf).1 1);have a2:=Ws.here (cell_later h34 r0);have a3:=Ws.here (cell_later h34 r1);clear hbf r0 r1 h34 hlr;have hva:∀y t,aM n vs y=t->∀W,Below w4.heap.size w4 W->Calls Tryz.prog 15 #[.agg #[.slice x n c, .slice (some ⟨b,o,none⟩) ln lc], .int .i64 y] W fun e w'=>e= .returned (.int .i64 t)/\Below W.heap.size W w':=fun y t h W hW=>nZ x n c vs _ ln lc y t h W (hp4.later hW) (by have:=hn6.out;omega);generalize wr.heap.size=bf at*;go_cut [123] (fun t wc=>t= .bool (eF n vs ls q)/\Below w4.heap.size w4 wc)
     case first=>
      have hla:Hid (eF n vs ls q=(decide (bY ls q<=at0 ls q)||decide (aM n vs (at0 ls q)<0)||decide (aM n vs (bY ls q)<0)||!eS ls q)):=rfl
      have hv0:=hva (at0 ls q) _ rfl
      have hv1:=hva (bY ls q) _ rfl
      clear hva
      generalize aM n vs (at0 ls q)=pa at*
      generalize aM n vs (bY ls q)=pb at*
      by_cases e1:bY ls q<=at0 ls q
      ·have hge:decide (at0 ls q≥bY ls q)=true:=by simp;omega
       generalize at0 ls q=la at*;generalize bY ls q=lb at*;have hv:Hid (eF n vs ls q=true):=by show _=_;rw[hla.out,decide_eq_true e1];rfl
       refine aE w4.heap.size (by kernel_rfl) (by kernel_rfl) ?_;repeat(go_big_quiet_step (first|fail))
       refine wpQuiet_nil ?_;rintro _ ⟨u,rfl⟩;have hu:=u.property;generalize u.val=wu at hu⊢;clear u a0 a1 a2 a3;go_wp2;go_meet
       case rel=>exact⟨by rw[hv.out],hu⟩
      have hge:decide (at0 ls q≥bY ls q)=false:=by simp;omega
      by_cases e2:pa<0
      ·have hd2:decide (pa<0)=true:=decide_eq_true e2;generalize at0 ls q=la at*;generalize bY ls q=lb at*;have hv:Hid (eF n vs ls q=true):=by show _=_;rw[hla.out,hd2];simp
       refine aE w4.heap.size (by kernel_rfl) (by kernel_rfl) ?_;repeat(go_big_quiet_step (first|(go_at_call_of 15 la;exact Calls.in_ws (zE) (hv0 _ (Ws.property _)))))
       refine wpQuiet_nil ?_;rintro _ ⟨u,rfl⟩;have hu:=u.property;generalize u.val=wu at hu⊢;clear u a0 a1 a2 a3;go_wp2;go_meet
       case rel=>exact⟨by rw[hv.out],hu⟩
      have hd2:decide (pa<0)=false:=decide_eq_false e2
      by_cases e3:pb<0
      ·have hd3:decide (pb<0)=true:=decide_eq_true e3;have hne:Hid (at0 ls q≠bY ls q):=by show _≠_;omega
       generalize at0 ls q=la at*;generalize bY ls q=lb at*;have hv:Hid (eF n vs ls q=true):=by show _=_;rw[hla.out,hd3];simp
       refine aE w4.heap.size (by kernel_rfl) (by kernel_rfl) ?_;repeat(go_big_quiet_step (first|(go_at_call_of 15 la;exact Calls.in_ws (zE) (hv0 _ (Ws.property _)))|(go_at_call_of 15 lb;exact Calls.in_ws (zE) (hv1 _ (Ws.property _)))))
       refine wpQuiet_nil ?_;rintro _ ⟨u,rfl⟩;have hu:=u.property;generalize u.val=wu at hu⊢;clear u a0 a1 a2 a3;go_wp2;go_meet
       case rel=>exact⟨by rw[hv.out],hu⟩
      have hd3:decide (pb<0)=false:=decide_eq_false e3
      by_cases hq0:q=0
      ·have hdk:decide (0<q)=false:=by simp;omega
       have hr0:Hid (eS ls q=true):=by show _=_;rw[hq0];rfl
       clear hq0;generalize at0 ls q=la at*;generalize bY ls q=lb at*;have hv:Hid (eF n vs ls q=false):=by show _=_;rw[hla.out,decide_eq_false e1,hd2,hd3,hr0.out];rfl
       refine aE w4.heap.size (by kernel_rfl) (by kernel_rfl) ?_;repeat(go_big_quiet_step (first|(go_at_call_of 15 la;exact Calls.in_ws (zE) (hv0 _ (Ws.property _)))|(go_at_call_of 15 lb;exact Calls.in_ws (zE) (hv1 _ (Ws.property _)))))
       refine wpQuiet_nil ?_;rintro _ ⟨u,rfl⟩;have hu:=u.property;generalize u.val=wu at hu⊢;clear u a0 a1 a2 a3;go_wp2;go_meet
       case rel=>exact⟨by rw[hv.out],hu⟩
      ·obtain⟨i,rfl⟩:∃i,q=i+1:=⟨q- 1,by omega⟩;obtain⟨b4,o4,hx4,d0,d1⟩:=hl4.cells i (by omega);simp only[Option.some.injEq,Addr.mk.injEq,and_true]at hx4;obtain⟨rfl,rfl⟩:=hx4;have a4:=Ws.here d0;have a5:=Ws.here d1;clear d0 d1;have hra:Hid (eS ls (i+1)=decide (at0 ls i<at0 ls (i+1)\/(at0 ls i=at0 ls (i+1)/\bY ls i<bY ls (i+1)))):=by show _=_;unfold eS;simp
       generalize at0 ls (i+1)=la at*;generalize bY ls (i+1)=lb at*;generalize at0 ls i=ma at*;generalize bY ls i=mb at*;by_cases e4:ma>la
       ·have hd4:decide (ma>la)=true:=decide_eq_true e4;have hv:Hid (eF n vs ls (i+1)=true):=by show _=_;rw[hla.out,hra.out,decide_eq_false (by omega:¬(ma<la\/(ma=la/\mb<lb)))];simp
        refine aE w4.heap.size (by kernel_rfl) (by kernel_rfl) ?_;repeat(go_big_quiet_step (first|(go_at_call_of 15 la;exact Calls.in_ws (zE) (hv0 _ (Ws.property _)))|(go_at_call_of 15 lb;exact Calls.in_ws (zE) (hv1 _ (Ws.property _)))))
        refine wpQuiet_nil ?_;rintro _ ⟨u,rfl⟩;have hu:=u.property;generalize u.val=wu at hu⊢;clear u a0 a1 a2 a3 a4 a5;go_wp2;go_meet
        case rel=>exact⟨by rw[hv.out],hu⟩
       have hd4:decide (ma>la)=false:=decide_eq_false e4;by_cases e5:ma=la
       ·have hd5:decide (ma=la)=true:=decide_eq_true e5;have hd5':(ma==la)=true:=by simpa using e5
        have e5':Hid (ma=la):=e5;clear e5;by_cases e6:mb<lb
        ·have hd6:decide (mb≥lb)=false:=by simp;omega
         have hv:Hid (eF n vs ls (i+1)=false):=by show _=_;rw[hla.out,hra.out,decide_eq_false e1,hd2,hd3,decide_eq_true (.inr ⟨e5'.out,e6⟩:ma<la\/(ma=la/\mb<lb))];rfl
         refine aE w4.heap.size (by kernel_rfl) (by kernel_rfl) ?_;repeat(go_big_quiet_step (first|(go_at_call_of 15 la;exact Calls.in_ws (zE) (hv0 _ (Ws.property _)))|(go_at_call_of 15 lb;exact Calls.in_ws (zE) (hv1 _ (Ws.property _)))))
         refine wpQuiet_nil ?_;rintro _ ⟨u,rfl⟩;have hu:=u.property;generalize u.val=wu at hu⊢;clear u a0 a1 a2 a3 a4 a5;go_wp2;go_meet
         case rel=>exact⟨by rw[hv.out],hu⟩
        ·have hd6:decide (mb≥lb)=true:=by simp;omega
         have hv:Hid (eF n vs ls (i+1)=true):=by show _=_;rw[hla.out,hra.out,decide_eq_false (by have:=e5'.out;omega:¬(ma<la\/(ma=la/\mb<lb)))];simp
         refine aE w4.heap.size (by kernel_rfl) (by kernel_rfl) ?_;repeat(go_big_quiet_step (first|(go_at_call_of 15 la;exact Calls.in_ws (zE) (hv0 _ (Ws.property _)))|(go_at_call_of 15 lb;exact Calls.in_ws (zE) (hv1 _ (Ws.property _)))))
         refine wpQuiet_nil ?_;rintro _ ⟨u,rfl⟩;have hu:=u.property;generalize u.val=wu at hu⊢;clear u a0 a1 a2 a3 a4 a5;go_wp2;go_meet
         case rel=>exact⟨by rw[hv.out],hu⟩
       ·have hd5:decide (ma=la)=false:=decide_eq_false e5;have hd5':(ma==la)=false:=by simpa using e5
        have hv:Hid (eF n vs ls (i+1)=false):=by show _=_;rw[hla.out,hra.out,decide_eq_false e1,hd2,hd3,decide_eq_true (.inl (by omega):ma<la\/(ma=la/\mb<lb))];rfl
        refine aE w4.heap.size (by kernel_rfl) (by kernel_rfl) ?_;repeat(go_big_quiet_step (first|(go_at_call_of 15 la;exact Calls.in_ws (zE) (hv0 _ (Ws.property _)))|(go_at_call_of 15 lb;exact Calls.in_ws (zE) (hv1 _ (Ws.property _)))))
        refine wpQuiet_nil ?_;rintro _ ⟨u,rfl⟩;have hu:=u.property;generalize u.val=wu at hu⊢;clear u a0 a1 a2 a3 a4 a5;go_wp2;go_meet
        case rel=>exact⟨by rw[hv.out],hu⟩
     case rest=>
      obtain⟨rfl,hBc⟩:=hcut
      clear a0 a1 a2 a3 hva
      have hfin:=hC4.trans (hBc.mono hC4.size)
      clear hC hC4 hBc hp4 hl4
      cases hh:eF n vs ls q
      ·go_wp2;go_roundw
       case rel=>exact⟨q+1,hlt'.out,by go_num,hfin,fun j hj=>by
        by_cases hj2:j<q
        ·exact hno.out j hj2
        ·obtain rfl:j=q:=by omega
         exact hh⟩
       case measure=>simp[intOf];have:=hlt'.out;omega
      ·have hv:Hid (bQ n vs ln ls=1):=tX hfew.out (by rw[SG hll.out hlt hh];simp);go_wp2;go_ret;exact⟨aP hv.out.symm,by first|exact h03.trans (hfin.mono hsz3.out)|(rw[hbk];exact h03.trans (hfin.mono hsz3.out))⟩
    ·obtain rfl:ln=q:=by omega
     have hlr:Hid (cN n vs ln ls=true):=OD hll.out hno.out;obtain⟨w5,hw5⟩:∃w5,w5=wr:=⟨_,rfl⟩;subst hw5;have h05:Below bk w w5:=h03.trans (hC.mono hsz3.out);have hsz5:Hid (bk<=w5.heap.size):=Nat.le_trans hsz3.out hC.size;have hp5:=hp3.later hC;have hl5:=hl3.later hC;have hrise:Hid (cX vs=true):=by
      have:=hvr.out;unfold dV at this;exact(Bool.and_eq_true_iff.1 this).1
     clear hno hlt hq hC hp3 hl3 s0 s1 h03 hsz3;go_wp2;go_loopw [6] (fun i wr=>∃k:Nat,k<=n/\i= .int .i64 k/\Below w5.heap.size w5 wr/\Hid (∀j,j<n->j<k->∀m,m<(lA ls vs (vnAt vs j).id).length->gZ ls n vs j m=false)) (fun i _=>n- (intOf i).toNat)
     case atStart=>exact⟨0,by omega,rfl,zD,fun j _ hj=>by omega⟩
     case round=>
      obtain⟨k,hk,rfl,hD,hno⟩:=hrel
      have t0:=cell_later hD r0
      have t1:=cell_later hD r1
      by_cases hlt:k<n
      ·have hlt':Hid (k<n):=hlt;have hpr:=hp5.later hD;have hlq:=hl5.later hD;obtain⟨b,o,rfl,c0,c1,c2⟩:=hpr.cells k hlt;have a0:=Ws.here t0;have a1:=Ws.here t1;have a2:=Ws.here c0;go_upto_region 17 with fail
       clear c0 c1 c2;refine jG wr.heap.size 7 (by kernel_rfl) (by kernel_rfl) ?_;simp only[List.take_succ_cons,List.take_zero,List.drop_succ_cons,List.drop_zero];repeat(go_big_quiet_step (fail))
       refine wpQuiet_nil ?_;intro uu;have hu:=uu.property;generalize uu.val=w6 at hu⊢;clear uu a0 a1 a2;have hGo:=HD _ n c vs lx ln lc ls (vnAt vs k).id k w6 (hpr.later hu) (by have:=hn6.out;omega) (hlq.later hu) (by have:=hl12.out;omega) hrise.out hlr.out hlt rfl;go_wp2_with fail;refine hGo.mono ?_;rintro e w7 ⟨gv,rfl,hI,hb7⟩;clear hGo;have hw7:Below wr.heap.size wr w7:=hu.trans (hb7.mono hu.size);have hD7:Below w5.heap.size w5 w7:=hD.trans (hw7.mono hD.size);have hp7:=hpr.later hw7;have hl7:=hlq.later hw7;have u0:=cell_later hw7 t0;have u1:=cell_later hw7 t1;obtain⟨gx,gc,rfl, -, -, -,hG⟩:=hI.mem;have hgn:Hid ((lA ls vs (vnAt vs k).id).length<=6):=by
        show _<=_;have h1:(lA ls vs (vnAt vs k).id).length<=(bF vs).length:=List.length_filter_le _ _;have h2:(bF vs).length=vs.length:=by simp[bF]
        have h3:=hn6.out;have h4:=hvl.out;omega
       clear hw7 hI hu hb7 t0 t1 hpr hlq hD;obtain⟨gn,hgl⟩:∃gn,Hid (gn=(lA ls vs (vnAt vs k).id).length):=⟨_,rfl⟩;rw[<-hgl.out]at hG hgn⊢;have hgn6:gn<=1048576:=by have:=hgn.out;omega
       go_wp2;go_loopw [8] (fun i wr=>∃q:Nat,q<=gn/\i= .int .i64 q/\Below w7.heap.size w7 wr/\Hid (∀m,m<q->gZ ls n vs k m=false)) (fun i _=>gn- (intOf i).toNat)
       case atStart=>exact⟨0,by omega,rfl,zD,fun j hj=>by omega⟩
       case round=>
        obtain⟨q,hq,rfl,hE,hnq⟩:=hrel
        have v0:=cell_later hE u0
        have v1:=cell_later hE u1
        by_cases hltq:q<gn
        ·have hltq':Hid (q<gn):=hltq;obtain⟨gb,go',rfl,d0⟩:=(hG.later hE).cells q hltq;obtain⟨j,hj,e1,e2, -⟩:=SC (ls:=ls) hvl.out hrise.out (id:=(vnAt vs k).id) (k:=q) (by rw[<-hgl.out];exact hltq);have hpe:=hp7.later hE;have hle:=hl7.later hE;obtain⟨b5,o5,hx5,f0,f1,f2⟩:=hpe.cells j hj;simp only[Option.some.injEq,Addr.mk.injEq,and_true]at hx5;obtain⟨rfl,rfl⟩:=hx5;obtain⟨b6,o6,hx6,c0,c1,c2⟩:=hpe.cells k hlt;simp only[Option.some.injEq,Addr.mk.injEq,and_true]at hx6;obtain⟨rfl,rfl⟩:=hx6;have hfw:=rY hvr.out;have hva:∀W,Below wr.heap.size wr W->Calls Tryz.prog 15 #[.agg #[.slice (some ⟨b,o,none⟩) n c, .slice lx ln lc], .int .i64 (aU (lA ls vs (vnAt vs k).id) q)] W fun e w'=>e= .returned (.int .i64 j)/\Below W.heap.size W w':=fun W hW=>nZ _ n c vs lx ln lc _ _ e2 W (hpe.later hW) (by have:=hn6.out;omega);have hcl:∀W,Below wr.heap.size wr W->Calls Tryz.prog 40 #[.agg #[.int .i64 (vnAt vs k).id, .slice (vnAt vs k).rx (vnAt vs k).rn (vnAt vs k).rc, .slice (vnAt vs k).sx (vnAt vs k).sn (vnAt vs k).sc], .agg #[.int .i64 (vnAt vs j).id, .slice (vnAt vs j).rx (vnAt vs j).rn (vnAt vs j).rc, .slice (vnAt vs j).sx (vnAt vs j).sn (vnAt vs j).sc]] W fun e w'=>e= .returned (.bool (SB (vnAt vs k) (vnAt vs j)))/\Below W.heap.size W w':=fun W hW=>OA _ _ W ((hpe.vps k hlt).2.2.2.ranges.later hW) ((hpe.vps j hj).2.2.2.ranges.later hW) (by have:=(hfw k hlt).2;omega) (by have:=(hfw j hj).2;omega);have hbd:Hid (gZ ls n vs k q=((!(aU (lA ls vs (vnAt vs k).id) q==(vnAt vs k).id))&&SB (vnAt vs k) (vnAt vs j))):=by
          show _=_;unfold gZ;rw[e2,Int.toNat_natCast]
         have a0:=Ws.here v0;have a1:=Ws.here v1;have a2:=Ws.here c0;have a3:=Ws.here c1;have a4:=Ws.here c2;have a5:=Ws.here f0;have a6:=Ws.here f1;have a7:=Ws.here f2;have a8:=Ws.here d0;have hj0:(0:Int)<=j:=by omega
         have hjn:(j:Int)<n:=by omega
         go_upto_region 21 with fail
         clear v0 v1 c0 c1 c2 f0 f1 f2 d0 e1 e2 hfw hpe hle;go_cut [173] (fun t wc=>t= .bool (gZ ls n vs k q)/\Below wr.heap.size wr wc)
         case first=>
          generalize aU (lA ls vs (vnAt vs k).id) q=y at*
          by_cases e5:y=(vnAt vs k).id
          ·have hn1:(y==(vnAt vs k).id)=true:=by simpa using e5
           have hn2:(y !=(vnAt vs k).id)=false:=by simp[e5]
           have hn3:decide (y=(vnAt vs k).id)=true:=decide_eq_true e5;clear e5;have hv:Hid (gZ ls n vs k q=false):=by show _=_;rw[hbd.out,hn1];rfl
           refine aE wr.heap.size (by kernel_rfl) (by kernel_rfl) ?_;repeat(go_big_quiet_step (first|(go_at_call 15;exact Calls.in_ws (zE) (hva _ (Ws.property _)))|(go_at_call 40;exact Calls.in_ws (zE) (hcl _ (Ws.property _)))))
           refine wpQuiet_nil ?_;rintro _ ⟨u,rfl⟩;have hu:=u.property;generalize u.val=wu at hu⊢;clear u a0 a1 a2 a3 a4 a5 a6 a7 a8;go_wp2;go_meet
           case rel=>exact⟨by rw[hv.out],hu⟩
          ·have hn1:(y==(vnAt vs k).id)=false:=by simpa using e5
           have hn2:(y !=(vnAt vs k).id)=true:=by simp[e5]
           have hn3:decide (y=(vnAt vs k).id)=false:=decide_eq_false e5;have hv:Hid (gZ ls n vs k q=SB (vnAt vs k) (vnAt vs j)):=by show _=_;rw[hbd.out,hn1];rfl
           refine aE wr.heap.size (by kernel_rfl) (by kernel_rfl) ?_;repeat(go_big_quiet_step (first|(go_at_call 15;exact Calls.in_ws (zE) (hva _ (Ws.property _)))|(go_at_call 40;exact Calls.in_ws (zE) (hcl _ (Ws.property _)))))
           refine wpQuiet_nil ?_;rintro _ ⟨u,rfl⟩;have hu:=u.property;generalize u.val=wu at hu⊢;clear u a0 a1 a2 a3 a4 a5 a6 a7 a8;go_wp2;go_meet
           case rel=>exact⟨by rw[hv.out],hu⟩
         case rest=>
          obtain⟨rfl,hBc⟩:=hcut
          clear a0 a1 a2 a3 a4 a5 a6 a7 a8 hva hcl hbd
          have hfin:=hE.trans (hBc.mono hE.size)
          clear hE hBc
          cases hh:gZ ls n vs k q
          ·go_wp2;go_roundw
           case rel=>exact⟨q+1,hltq'.out,by go_num,hfin,fun m hm=>by
            by_cases hm2:m<q
            ·exact hnq.out m hm2
            ·obtain rfl:m=q:=by omega
             exact hh⟩
           case measure=>simp[intOf];have:=hltq'.out;omega
          ·have hv:Hid (bQ n vs ln ls=1):=tX hfew.out (by rw[aCv hvl.out hrise.out hlt (by rw[<-hgl.out];exact hltq) hh];simp);have hfin2:Below bk w _:=h05.trans ((hD7.trans (hfin.mono hD7.size)).mono hsz5.out);go_wp2;go_ret;exact⟨aP hv.out.symm,by first|exact hfin2|(rw[hbk];exact hfin2)⟩
        ·obtain rfl:gn=q:=by omega
         have hfin:=hD7.trans (hE.mono hD7.size);go_wp2;go_roundw
         case rel=>exact⟨k+1,hlt'.out,by go_num,hfin,fun j hjn hj m hm=>by
          by_cases hj2:j<k
          ·exact hno.out j hjn hj2 m hm
          ·obtain rfl:j=k:=by omega
           exact hnq.out m (by rw[hgl.out];exact hm)⟩
         case measure=>simp[intOf];have:=hlt'.out;omega
      ·obtain rfl:n=k:=by omega
       have hv:Hid (bQ n vs ln ls=0):=VR hfew.out hvr.out hlr.out (ZP hvl.out hrise.out fun i hi m hm=>hno.out i hi hi m hm);have hfin2:Below bk w _:=h05.trans (hD.mono hsz5.out);go_wp2;go_ret;exact⟨aP hv.out.symm,by first|exact hfin2|(rw[hbk];exact hfin2)⟩
def kK(ls:List (Int×Int))(i:Nat):Int×Int:=ls.getD i (0,0)
def cV(e:Vn):List Value:=[.int .i64 e.id, .slice e.rx e.rn e.rc, .slice e.sx e.sn e.sc]
def flatV(es:List Vn):List Value:=es.flatMap cV
theorem J5(e:Vn):(cV e).length=3:=rfl
theorem iU:∀es:List Vn,(flatV es).length=es.length*3:=lS J5
theorem OE(es fs:List Vn):flatV (es++fs)=flatV es++flatV fs:=by simp[flatV]
theorem zP:∀(es:List Vn) (i j:Nat),i<es.length->j<3->(flatV es)[i*3+j]?=(cV (vnAt es i))[j]?:=qZ J5 UM
theorem tY(es:List Vn):∀u∈flatV es,u.oneCell'=true:=fun u hu=>by
 obtain⟨e, -,hu⟩:=List.mem_flatMap.1 hu;simp only[cV,List.mem_cons,List.not_mem_nil,or_false]at hu;rcases hu with rfl|rfl|rfl<;>rfl
def cD(w:World)(base:Nat)(v:Value)(es:List Vn):Prop:=w.ownsRow base 51 3 v es.length (flatV es)
theorem cD.later{es:List Vn}(h:cD w base v es)(hb:Below w.heap.size w w'):cD w' base v es:=cW h hb
theorem cD.kept{es:List Vn}(h:cD w base v es)(hg:w.grownBy w' (some g))(hne:∀k,v.ownBlock=some k->k≠g):cD w' base v es:=fD h hg hne
theorem cD.low{es:List Vn}(h:cD w base v es)(hb:base'<=base):cD w base' v es:=iE h hb
theorem cD.lt{es:List Vn}(h:cD w base v es):∀k,v.ownBlock=some k->base<=k/\k<w.heap.size:=World.ownsRow.lt h
theorem cD.ne{es:List Vn}(h:cD w base v es)(hb:w.heap[b]?=some (.cells cs t fr))(ht:t≠51):v.ownBlock≠some b:=jC h hb ht
theorem aCw:Ty 51 25 3 (.agg #[.int .i64 0, .slice none 0 0, .slice none 0 0]) 56:=qY (by kernel_rfl) (by kernel_rfl) rfl (tY [UM]) (by decide) (by decide)
theorem VS.flatV_cells{es:List Vn}(h:VS w (some ad) n es):∀j u,(flatV es)[j]?=some u->w.cell? (ad.add j)=some u:=
 jB (by decide) J5 UM h.len fun i hi=>by
  obtain⟨b,o,hx,d0,d1,d2⟩:=h.cells i hi;exact⟨b,o,hx,by rintro(_|_|_|q) u hu<;>first|(cases hu;assumption)|simp[cV]at hu⟩
theorem VS.rw{es:List Vn}(h:VS w x n es):Rw w x n 3 (flatV es):=
 ⟨by rw[iU,h.len],fun h0 e=>(by obtain⟨b,o,hx, -⟩:=h.cells 0 h0;rw[e]at hx;cases hx),tY es,fun ad hx=>by subst hx;exact h.flatV_cells⟩
theorem cD.mem{es:List Vn}(h:cD w base v es):∃x c,v= .slice x es.length c/\es.length<=c/\c<=9223372036854775807/\(x=none->es.length=0/\c=0)/\∀i,i<es.length->∃b o,x=some ⟨b,o,none⟩/\w.cell? ⟨b,o+i*3,none⟩=some (.int .i64 (vnAt es i).id)/\w.cell? ⟨b,o+i*3+1,none⟩=some (.slice (vnAt es i).rx (vnAt es i).rn (vnAt es i).rc)/\w.cell? ⟨b,o+i*3+2,none⟩=some (.slice (vnAt es i).sx (vnAt es i).sn (vnAt es i).sc):=by
 obtain⟨x,c,hv,h1,h2,h3,h4⟩:=jU h;refine⟨x,c,hv,h1,h2,h3,fun i hi=>?_⟩;obtain⟨b,o,hx,e⟩:=h4 i hi;have e:=fun j u hj hu=>e j u hj ((zP es i j hi hj).trans hu);exact⟨b,o,hx,e 0 _ (by decide) rfl,e 1 _ (by decide) rfl,e 2 _ (by decide) rfl⟩
def cK(e:(Int×Int)):List Value:=[.int .i64 e.1, .int .i64 e.2]
def flatK(es:List (Int×Int)):List Value:=es.flatMap cK
theorem J6(e:(Int×Int)):(cK e).length=2:=rfl
theorem CP:∀es:List (Int×Int),(flatK es).length=es.length*2:=lS J6
theorem OF(es fs:List (Int×Int)):flatK (es++fs)=flatK es++flatK fs:=by simp[flatK]
theorem SH:∀(es:List (Int×Int)) (i j:Nat),i<es.length->j<2->(flatK es)[i*2+j]?=(cK (kK es i))[j]?:=qZ J6 ((0:Int),(0:Int))
theorem tZ(es:List (Int×Int)):∀u∈flatK es,u.oneCell'=true:=fun u hu=>by
 obtain⟨e, -,hu⟩:=List.mem_flatMap.1 hu;simp only[cK,List.mem_cons,List.not_mem_nil,or_false]at hu;rcases hu with rfl|rfl<;>rfl
def cJ(w:World)(base:Nat)(v:Value)(es:List (Int×Int)):Prop:=w.ownsRow base 77 2 v es.length (flatK es)
theorem cJ.later(h:cJ w base v es)(hb:Below w.heap.size w w'):cJ w' base v es:=cW h hb
theorem cJ.kept(h:cJ w base v es)(hg:w.grownBy w' (some g))(hne:∀k,v.ownBlock=some k->k≠g):cJ w' base v es:=fD h hg hne
theorem cJ.low(h:cJ w base v es)(hb:base'<=base):cJ w base' v es:=iE h hb
theorem cJ.lt(h:cJ w base v es):∀k,v.ownBlock=some k->base<=k/\k<w.heap.size:=World.ownsRow.lt h
theorem cJ.ne(h:cJ w base v es)(hb:w.heap[b]?=some (.cells cs t fr))(ht:t≠77):v.ownBlock≠some b:=jC h hb ht
theorem aCx:Ty 77 26 2 (.agg #[.int .i64 0, .int .i64 0]) 16:=qY (by kernel_rfl) (by kernel_rfl) rfl (tZ [((0:Int),(0:Int))]) (by decide) (by decide)
theorem PS.flatK_cells(h:PS w (some ad) n es):∀j u,(flatK es)[j]?=some u->w.cell? (ad.add j)=some u:=
 jB (by decide) J6 ((0:Int),(0:Int)) h.len fun i hi=>by
  obtain⟨b,o,hx,d0,d1⟩:=h.cells i hi;exact⟨b,o,hx,by rintro(_|_|q) u hu<;>first|(cases hu;assumption)|simp[cK]at hu⟩
theorem PS.rwK(h:PS w x n es):Rw w x n 2 (flatK es):=
 ⟨by rw[CP,h.len],fun h0 e=>(by obtain⟨b,o,hx, -⟩:=h.cells 0 h0;rw[e]at hx;cases hx),tZ es,fun ad hx=>by subst hx;exact h.flatK_cells⟩
theorem cJ.mem(h:cJ w base v es):∃x c,v= .slice x es.length c/\es.length<=c/\c<=9223372036854775807/\(x=none->es.length=0/\c=0)/\∀i,i<es.length->∃b o,x=some ⟨b,o,none⟩/\w.cell? ⟨b,o+i*2,none⟩=some (.int .i64 (kK es i).1)/\w.cell? ⟨b,o+i*2+1,none⟩=some (.int .i64 (kK es i).2):=by
 obtain⟨x,c,hv,h1,h2,h3,h4⟩:=jU h;refine⟨x,c,hv,h1,h2,h3,fun i hi=>?_⟩;obtain⟨b,o,hx,e⟩:=h4 i hi;have e:=fun j u hj hu=>e j u hj ((SH es i j hi hj).trans hu);exact⟨b,o,hx,e 0 _ (by decide) rfl,e 1 _ (by decide) rfl⟩
theorem zQ(x:Option Addr)(n c:Nat)(es:List Vn)(w:World)(hl:VS w x n es)(hn:n<=1048576):
  Calls Tryz.prog 179 #[.slice x n c] w fun e w'=>∃v,e= .returned v/\cD w' w.heap.size v es/\Below w.heap.size w w':=by
 obtain rfl:=hl.len;exact nJ.2.2.2.2.2.2.1 _ _ aCw x _ c _ w hl.rw hn
theorem qN(x:Option Addr)(n c:Nat)(es:List (Int×Int))(w:World)(hl:PS w x n es)(hn:n<=1048576):
  Calls Tryz.prog 180 #[.slice x n c] w fun e w'=>∃v,e= .returned v/\cJ w' w.heap.size v es/\Below w.heap.size w w':=by
 obtain rfl:=hl.len;exact nJ.2.2.2.2.2.2.2 _ _ aCx x _ c _ w hl.rwK hn
def SI(e:Vn)(n:Nat)(ps:List Vn)(w:World)(r:Ending)(w':World):Prop:=
 ∃v,r= .returned v/\Below w.heap.size w w'/\∃i,i<=n/\(∀j,j<i->¬e.id<(vnAt ps j).id)/\(i<n->e.id<(vnAt ps i).id)/\cD w' w.heap.size v (ps.take i++[e]++ps.drop i)
theorem SJ(e:Vn)(x:Option Addr)(n c:Nat)(ps:List Vn)(bf k:Nat)(w:World)(hp:VS w x n ps)(hn:n<=32)(hnc:n<=c)(hc63:c<=9223372036854775807)(hx:(x=none/\c=0)\/∃b o,x=some ⟨b,o,none⟩)
 (hby:w.cell? ⟨bf,0,none⟩=some (.func (.func 87) #[] #[])):
  Calls Tryz.prog 240 #[.slice x n c, .agg #[.int .i64 e.id, .slice e.rx e.rn e.rc, .slice e.sx e.sn e.sc], .slice (some ⟨bf,0,none⟩) 1 k] w (SI e n ps w):=by
 have hB2:=bP w (.cells #[.int .i64 e.id, .slice e.rx e.rn e.rc, .slice e.sx e.sn e.sc] 51) (.cells #[.slice (some ⟨bf,0,none⟩) 1 k] 187);refine(IV.2.2.2.2.2.2.1 _ _ aCw e x n c bf 1 k (flatV ps) (fun i=>decide (e.id<(vnAt ps i).id)) w hp.rw (tY [e]) hn hnc hc63 hx (gY _ _ x n c ps _ _ (hp.later hB2) (by omega) (fun i hi W hW=>?_) jW.2.2.2.2.2.2.1.2)).mono ?_
 ·obtain⟨v,hv,hd⟩:=sY e.id (vnAt ps i).id;exact(jW.2.2.2.2.2.2.1.1 e (vnAt ps i) v w.heap.size (w.heap.size+1) bf 1 k W (fun i=>(hW.cell (p:=⟨w.heap.size,i,none⟩) (by show w.heap.size<_;simp;omega)).trans (by simp)) (cell_later hW (by simp)) fun W9 h9=>vI e _ v hv bf k W9 (cell_later h9 (cell_later hW (cell_later hB2 hby)))).mono fun _ _ h=>⟨h.1.trans (congrArg (fun t=>Ending.returned (.bool t)) hd.symm),h.2⟩
 ·rintro r w1 ⟨v,rfl,hb,i,hi,hlow,hup,ho⟩;exact⟨v,rfl,hb,i,hi,fun j hj=>of_decide_eq_false (hlow j hj),fun h=>of_decide_eq_true (hup h),lU flatV iU OE hp.len hi ho⟩
def wN(p r:Int×Int):Bool:=decide (p.1<r.1)||(decide (p.1=r.1)&&decide (p.2<r.2))
theorem SK(p r:Int×Int):∃v,VM p.1 p.2 r.1 r.2 v/\(wN p r=decide (v<0)):=by
 unfold wN;rcases Int.lt_trichotomy p.1 r.1 with h|h|h
 ·exact⟨-1, .inl ⟨h,rfl⟩,by simp[h]⟩
 ·rcases Int.lt_trichotomy p.2 r.2 with h2|h2|h2
  ·exact⟨-1, .inr (.inl ⟨h, .inl ⟨h2,rfl⟩⟩),by simp[h,h2]⟩
  ·exact⟨0, .inr (.inl ⟨h, .inr (.inl ⟨h2,rfl⟩)⟩),by simp[h,h2]⟩
  ·exact⟨1, .inr (.inl ⟨h, .inr (.inr ⟨h2,rfl⟩)⟩),by simp[h];omega⟩
 ·exact⟨1, .inr (.inr ⟨h,rfl⟩),by simp;omega⟩
def SL(e:(Int×Int))(n:Nat)(ps:List (Int×Int))(w:World)(r:Ending)(w':World):Prop:=
 ∃v,r= .returned v/\Below w.heap.size w w'/\∃i,i<=n/\(∀j,j<i->wN e (kK ps j)=false)/\(i<n->wN e (kK ps i)=true)/\cJ w' w.heap.size v (ps.take i++[e]++ps.drop i)
theorem SM(e:(Int×Int))(x:Option Addr)(n c:Nat)(ps:List (Int×Int))(bf k:Nat)(w:World)(hp:PS w x n ps)(hn:n<=32)(hnc:n<=c)(hc63:c<=9223372036854775807)(hx:(x=none/\c=0)\/∃b o,x=some ⟨b,o,none⟩)
 (hby:w.cell? ⟨bf,0,none⟩=some (.func (.func 92) #[] #[]))(hby2:w.cell? ⟨bf,1,none⟩=some (.func (.func 93) #[] #[])):
  Calls Tryz.prog 205 #[.slice x n c, .agg #[.int .i64 e.1, .int .i64 e.2], .slice (some ⟨bf,0,none⟩) 2 k] w (SL e n ps w):=by
 have hB2:=bP w (.cells #[.int .i64 e.1, .int .i64 e.2] 77) (.cells #[.slice (some ⟨bf,0,none⟩) 2 k] 191);refine(IV.2.2.2.2.2.2.2 _ _ aCx e x n c bf 2 k (flatK ps) (fun i=>wN e (kK ps i)) w hp.rwK (tZ [e]) hn hnc hc63 hx (wI _ _ x n c ps _ _ (hp.later hB2) (by omega) (fun i hi W hW=>?_) jW.2.2.2.2.2.2.2.2)).mono ?_
 ·obtain⟨v,hv,hd⟩:=SK e (kK ps i);exact(jW.2.2.2.2.2.2.2.1 e (kK ps i) v w.heap.size (w.heap.size+1) bf 2 k W (fun i=>(hW.cell (p:=⟨w.heap.size,i,none⟩) (by show w.heap.size<_;simp;omega)).trans (by simp)) (cell_later hW (by simp)) fun W9 h9=>vJ e.1 e.2 _ _ v hv bf k W9 (cell_later h9 (cell_later hW (cell_later hB2 hby))) (cell_later h9 (cell_later hW (cell_later hB2 hby2)))).mono fun _ _ h=>⟨h.1.trans (congrArg (fun t=>Ending.returned (.bool t)) hd.symm),h.2⟩
 ·rintro r w1 ⟨v,rfl,hb,i,hi,hlow,hup,ho⟩;exact⟨v,rfl,hb,i,hi,hlow,hup,lU flatK CP OF hp.len hi ho⟩
theorem cD.frozen(h:cD w base (.slice (some ⟨g,0,none⟩) n cap) fs)(i:Nat):w.frozen? ⟨g,i,none⟩=false:=lT h i
theorem cD.block(h:cD w base (.slice (some ⟨g,0,none⟩) n cap) fs):base<=g/\∃cur,w.heap[g]?=some (.cells cur 51):=rA h
theorem cD.cells(h:cD w base (.slice (some ⟨g,0,none⟩) n cap) fs)(q:Nat)(hq:q<fs.length):
  w.cell? ⟨g,q*3,none⟩=some (.int .i64 (vnAt fs q).id)/\w.cell? ⟨g,q*3+1,none⟩=some (.slice (vnAt fs q).rx (vnAt fs q).rn (vnAt fs q).rc)/\w.cell? ⟨g,q*3+2,none⟩=some (.slice (vnAt fs q).sx (vnAt fs q).sn (vnAt fs q).sc):=by
 obtain⟨x2,c2,he2, -, -, -,hm'⟩:=h.mem;simp only[Value.slice.injEq]at he2;obtain⟨b2,o2,he3,c7,c8,c9⟩:=hm' q hq;rw[<-he2.1]at he3;simp only[Option.some.injEq,Addr.mk.injEq]at he3;obtain⟨rfl,rfl, -⟩:=he3;exact⟨by simpa using c7,by simpa using c8,by simpa using c9⟩
theorem cD.held(h:cD w base v fs)(hf:0<fs.length):∃g cap,v= .slice (some ⟨g,0,none⟩) fs.length cap:=by
 rcases h.2 with ⟨-,h0⟩|⟨g,cap,cur,hv, -⟩
 ·omega
 ·exact⟨g,cap,hv⟩
theorem eB(hi:i<fs.length)(e:Vn)(j:Nat):vnAt (fs.set i e) j=if i=j then e else vnAt fs j:=by
 unfold vnAt;rw[zF,List.getElem?_set,zF];by_cases h:i=j
 ·subst h;rw[if_pos rfl,if_pos rfl,if_pos hi];rfl
 ·rw[if_neg h,if_neg h]
theorem J7(fs:List Vn)(i:Nat)(e:Vn)(hi:i<fs.length):(((flatV fs).set (i*3) (.int .i64 e.id)).set (i*3+1) (.slice e.rx e.rn e.rc)).set (i*3+2) (.slice e.sx e.sn e.sc)=flatV (fs.set i e):=by
 refine List.ext_getElem? fun j=>?_;by_cases hj:j<fs.length*3
 ·have e1:j=(j/3)*3+j%3:=by omega
  have hq:j/3<fs.length:=by omega
  rw[e1,zP _ _ _ (by rw[List.length_set];exact hq) (by omega),eB hi,List.getElem?_set,List.length_set,List.length_set,List.getElem?_set,List.length_set,List.getElem?_set,iU];by_cases h1:i=j/3
  ·rw[if_pos h1];have h3:j%3=0\/j%3=1\/j%3=2:=by omega
   rcases h3 with h3|h3|h3
   ·rw[if_neg (by omega),if_neg (by omega),if_pos (by omega),if_pos (by omega),h3];rfl
   ·rw[if_neg (by omega),if_pos (by omega),if_pos (by omega),h3];rfl
   ·rw[if_pos (by omega),if_pos (by omega),h3];rfl
  ·rw[if_neg h1,if_neg (by omega),if_neg (by omega),if_neg (by omega),zP _ _ _ hq (by omega)]
 ·rw[List.getElem?_eq_none (by rw[List.length_set,List.length_set,List.length_set,iU];omega),List.getElem?_eq_none (by rw[iU,List.length_set];omega)]
def iI(w:World)(g i:Nat)(e:Vn):World:=((w.setCell ⟨g,i*3,none⟩ (.int .i64 e.id)).setCell ⟨g,i*3+1,none⟩ (.slice e.rx e.rn e.rc)).setCell ⟨g,i*3+2,none⟩ (.slice e.sx e.sn e.sc)
theorem cD.setE(h:cD w base (.slice (some ⟨g,0,none⟩) n cap) fs)(i:Nat)(hi:i<fs.length)(e:Vn):
  cD (iI w g i e) base (.slice (some ⟨g,0,none⟩) n cap) (fs.set i e):=by
 rcases h.2 with ⟨hv, -⟩|⟨g',cap',cur,hv,h1,h2,h3,h4,h5,h6⟩
 ·simp at hv
 ·simp only[Value.slice.injEq,Option.some.injEq,Addr.mk.injEq]at hv;obtain⟨⟨rfl, -⟩,rfl,rfl⟩:=hv;refine⟨iU _, .inr ⟨g,cap,((cur.setIfInBounds (i*3) (.int .i64 e.id)).setIfInBounds (i*3+1) (.slice e.rx e.rn e.rc)).setIfInBounds (i*3+2) (.slice e.sx e.sn e.sc),by rw[List.length_set],h1,heap_setCell_same _ g _ _ _ _ (heap_setCell_same _ g _ _ _ _ (heap_setCell_same w g _ _ _ _ h2)),by rw[List.length_set];exact h3,h4,by simpa using h5,?_⟩⟩;rw[List.length_set,Array.toList_setIfInBounds,Array.toList_setIfInBounds,Array.toList_setIfInBounds,List.take_set,List.take_set,List.take_set,h6,J7 fs i e hi]
theorem fO(h:b≠g):(iI w g i e).heap[b]?=w.heap[b]?:=
 (zB h).trans ((zB h).trans (zB h))
theorem mH(h:Below n w W)(hg:n<=g):Below n w (iI W g i e):=
 ((h.setCell (p:=⟨g,i*3,none⟩) hg _).setCell (p:=⟨g,i*3+1,none⟩) hg _).setCell (p:=⟨g,i*3+2,none⟩) hg _
theorem oA(a b:Int)(w:World):
  Calls Tryz.prog 204 #[.int .i64 a, .int .i64 b] w fun e w'=>e= .returned (.agg #[.int .i64 (min a b), .int .i64 (max a b)])/\Below w.heap.size w w':=by
 go_enter Tryz.func204,Tryz.ntmps204;go_wp2;refine bodyPost_ret (v:= .agg #[.int .i64 (min a b), .int .i64 (max a b)]) (by simp[results,Tryz.results204,go_sem]) rfl ⟨rfl,?_⟩;exact bl1 _ _
def oB(w:World)(base:Nat)(v:Vn):Prop:=bT w base (.slice v.rx v.rn v.rc) v.rs/\kN w base (.slice v.sx v.sn v.sc) v.ss v.ss.length
theorem oB.later{v:Vn}(h:oB w base v)(hb:Below w.heap.size w w'):oB w' base v:=⟨bT.later h.1 hb,h.2.later hb⟩
theorem oB.low{v:Vn}(h:oB w base v)(hb:base'<=base):oB w base' v:=⟨h.1.low hb,h.2.low hb⟩
theorem oB.putBox{v:Vn}(h:oB w base v)(hb:w.heap[b]?=some (.cells cs t))(h0:t≠59)(h1:t≠72)(h2:t≠75)(h3:t≠3):oB (w.setCell ⟨b,o,none⟩ u) base v:=
 ⟨h.1.putBox hb h0,h.2.putBox hb h1 h2 h3⟩
theorem oB.put{v:Vn}(h:oB w base v)(hb:b<base):oB (w.setCell ⟨b,o,none⟩ u) base v:=⟨h.1.put hb,h.2.put hb⟩
theorem oB.vp{v:Vn}(h:oB w base v):v.rn<=9223372036854775807/\v.sn<=9223372036854775807/\v.rc<=9223372036854775807/\Vp w v.rx v.rn v.rc v.rs v.sx v.sn v.sc v.ss:=by
 obtain⟨x1,c1,e1,h1,h2,h3⟩:=h.1.rs;obtain⟨x2,c2,e2,g1,g2,g3⟩:=h.2.subs;simp only[Value.slice.injEq]at e1 e2;obtain⟨rfl,hrn,rfl⟩:=e1;obtain⟨rfl,hsn,rfl⟩:=e2;rw[hrn,hsn];exact⟨by omega,by omega,h3,⟨h2,g2,h1,g1⟩⟩
def oC(v u:Vn):Prop:=v.id=u.id/\v.rn=u.rn/\v.rs=u.rs/\v.sn=u.sn/\cO v.ss u.ss
def cQ(vs us:List Vn):Prop:=vs.length=us.length/\∀i,i<vs.length->oC (vnAt vs i) (vnAt us i)
theorem oC.refl(v:Vn):oC v v:=⟨rfl,rfl,rfl,rfl,cO.refl _⟩
theorem cQ.refl(vs:List Vn):cQ vs vs:=⟨rfl,fun _ _=>oC.refl _⟩
theorem cQ.set{u:Vn}(h:cQ vs us)(hk:k<us.length)(hu:oC (vnAt vs k) u):cQ vs (us.set k u):=by
 refine⟨by rw[List.length_set];exact h.1,fun i hi=>?_⟩;rw[eB hk];split
 ·rename_i e;rw[<-e];exact hu
 ·exact h.2 i hi
theorem oB.setN{v:Vn}(h:oB w base v)(hO:cD w base' (.slice (some ⟨g,0,none⟩) n cap) fs):oB (iI w g k e) base v:=by
 obtain⟨-,cur,hg⟩:=hO.block;have h1:=h.putBox (o:=k*3) (u:= .int .i64 e.id) hg (by decide) (by decide) (by decide) (by decide);have g1:=heap_setCell_same w g (k*3) _ _ (.int .i64 e.id) hg;have h2:=h1.putBox (o:=k*3+1) (u:= .slice e.rx e.rn e.rc) g1 (by decide) (by decide) (by decide) (by decide);have g2:=heap_setCell_same _ g (k*3+1) _ _ (.slice e.rx e.rn e.rc) g1;exact h2.putBox (o:=k*3+2) (u:= .slice e.sx e.sn e.sc) g2 (by decide) (by decide) (by decide) (by decide)
theorem cJ.setN(h:cJ w base v ls)(hO:cD w base' (.slice (some ⟨g,0,none⟩) n cap) fs):cJ (iI w g k e) base v ls:=by
 obtain⟨-,cur,hg⟩:=hO.block;have h1:cJ (w.setCell ⟨g,k*3,none⟩ (.int .i64 e.id)) base v ls:=h.kept (aN _ _ _ _) (fun q hq e=>by subst e;exact h.ne hg (by decide) hq);have g1:=heap_setCell_same w g (k*3) _ _ (.int .i64 e.id) hg;have h2:cJ ((w.setCell ⟨g,k*3,none⟩ (.int .i64 e.id)).setCell ⟨g,k*3+1,none⟩ (.slice e.rx e.rn e.rc)) base v ls:=h1.kept (aN _ _ _ _) (fun q hq e=>by subst e;exact h1.ne g1 (by decide) hq);have g2:=heap_setCell_same _ g (k*3+1) _ _ (.slice e.rx e.rn e.rc) g1;exact h2.kept (aN _ _ _ _) (fun q hq e=>by subst e;exact h2.ne g2 (by decide) hq)
theorem cD.put(h:cD w base v vs)(hb:b<base):cD (w.setCell ⟨b,o,none⟩ u) base v vs:=
 h.kept (aN _ _ _ _) (fun k hk=>by have:=h.lt k hk;omega)
theorem cJ.put(h:cJ w base v ls)(hb:b<base):cJ (w.setCell ⟨b,o,none⟩ u) base v ls:=
 h.kept (aN _ _ _ _) (fun k hk=>by have:=h.lt k hk;omega)
abbrev eG(v l:Value):Obj:= .cells #[v,l] 28
theorem EG(hy:w2.heap[b]?=some (eG (.slice none 0 0) (.slice none 0 0)))(hb:w0.heap.size<=b)(hO1:cD w2 w0.heap.size vV vs)(hO2:cJ w2 w0.heap.size vK ls)(hB:Below w0.heap.size w0 w2):
  cD ((w2.setCell ⟨b,0,none⟩ vV).setCell ⟨b,1,none⟩ vK) w0.heap.size vV vs/\cJ ((w2.setCell ⟨b,0,none⟩ vV).setCell ⟨b,1,none⟩ vK) w0.heap.size vK ls/\((w2.setCell ⟨b,0,none⟩ vV).setCell ⟨b,1,none⟩ vK).heap[b]?=some (eG vV vK)/\Below w0.heap.size w0 ((w2.setCell ⟨b,0,none⟩ vV).setCell ⟨b,1,none⟩ vK):=by
 have n1:∀k,vV.ownBlock=some k->k≠b:=fun k hk e=>by subst e;exact hO1.ne hy (by decide) hk
 have n2:∀k,vK.ownBlock=some k->k≠b:=fun k hk e=>by subst e;exact hO2.ne hy (by decide) hk
 refine⟨(hO1.kept (aN _ _ _ _) n1).kept (aN _ _ _ _) n1,(hO2.kept (aN _ _ _ _) n2).kept (aN _ _ _ _) n2,?_,(hB.setCell hb _).setCell hb _⟩;have h1:=heap_setCell_same w2 b 0 _ _ vV hy;have h2:=heap_setCell_same _ b 1 _ _ vK h1;simpa using h2
def ZR(vs:List Vn)(ls:List (Int×Int))(w:World)(e:Ending)(w':World):Prop:=
 ∃vV vK us,e= .returned (.agg #[vV,vK])/\cQ vs us/\cD w' w.heap.size vV us/\(∀i,i<us.length->oB w' w.heap.size (vnAt us i))/\cJ w' w.heap.size vK ls/\Below w.heap.size w w'
def ZS(v:Vn):Prop:=v.rn<=64/\v.sn<=64/\(∀i,i<v.sn->(aG v.ss i).n<=64)/\∀i,i<v.sn->∀j,j<(aG v.ss i).n->(fcAt (aG v.ss i).fs j).n<=64
def YD(vs:List Vn)(ls:List (Int×Int))(n ln nb:Nat)(xv:Option Addr)(cv:Nat)(xl:Option Addr)(cl:Nat)(w0:World)(i:Value)(wr:World):Prop:=∃(q:Nat) (us:List Vn),q<=n/\i= .int .i64 q/\cQ vs us/\(∀i,q<=i->vnAt us i=vnAt vs i)/\cD wr w0.heap.size (.slice xv n cv) us/\(∀i,i<q->oB wr w0.heap.size (vnAt us i))/\cJ wr w0.heap.size (.slice xl ln cl) ls/\wr.heap[nb]?=some (eG (.slice xv n cv) (.slice xl ln cl))/\Below w0.heap.size w0 wr
theorem iJ(x:Option Addr)(n c:Nat)(vs:List Vn)(lx:Option Addr)(ln lc:Nat)(ls:List (Int×Int))(w:World)(hp:VS w x n vs)(hn:n<=64)(hl:PS w lx ln ls)(hln:ln<=64)(hfew:∀i,i<n->ZS (vnAt vs i)):
  Calls Tryz.prog 140 #[.agg #[.slice x n c, .slice lx ln lc]] w (ZR vs ls w):=by
 have hvl:Hid (vs.length=n):=hp.len;have hll:Hid (ls.length=ln):=hl.len;go_enter Tryz.func140,Tryz.ntmps140;go_upto_region 1 with fail
 obtain⟨w0,hw0⟩:∃w0,w0=(w.alloc (jR x n c lx ln lc)).alloc (eG (.slice none 0 0) (.slice none 0 0)):=⟨_,rfl⟩;rw[<-hw0];have hB0:Below w.heap.size w w0:=by rw[hw0];exact bP w _ _
 have hb0:w0.heap[w.heap.size]?=some (jR x n c lx ln lc):=by rw[hw0];exact aH _ (aB _ rfl)
 have hr0:w0.heap[w.heap.size+1]?=some (eG (.slice none 0 0) (.slice none 0 0)):=by rw[hw0];exact aB _ (by simp)
 clear hw0;have hsz:w.heap.size+1<w0.heap.size:=(zG hr0);have hp0:=hp.later hB0;have hl0:=hl.later hB0;have a0:=Ws.here (aO hb0 0 rfl);have a1:=Ws.here (aO hb0 1 rfl);go_cut [3] (fun p wc=>∃nb vV vK,p= .pointer (some ⟨nb,0,none⟩)/\w0.heap.size<=nb/\cD wc w0.heap.size vV vs/\cJ wc w0.heap.size vK ls/\wc.heap[nb]?=some (eG vV vK)/\Below w0.heap.size w0 wc)
 case first=>
  have hbd:Below w0.heap.size w0 w0.drew:=(zD).drew
  refine bG (fun w'=>∃u:Ws w0.heap.size w0,w'=u.val) (fun j=>decide (j<8)) 9 _ (by kernel_rfl) rfl rfl ?_
  refine bE 5 [0,1,3,4] rfl _ rfl (by kernel_rfl) (fun d _ _ _ _ h=>by cases d<;>exact h) ⟨⟨_,hbd⟩,rfl⟩ ?_
  simp only[zK,zM,zI,zJ]
  repeat(go_big_quiet_step (fail))
  refine wpQuiet_nil ?_
  clear a0 a1
  refine iD 2 7 _ _ _ _ (by kernel_rfl) (by kernel_rfl) rfl rfl rfl rfl ?_ ?_
  ·intro K hK;simp only[zI,zJ];go_wp2_with fail;refine(zQ x n c vs w0.drew (hp0.later hbd) (by omega)).mono ?_;rintro e w1 ⟨v1,rfl,hO1,hb1⟩;obtain⟨x1,c1,hv1, -⟩:=hO1.mem;subst hv1;have hB1:Below w0.heap.size w0 w1:=⟨hb1.os,hb1.tape,hb1.output,hb1.size,hb1.block⟩;go_wp2_with fail;refine aC (hK.out _ _ ⟨⟨_,hB1⟩,rfl⟩ ?_);clear hK K;refine iD 5 7 _ _ _ _ (by kernel_rfl) (by kernel_rfl) rfl rfl rfl rfl ?_ ?_
   ·intro K hK;simp only[zI,zJ];go_wp2_with fail;refine(qN lx ln lc ls w1 (hl0.later hB1) (by omega)).mono ?_;rintro e w2 ⟨v2,rfl,hO2,hb2⟩;obtain⟨x2,c2,hv2, -⟩:=hO2.mem;subst hv2;have hB2:Below w0.heap.size w0 w2:=hB1.trans (hb2.mono hB1.size);go_wp2_with fail;refine aC (hK.out _ _ ⟨⟨_,hB2⟩,rfl⟩ ?_);clear hK K;refine bE 2 [6] rfl _ rfl (by kernel_rfl) (fun d _ _ _ _ h=>by cases d<;>exact h) ⟨⟨_,hB2⟩,rfl⟩ ?_;simp only[zK,zM,zI,zJ];repeat(go_big_quiet_step (fail))
    refine wpQuiet_nil ?_;refine aY 7 _ _ (by kernel_rfl) (by kernel_rfl) rfl rfl ?_;intro K hK;simp only[zI,zJ];go_wp2_with fail;have hB3:Below w0.heap.size w0 (w2.alloc (eG (.slice none 0 0) (.slice none 0 0))):=hB2.trans ((bl1 w2 _).mono hB2.size);refine aC (hK.out _ _ ⟨⟨_,hB3⟩,rfl⟩ ?_);clear hK K;obtain⟨w3,hw3⟩:∃w3,w3=w2.alloc (eG (.slice none 0 0) (.slice none 0 0)):=⟨_,rfl⟩;rw[<-hw3]at hB3⊢;have h23:Below w2.heap.size w2 w3:=by rw[hw3];exact bl1 w2 _
    have hy:w3.heap[w2.heap.size]?=some (eG (.slice none 0 0) (.slice none 0 0)):=by rw[hw3];exact aB _ rfl
    clear hw3;have hnb:w0.heap.size<=w2.heap.size:=hB2.size;have hO1':=((hO1.low (base':=w0.heap.size) (zE)).later hb2).later h23;have hO2':=(hO2.low (base':=w0.heap.size) hB1.size).later h23;have hBf:=hB3;refine bB [8] rfl (by kernel_rfl) ?_;simp only[zK,zM,zI,zJ];obtain⟨q0,q1⟩:=aZ hy rfl rfl;obtain⟨f0,f1⟩:=eA hy;go_wp2_with fail;go_meet
    case rel=>exact⟨_,_,_,rfl,hnb,EG hy hnb hO1' hO2' hBf⟩
   ·intro K hK;simp only[zI,zJ];go_wp2_with fail;have hB2:Below w0.heap.size w0 (w1.alloc (eG (.slice none 0 0) (.slice none 0 0))):=hB1.trans ((bl1 w1 _).mono hB1.size);refine aC (hK.out _ _ ⟨⟨_,hB2⟩,rfl⟩ ?_);clear hK K;obtain⟨w2,hw2⟩:∃w2,w2=w1.alloc (eG (.slice none 0 0) (.slice none 0 0)):=⟨_,rfl⟩;rw[<-hw2]at hB2⊢;have h12:Below w1.heap.size w1 w2:=by rw[hw2];exact bl1 w1 _
    have hy1:w2.heap[w1.heap.size]?=some (eG (.slice none 0 0) (.slice none 0 0)):=by rw[hw2];exact aB _ rfl
    clear hw2;refine aY 5 _ _ (by kernel_rfl) (by kernel_rfl) rfl rfl ?_;intro K hK;simp only[zI,zJ];go_wp2_with fail;refine(qN lx ln lc ls w2 (hl0.later hB2) (by omega)).mono ?_;rintro e w3 ⟨v2,rfl,hO2,hb3⟩;obtain⟨x2,c2,hv2, -⟩:=hO2.mem;subst hv2;have hB3:Below w0.heap.size w0 w3:=hB2.trans (hb3.mono hB2.size);go_wp2_with fail;refine aC (hK.out _ _ ⟨⟨_,hB3⟩,rfl⟩ ?_);clear hK K;refine bE 1 [6] rfl _ rfl (by kernel_rfl) (fun d _ _ _ _ h=>by cases d<;>exact h) ⟨⟨_,hB3⟩,rfl⟩ ?_;simp only[zK,zM,zI,zJ];repeat(go_big_quiet_step (fail))
    refine wpQuiet_nil ?_;have hy:=aA hb3 hy1;have hnb:w0.heap.size<=w1.heap.size:=hB1.size;have hO1':=((hO1.low (base':=w0.heap.size) (zE)).later h12).later hb3;have hO2':=hO2.low (base':=w0.heap.size) hB2.size;have hBf:=hB3;refine bB [8] rfl (by kernel_rfl) ?_;simp only[zK,zM,zI,zJ];obtain⟨q0,q1⟩:=aZ hy rfl rfl;obtain⟨f0,f1⟩:=eA hy;go_wp2_with fail;go_meet
    case rel=>exact⟨_,_,_,rfl,hnb,EG hy hnb hO1' hO2' hBf⟩
  ·intro K hK;simp only[zI,zJ];go_wp2_with fail;have hB1:Below w0.heap.size w0 (w0.alloc (eG (.slice none 0 0) (.slice none 0 0))).drew:=(bl1 w0 _).drew;refine aC (hK.out _ _ ⟨⟨_,hB1⟩,rfl⟩ ?_);clear hK K;have hy0:((w0.alloc (eG (.slice none 0 0) (.slice none 0 0))).drew).heap[w0.heap.size]?=some (eG (.slice none 0 0) (.slice none 0 0)):=aB (W:=w0) _ rfl;refine aY 2 _ _ (by kernel_rfl) (by kernel_rfl) rfl rfl ?_;intro K hK;simp only[zI,zJ];go_wp2_with fail;refine(zQ x n c vs (w0.alloc (eG (.slice none 0 0) (.slice none 0 0))).drew (hp0.later hB1) (by omega)).mono ?_;rintro e w2 ⟨v1,rfl,hO1,hb2⟩;obtain⟨x1,c1,hv1, -⟩:=hO1.mem;subst hv1;have hB2:Below w0.heap.size w0 w2:=hB1.trans (hb2.mono hB1.size);go_wp2_with fail;refine aC (hK.out _ _ ⟨⟨_,hB2⟩,rfl⟩ ?_);clear hK K;refine aY 5 _ _ (by kernel_rfl) (by kernel_rfl) rfl rfl ?_;intro K hK;simp only[zI,zJ];go_wp2_with fail;refine(qN lx ln lc ls w2 (hl0.later hB2) (by omega)).mono ?_;rintro e w3 ⟨v2,rfl,hO2,hb3⟩;obtain⟨x2,c2,hv2, -⟩:=hO2.mem;subst hv2;have hB3:Below w0.heap.size w0 w3:=hB2.trans (hb3.mono hB2.size);go_wp2_with fail;refine aC (hK.out _ _ ⟨⟨_,hB3⟩,rfl⟩ ?_);clear hK K;refine bE 1 [6] rfl _ rfl (by kernel_rfl) (fun d _ _ _ _ h=>by cases d<;>exact h) ⟨⟨_,hB3⟩,rfl⟩ ?_;simp only[zK,zM,zI,zJ];repeat(go_big_quiet_step (fail))
   refine wpQuiet_nil ?_;have hy:=aA hb3 (aA hb2 hy0);have hnb:w0.heap.size<=w0.heap.size:=zE;have hO1':=(hO1.low (base':=w0.heap.size) hB1.size).later hb3;have hO2':=hO2.low (base':=w0.heap.size) hB2.size;have hBf:=hB3;refine bB [8] rfl (by kernel_rfl) ?_;simp only[zK,zM,zI,zJ];obtain⟨q0,q1⟩:=aZ hy rfl rfl;obtain⟨f0,f1⟩:=eA hy;go_wp2_with fail;go_meet
   case rel=>exact⟨_,_,_,rfl,hnb,EG hy hnb hO1' hO2' hBf⟩
 case rest=>
  clear a0 a1
  obtain⟨nb,vV,vK,rfl,hnb,hOV,hOK,hbx,hBc⟩:=hcut
  obtain⟨xv,cv,hvv, -⟩:=hOV.mem
  obtain⟨xl,cl,hvk, -⟩:=hOK.mem
  rw[hvl.out]at hvv
  rw[hll.out]at hvk
  subst hvv
  subst hvk
  have e1:=aO hbx 0 rfl
  go_wp2
  clear e1
  go_loopw [15] (fun i wr=>YD vs ls n ln nb xv cv xl cl w0 i wr) (fun i _=>n- (intOf i).toNat)
  case atStart=>exact⟨0,vs,by omega,rfl,cQ.refl _,fun _ _=>rfl,hOV,fun i hi=>by omega,hOK,hbx,hBc⟩
  case round=>
   clear hOV hOK hbx hBc
   obtain⟨q,us,hq,rfl,hs,htl,hO,hV,hK',hbr,hBr⟩:=hrel
   have hul:Hid (us.length=n):=by show _=_;rw[<-hs.1];exact hvl.out
   by_cases hlt:q<n
   ·have hlt':Hid (q<n):=hlt;have hqu:q<us.length:=by rw[hul.out];exact hlt
    obtain⟨g,cap,hgv⟩:=hO.held (by omega);simp only[Value.slice.injEq]at hgv;obtain⟨rfl, -,rfl⟩:=hgv;obtain⟨d0,d1,d2⟩:=hO.cells q hqu;obtain⟨hbg,cur,hcur⟩:=hO.block;have hgl:g<wr.heap.size:=(zG hcur);obtain⟨f1,f2,f3,f4⟩:=hfew q hlt;have hvp:=(hp0.later hBr).vps q hlt;have hfv:=fM (vnAt vs q).id (vnAt vs q).rx (vnAt vs q).rn (vnAt vs q).rc (vnAt vs q).rs (vnAt vs q).sx (vnAt vs q).sn (vnAt vs q).sc (vnAt vs q).ss wr.drew (hvp.2.2.2.later (zD).drew) f1 f2 f3 f4;rw[htl q (zE)]at d0 d1 d2;have hrsl:Hid ((vnAt vs q).rs.length=(vnAt vs q).rn/\(vnAt vs q).ss.length=(vnAt vs q).sn):=⟨hvp.2.2.2.ranges.len,hvp.2.2.2.subs.len⟩;have htl':Hid (∀i,q<=i->vnAt us i=vnAt vs i):=htl;clear htl hvp f1 f2 f3 f4;have a0:=Ws.here (aO hbr 0 rfl);have a1:=Ws.here d0;have a2:=Ws.here d1;have a3:=Ws.here d2;go_upto_region 5 with fail
    clear d0 d1 d2;have hbd:Below wr.heap.size wr wr.drew:=(zD).drew;refine bG (fun w'=>∃u:Ws wr.heap.size wr,w'=u.val) (fun j=>decide (j<9)) 11 _ (by kernel_rfl) rfl rfl ?_;refine bE 3 [0,1,2,3,4,5,6,7] rfl _ rfl (by kernel_rfl) (fun d _ _ _ _ h=>by cases d<;>exact h) ⟨⟨_,hbd⟩,rfl⟩ ?_;simp only[zK,zM,zI,zJ];repeat(go_big_quiet_step (fail))
    refine wpQuiet_nil ?_;clear a0 a1 a2 a3;refine aY 8 _ _ (by kernel_rfl) (by kernel_rfl) rfl rfl ?_;intro K hK;simp only[zI,zJ];go_wp2_with fail;refine hfv.mono ?_;rintro e w1 ⟨vR,vS,ts,rfl,hOR,hss,hOS,hb1⟩;have hB1:Below wr.heap.size wr w1:=⟨hb1.os,hb1.tape,hb1.output,hb1.size,hb1.block⟩;obtain⟨x1,c1,hv1, -⟩:=hOR.rs;obtain⟨x2,c2,hv2, -⟩:=hOS.subs;subst hv1;subst hv2;obtain⟨u,hu⟩:∃u:Vn,u=⟨(vnAt vs q).id,x1,(vnAt vs q).rs.length,c1,(vnAt vs q).rs,x2,ts.length,c2,ts⟩:=⟨_,rfl⟩;have hVu:oB w1 w0.heap.size u:=by
     rw[hu];exact oB.low (v:=⟨(vnAt vs q).id,x1,(vnAt vs q).rs.length,c1,(vnAt vs q).rs,x2,ts.length,c2,ts⟩) ⟨hOR,hOS⟩ hBr.size
    have hsu:oC (vnAt vs q) u:=by
     rw[hu];exact⟨rfl,hrsl.out.1.symm,rfl,by rw[<-hrsl.out.2];exact hss.1,hss⟩
    go_wp2_with fail;refine aC (hK.out _ _ ⟨⟨_,hB1⟩,rfl⟩ ?_);clear hK K hfv;have hO1:=hO.later hB1;obtain⟨y0,y1,y2⟩:=hO1.cells q hqu;have z0:=hO1.frozen (q*3);have z1:=hO1.frozen (q*3+1);have z2:=hO1.frozen (q*3+2);have hnbg:nb≠g:=fun e=>by rw[e]at hbr;rw[hbr]at hcur;simp at hcur
    have hOs:=hO1.setE q hqu u;have hBs:Below w0.heap.size w0 (iI w1 g q u):=mH (hBr.trans (hB1.mono hBr.size)) hbg;have hbs:(iI w1 g q u).heap[nb]?=some (eG (.slice (some ⟨g,0,none⟩) n cv) (.slice xl ln cl)):=(fO hnbg).trans (aA hB1 hbr);have hKs:cJ (iI w1 g q u) w0.heap.size (.slice xl ln cl) ls:=(hK'.later hB1).setN hO1;have hVs:∀i,i<q+1->oB (iI w1 g q u) w0.heap.size (vnAt (us.set q u) i):=fun i hi=>by
     rw[eB hqu];split
     ·exact hVu.setN hO1
     ·exact((hV i (by omega)).later hB1).setN hO1
    have hss':=hs.set hqu hsu;have hts:∀i,q+1<=i->vnAt (us.set q u) i=vnAt vs i:=fun i hi=>by rw[eB hqu,if_neg (by omega)];exact htl'.out i (by omega)
    have hfin:Hid (YD vs ls n ln nb (some ⟨g,0,none⟩) cv xl cl w0 (.int .i64 ((q:Int)+1)) (iI w1 g q u)):=⟨q+1,us.set q u,hlt'.out,by simp,hss',hts,hOs,hVs,hKs,hbs,hBs⟩;unfold iI at hfin;rw[hu]at hfin;clear hO1 hOs hBs hbs hKs hVs hss' hts hVu hsu;refine bB [9,10] rfl (by kernel_rfl) ?_;simp only[zK,zM,zI,zJ];go_wp2;go_roundw
    case rel=>exact hfin.out
    case measure=>simp[intOf];have:=hlt'.out;omega
   ·obtain rfl:n=q:=by omega
    have hrr:wr.heap[w.heap.size+1]?=some (eG (.slice none 0 0) (.slice none 0 0)):=(hBr.block _ hsz).trans hr0;obtain⟨e0,e1⟩:=aZ hbr rfl rfl;obtain⟨r0,r1⟩:=aZ hrr rfl rfl;obtain⟨z0,z1⟩:=eA hrr;go_wp2;refine bodyPost_ret (v:= .agg #[.slice xv n cv, .slice xl ln cl]) (by simp[results,Tryz.results140,go_sem,r0,r1]) rfl ?_;exact⟨_,_,us,rfl,hs,((hO.put hsz).put hsz).low hB0.size,fun i hi=>(((hV i (by rw[<-hul.out];exact hi)).put hsz).put hsz).low hB0.size,((hK'.put hsz).put hsz).low hB0.size,((hB0.trans (hBr.mono hB0.size)).setCell (by simp) _).setCell (by simp) _⟩
end Go.Proofs.YtkgeoeglidnnnaaGreatDoor
