/- A part of the proof. -/
import Derived.Test.YtjphnaccgfjnjaaGreatDoorMK05
set_option maxRecDepth 100000
set_option maxHeartbeats 20000000
namespace Go.Proofs.YtjphnaccgfjnjaaGreatDoor
variable {ps qs rs : List Po} {i c' d q j k base g base' b n : Nat} {x' x : Option Addr} {ls' ls : List Le} {e : Le} {p : Po} {t z a l mn mx us co t' : Int} {w w' : World} {v v2 : Value} {es : List Rg} {cs : Array Value} {fr : Nat × Nat} {ad : Addr}
open Go.RowKit Go.Shelf
theorem zP(hs:cB ps qs)(hf:cG ps)(hi:i<ps.length):iK ps (qs.set i (aW (poAt qs i) x' ls'.length c' ls'))/\cG (qs.set i (aW (poAt qs i) x' ls'.length c' ls'))/\∀k,k<ps.length->(poAt (qs.set i (aW (poAt qs i) x' ls'.length c' ls')) k).ls=if i=k then ls' else(poAt ps k).ls:=by
 have hi2:i<qs.length:=by rw[<-hs.1];exact hi
 have hat:∀k,poAt (qs.set i (aW (poAt qs i) x' ls'.length c' ls')) k=if i=k then aW (poAt qs i) x' ls'.length c' ls' else poAt qs k:=fun k=>dF hi2;refine⟨⟨by rw[List.length_set];exact hs.1,fun k hk=>?_⟩,fun k hk=>?_,fun k hk=>?_⟩
 ·rw[hat];by_cases e:i=k
  ·rw[if_pos e];subst e;exact(hs.2 i hi).head
  ·rw[if_neg e];exact(hs.2 k hk).head
 ·rw[List.length_set]at hk;rw[hat];by_cases e:i=k
  ·rw[if_pos e];rfl
  ·rw[if_neg e];have hk2:k<ps.length:=by rw[hs.1];exact hk
   have h1:=(hs.2 k hk2).2.2.2.2.2.2.2.2;rw[<-h1.1,<-h1.2];exact hf k hk2
 ·rw[hat];by_cases e:i=k
  ·rw[if_pos e,if_pos e];rfl
  ·rw[if_neg e,if_neg e];exact(hs.2 k hk).2.2.2.2.2.2.2.2.2.symm
theorem LQ:∀(l:List Nat) (i y:Nat) (h:i<l.length),(l.set i y).sum+l[i]=l.sum+y
 |x::r,0,y,_=>by simp;omega
 |x::r,i+1,y,h=>by
  have:=LQ r i y (by simpa using h);simp only[List.set_cons_succ,List.sum_cons,List.getElem_cons_succ];omega
theorem RF(h:gG e ls ls')(v:Int):G7 ls' v=G7 ls v+if((e.kd==1)&&I3 e.a e.l v)=true then 1 else 0:=by
 obtain⟨k,hk, -, -,rfl⟩:=h;unfold G7;have e1:ls.filter (fun e=>(e.kd==1)&&I3 e.a e.l v)=(ls.take k).filter (fun e=>(e.kd==1)&&I3 e.a e.l v)++(ls.drop k).filter (fun e=>(e.kd==1)&&I3 e.a e.l v):=by
  rw[<-List.filter_append,List.take_append_drop]
 rw[e1,List.filter_append,List.filter_append,List.length_append,List.length_append,List.length_append,List.filter_cons,List.filter_nil];split
 ·simp only[List.length_singleton];omega
 ·simp only[List.length_nil];omega
theorem VM(h:ps.length=qs.length)(hl:∀k,k<ps.length->(poAt qs k).ls=(poAt ps k).ls)(v:Int):G8 qs v=G8 ps v:=by
 unfold G8;congr 1;refine List.ext_getElem (by simp[h]) fun k h1 h2=>?_;rw[List.length_map]at h1 h2;rw[List.getElem_map,List.getElem_map,<-bC h1,<-bC h2,hl k h2]
theorem RG(hi:i<ps.length)(v:Int):G8 (ps.set i p) v+G7 (poAt ps i).ls v=G8 ps v+G7 p.ls v:=by
 unfold G8;rw[List.map_set];have:=LQ (ps.map fun p=>G7 p.ls v) i (G7 p.ls v) (by simpa using hi);rw[List.getElem_map,<-bC hi]at this;exact this
theorem G9(h:gG e ls ls'):XE (lp ls) e.a e.l (lp ls'):=by
 obtain⟨k,hk,h1,h2,rfl⟩:=h;refine⟨⟨k,by rw[rA];exact hk,fun j hj=>?_,fun hj=>?_,?_⟩⟩
 ·rw[(LN (by omega)).1];have:=h1 j hj;omega
 ·rw[rA]at hj;rw[(LN hj).1];exact h2 hj
 ·unfold lp;simp
theorem JR{id ow:Int}(hF:cG ps)(hE:cE t ps id z ow=0)(hat:aO ps id=i)(hi:i<ps.length)(hal:(a,l)=dS (poAt ps i) (jR (poAt ps i) z))(hs:cB ps qs)(hput:gG ⟨a,l,1,ow,0⟩ (poAt ps i).ls ls'):
  aS t (qs.set i (aW (poAt qs i) x' ls'.length c' ls'))=0/\cG (qs.set i (aW (poAt qs i) x' ls'.length c' ls'))/\rt a l=true/\∀v,I3 a l v=true->G8 (qs.set i (aW (poAt qs i) x' ls'.length c' ls')) v=G8 ps v+1:=by
 obtain⟨hc, -,how,hpf⟩:=aAy hE;rw[hat,Int.toNat_natCast]at hpf;obtain⟨hH,hFr,hls⟩:=zP (x':=x') (c':=c') (ls':=ls') hs hF hi;obtain⟨y,e1,e2, -⟩:=G6 hc hi hpf;rw[e1]at hal;simp only[Prod.mk.injEq]at hal;obtain⟨rfl,hlz⟩:=hal;rw[<-hlz]at e2;obtain⟨-,⟨ht0,ht1⟩, -, -,hpo⟩:=gN hc;have h31:=yW hpf;have hmem:∀e,e∈ls'↔e=⟨a,l,1,ow,0⟩\/e∈(poAt ps i).ls:=fun e=>by
  obtain⟨k,hk, -, -,rfl⟩:=hput;have:(poAt ps i).ls=(poAt ps i).ls.take k++(poAt ps i).ls.drop k:=(List.take_append_drop _ _).symm;constructor
  ·intro h;simp only[List.mem_append,List.mem_singleton]at h;rcases h with (h|h)|h
   ·exact .inr (List.mem_of_mem_take h)
   ·exact .inl h
   ·exact .inr (List.mem_of_mem_drop h)
  ·rintro(h|h)
   ·simp[h]
   ·rw[this]at h;simp only[List.mem_append,List.mem_singleton]at h⊢;rcases h with h|h
    ·exact .inl (.inl h)
    ·exact .inr h
 refine⟨pT hc ht0 ht1 hH hF hFr (fun k hk=>?_) (fun k hk=>?_) (fun k hk e he h2=>?_) (fun k hk e he=>?_),hFr,(bF e2.1).1,fun v hv=>?_⟩
 ·have hk2:k<(qs.set i (aW (poAt qs i) x' ls'.length c' ls')).length:=by rw[<-hH.1];exact hk
  rw[<-hFr k hk2,hls k hk];by_cases e:i=k
  ·subst e;rw[if_pos rfl,hput.len,hF i hi];omega
  ·rw[if_neg e,hF k hk];exact(iC hc k hk).1
 ·rw[hls k hk];by_cases e:i=k
  ·subst e;rw[if_pos rfl];exact GF (lU hc i hi) e2.1 e2.2 (G9 hput)
  ·rw[if_neg e];exact lU hc k hk
 ·rw[hls k hk];by_cases e':i=k
  ·subst e';rw[if_pos rfl];exact(hmem e).2 (.inr he)
  ·rw[if_neg e'];exact he
 ·rw[hls k hk]at he;have hold:e∈(poAt ps k).ls->rC t ps (poAt ps k).id e=true:=fun h=>(pS (hF k hk)).1 (eH (hpo k hk)).2.2.2 e h;by_cases e':i=k
  ·subst e';rw[if_pos rfl]at he;rcases(hmem e).1 he with rfl|h
   ·unfold rC;rw[if_pos rfl,how];rfl
   ·exact hold h
  ·rw[if_neg e']at he;exact hold he
 ·have h1:=RG (ps:=qs) (i:=i) (p:=aW (poAt qs i) x' ls'.length c' ls') (by rw[<-hs.1];exact hi) v;have h2:=VM (ps:=ps) (qs:=qs) hs.1 (fun k hk=>(hs.2 k hk).2.2.2.2.2.2.2.2.2.symm) v;have h3:=RF hput v;rw[if_pos (by simp[hv])]at h3;have h4:(poAt qs i).ls=(poAt ps i).ls:=(hs.2 i hi).2.2.2.2.2.2.2.2.2.symm;have h5:(aW (poAt qs i) x' ls'.length c' ls').ls=ls':=rfl;rw[h4,h5]at h1;omega
def pU(c n:Int):Int:=if c<0 then -((c+1).tmod n)else c%n
theorem sT(c n:Int)(hn:0<n):0<=pU c n/\pU c n<n:=by
 unfold pU;split
 ·rename_i h;rw[<-Int.neg_tmod,Int.tmod_eq_emod_of_nonneg (by omega)];exact⟨Int.emod_nonneg _ (by omega),Int.emod_lt_of_pos _ hn⟩
 ·exact⟨Int.emod_nonneg _ (by omega),Int.emod_lt_of_pos _ hn⟩
theorem JS(c n:Int)(w:World)(hc0: -9223372036854775808<=c)(hc1:c<=9223372036854775807)(hn0:0<n)(hn1:n<=65536):
  Calls Tryz.prog 9 #[.int .i64 c, .int .i64 n] w fun e w'=>e= .returned (.int .i64 (pU c n))/\w'=w:=by
 have hz:n≠0:=by omega
 unfold pU;by_cases hneg:c<0
 ·rw[if_pos hneg];have h1:IntKind.i64.wrap (c+1)=c+1:=by rw[IntKind.wrap_i64];omega
  have h2:IntKind.i64.wrap (-(c+1))= -(c+1):=by rw[IntKind.wrap_i64];omega
  go_enter Tryz.func9,Tryz.ntmps9;go_wp2;go_ret;exact⟨rfl,rfl⟩
 ·rw[if_neg hneg];go_enter Tryz.func9,Tryz.ntmps9;go_wp2;go_ret;exact⟨rfl,rfl⟩
theorem uR:∀(n:Nat) (l:List Nat),l.Nodup->(∀x∈l,x<n)->l.length<=n
 |0,l,_,h=>by
  match l,h with
  |[],_=>exact zE
  |x::r,h=>exact absurd (h x (by simp)) (by omega)
 |n+1,l,hn,h=>by
  by_cases hm:n∈l
  ·have h1:=uR n (l.erase n) (hn.erase n) (fun x hx=>by
    have hx1:=h x (List.mem_of_mem_erase hx);have hx2:x≠n:=fun e=>by
     subst e;exact(List.Nodup.not_mem_erase hn) hx
    omega)
   rw[List.length_erase_of_mem hm]at h1;omega
  ·have h1:=uR n l hn (fun x hx=>by
    have hx1:=h x hx;have hx2:x≠n:=fun e=>hm (e▸hx);omega)
   omega
theorem LR:∀(d e q:Nat),UR ps d q->UR ps e q->d=e
 |0,0,_,_,_=>rfl
 |0,e+1,q,h,g=>absurd h.2 g.2.1
 |d+1,0,q,h,g=>absurd g.2 h.2.1
 |d+1,e+1,q,h,g=>by
  obtain⟨-, -,r,h1, -,h2⟩:=h;obtain⟨-, -,s,g1, -,g2⟩:=g;have:r=s:=by omega
  subst this;rw[LR d e r h2 g2]
theorem HA:∀(d q:Nat),UR ps d q->∃l:List Nat,l.length=d+1/\l.Nodup/\∀x∈l,x<ps.length/\∃e,e<=d/\UR ps e x
 |0,q,h=>⟨[q],rfl,by simp,fun x hx=>by
  obtain rfl:x=q:=by simpa using hx
  exact⟨h.1,0,zE,h⟩⟩
 |d+1,q,h=>by
  have hq:=h;obtain⟨h0, -,r, -, -,h2⟩:=h;obtain⟨l,l1,l2,l3⟩:=HA d r h2;refine⟨q::l,by rw[List.length_cons,l1],List.nodup_cons.2 ⟨fun hm=>?_,l2⟩,fun x hx=>?_⟩
  ·obtain⟨-,e,he,hd⟩:=l3 q hm;have:=LR _ _ _ hq hd;omega
  ·rcases List.mem_cons.1 hx with rfl|hx
   ·exact⟨h0,d+1,zE,hq⟩
   ·obtain⟨x1,e,he,hd⟩:=l3 x hx;exact⟨x1,e,by omega,hd⟩
theorem YN(h:UR ps d q):d<ps.length:=by
 obtain⟨l,l1,l2,l3⟩:=HA d q h;have:=uR ps.length l l2 (fun x hx=>(l3 x hx).1);omega
theorem CU(hF:cG ps):∀(d f q:Nat),UR ps d q->d<f->lL ps f (poAt ps q)=true
 |0,f+1,q,h,_=>by unfold lL;rw[if_pos h.2]
 |d+1,f+1,q,h,hf=>by
  obtain⟨-,h1,r,h2,h3,h4⟩:=h;have hr:=h4.lt;unfold lL;rw[if_neg h1,h2,if_neg (by omega),Int.toNat_natCast,if_pos ((mJ (hF r hr)).2 h3)];exact CU hF d f r h4 (by omega)
theorem HB:mH ps j=true↔∀m,m<j->((poAt ps j).up=0/\(poAt ps m).up=0)->kL (poAt ps j).a (poAt ps j).l (poAt ps m).a (poAt ps m).l=false:=by
 constructor
 ·intro h m hm hu
  cases hx:kL (poAt ps j).a (poAt ps j).l (poAt ps m).a (poAt ps m).l with
  |false=>rfl
  |true=>
   have hy:anyAt j (iX ps (poAt ps j).a (poAt ps j).l)=true:=bR hm (by unfold iX;rw[hu.2,nO,hx];rfl)
   unfold mH at h
   rw[hu.1,hy]at h
   cases h
 ·intro h;unfold mH
  cases hu:((poAt ps j).up==0)with
  |false=>rfl
  |true=>
   have hn:anyAt j (iX ps (poAt ps j).a (poAt ps j).l)=false:=nJ fun m hm=>by
    unfold iX
    cases hv:((poAt ps m).up==0)with
    |false=>rfl
    |true=>
     rw[nO,h m hm ⟨by simpa using hu,by simpa using hv⟩]
     rfl
   rw[hn]
   rfl
open Go.RowKit
structure TB2(w W:World)(t:Int)(v v2:Value):Prop where
 ha:W.heap[w.heap.size]?=some (eZ t v)
 hb:W.heap[w.heap.size+1]?=some (eZ t v2)
 below:Below w.heap.size w W
theorem TB2.later{W W':World}(h:TB2 w W t v v2)(hb:Below W.heap.size W W'):TB2 w W' t v v2:=
 ⟨aA hb h.ha,aA hb h.hb,h.below.trans (hb.mono h.below.size)⟩
theorem BY(t:Int)(x y:Option Addr)(n c d:Nat)(ps qs:List Po)(w:World)(hp:mX w x n ps)(hq:mX w y n qs)(hs:cB ps qs)(hn:n<=64):
  Calls Tryz.prog 17 #[.agg #[.int .i64 t, .slice x n c], .agg #[.int .i64 t, .slice y n d]] w fun e w'=>e= .returned (.bool true)/\Below w.heap.size w w':=by
 have hs':Hid (cB ps qs):=hs;have hpl:Hid (ps.length=n):=hp.len;clear hs;go_enter Tryz.func17,Tryz.ntmps17;go_upto_region 1 with fail
 obtain⟨w0,hw0⟩:∃w0,w0=(w.alloc (eZ t (.slice x n c))).alloc (eZ t (.slice y n d)):=⟨_,rfl⟩;rw[show(w.alloc (.cells #[.int .i64 t, .slice x n c] 37)).alloc (.cells #[.int .i64 t, .slice y n d] 37)=w0 from hw0.symm];have hT0:TB2 w w0 t (.slice x n c) (.slice y n d):=by rw[hw0];exact⟨aG _ (aB _ rfl),aB _ (by simp),bO w _ _⟩
 clear hw0;obtain⟨a0,a1⟩:=aR hT0.ha rfl rfl;obtain⟨d0,d1⟩:=aR hT0.hb rfl rfl;go_wp2;clear a0 a1 d0 d1;go_loopw [5] (fun i wr=>∃k:Nat,i= .int .i64 k/\k<=n/\TB2 w wr t (.slice x n c) (.slice y n d)) (fun i _=>n- (intOf i).toNat)
 case atStart=>exact⟨0,rfl,by omega,hT0⟩
 case round=>
  clear hT0
  obtain⟨k,rfl,hkn,hT⟩:=hrel
  have a1:=aP hT.ha 1 rfl
  have d1:=aP hT.hb 1 rfl
  by_cases hlt:k<n
  ·obtain⟨b,o,rfl,c0,c1,c2,c3,c4,c5,c6,c7,c8⟩:=(hp.later hT.below).cells k hlt;obtain⟨b2,o2,rfl,e0,e1,e2,e3,e4,e5,e6,e7,e8⟩:=(hq.later hT.below).cells k hlt;obtain⟨hlc,hlm,hLS⟩:=(hp.later hT.below).leases k hlt;obtain⟨hmc,hmm,hMS⟩:=(hq.later hT.below).leases k hlt;obtain⟨s0,s1,s2,s3,s4,s5,s6,s7,s8,s9⟩:=hs'.out.2 k (by rw[hpl.out];exact hlt);rw[<-s0]at e0;rw[<-s1]at e1;rw[<-s2]at e2;rw[<-s3]at e3;rw[<-s4]at e4;rw[<-s5]at e5;rw[<-s6]at e6;rw[<-s7]at e7;rw[<-s8]at e8;rw[<-s8,<-s9]at hMS;have hk0:(0:Int)<=k:=by omega
   have hkn2:(k:Int)<n:=by omega
   have hlth:Hid (k<n):=hlt;clear hlt s0 s1 s2 s3 s4 s5 s6 s7 s8 s9;go_upto_region 6 with fail
   go_cut [6,7] (fun p q wc=>∃bp bq,p= .pointer (some ⟨bp,0,none⟩)/\q= .pointer (some ⟨bq,0,none⟩)/\wc.heap[bp]?=some (CP (poAt ps k))/\wc.heap[bq]?=some (.cells #[.int .i64 (poAt ps k).id, .int .i64 (poAt ps k).up, .int .i64 (poAt ps k).a, .int .i64 (poAt ps k).l, .int .i64 (poAt ps k).mn, .int .i64 (poAt ps k).mx, .int .i64 (poAt ps k).us, .int .i64 (poAt ps k).co, .slice (poAt qs k).x (poAt ps k).n (poAt qs k).c] 85)/\Below wr.heap.size wr wc)
   case first=>
    go_region_held3 (fun w'=>w'.cell? ⟨w.heap.size,1,none⟩=some (.slice (some ⟨b,o,none⟩) n c)/\w'.cell? ⟨w.heap.size+1,1,none⟩=some (.slice (some ⟨b2,o2,none⟩) n d)/\w'.cell? ⟨b,o+k*9,none⟩=some (.int .i64 (poAt ps k).id)/\w'.cell? ⟨b,o+k*9+1,none⟩=some (.int .i64 (poAt ps k).up)/\w'.cell? ⟨b,o+k*9+2,none⟩=some (.int .i64 (poAt ps k).a)/\w'.cell? ⟨b,o+k*9+3,none⟩=some (.int .i64 (poAt ps k).l)/\w'.cell? ⟨b,o+k*9+4,none⟩=some (.int .i64 (poAt ps k).mn)/\w'.cell? ⟨b,o+k*9+5,none⟩=some (.int .i64 (poAt ps k).mx)/\w'.cell? ⟨b,o+k*9+6,none⟩=some (.int .i64 (poAt ps k).us)/\w'.cell? ⟨b,o+k*9+7,none⟩=some (.int .i64 (poAt ps k).co)/\w'.cell? ⟨b,o+k*9+8,none⟩=some (.slice (poAt ps k).x (poAt ps k).n (poAt ps k).c)/\w'.cell? ⟨b2,o2+k*9,none⟩=some (.int .i64 (poAt ps k).id)/\w'.cell? ⟨b2,o2+k*9+1,none⟩=some (.int .i64 (poAt ps k).up)/\w'.cell? ⟨b2,o2+k*9+2,none⟩=some (.int .i64 (poAt ps k).a)/\w'.cell? ⟨b2,o2+k*9+3,none⟩=some (.int .i64 (poAt ps k).l)/\w'.cell? ⟨b2,o2+k*9+4,none⟩=some (.int .i64 (poAt ps k).mn)/\w'.cell? ⟨b2,o2+k*9+5,none⟩=some (.int .i64 (poAt ps k).mx)/\w'.cell? ⟨b2,o2+k*9+6,none⟩=some (.int .i64 (poAt ps k).us)/\w'.cell? ⟨b2,o2+k*9+7,none⟩=some (.int .i64 (poAt ps k).co)/\w'.cell? ⟨b2,o2+k*9+8,none⟩=some (.slice (poAt qs k).x (poAt ps k).n (poAt qs k).c)) (first|(go_keep;done)) (fail)
    ·go_wp2;go_meet
     case rel=>exact⟨wr.heap.size,wr.heap.size+1,rfl,rfl,aG _ (aB _ rfl),aB _ (by simp),(bO wr _ _).drew⟩
    ·go_wp2;go_meet
     case rel=>exact⟨wr.heap.size+1,wr.heap.size,rfl,rfl,aB _ (by simp),aG _ (aB _ rfl),(bO wr _ _).drew⟩
   case rest=>
    obtain⟨bp,bq,rfl,rfl,hv,hu,hBc⟩:=hcut
    clear a1 d1 c0 c1 c2 c3 c4 c5 c6 c7 c8 e0 e1 e2 e3 e4 e5 e6 e7 e8
    have hTc:=hT.later hBc
    have hLc:=hLS.later hBc
    have hMc:=hMS.later hBc
    clear hT hLS hMS hBc
    have p0:=aP hv 0 rfl
    have r0:=aP hu 0 rfl
    have p1:=aP hv 1 rfl
    have r1:=aP hu 1 rfl
    have p2:=aP hv 2 rfl
    have r2:=aP hu 2 rfl
    have p3:=aP hv 3 rfl
    have r3:=aP hu 3 rfl
    have p4:=aP hv 4 rfl
    have r4:=aP hu 4 rfl
    have p5:=aP hv 5 rfl
    have r5:=aP hu 5 rfl
    have p6:=aP hv 6 rfl
    have r6:=aP hu 6 rfl
    have p7:=aP hv 7 rfl
    have r7:=aP hu 7 rfl
    have p8:=aP hv 8 rfl
    have r8:=aP hu 8 rfl
    go_wp2
    clear p0 p1 p2 p3 p4 p5 p6 p7 p8 r0 r1 r2 r3 r4 r5 r6 r7 r8
    go_loopw [8] (fun i ws=>∃j:Nat,i= .int .i64 j/\j<=(poAt ps k).n/\Below wc.heap.size wc ws) (fun i _=>(poAt ps k).n- (intOf i).toNat)
    case atStart=>exact⟨0,rfl,by omega,zD⟩
    case round=>
     obtain⟨j,rfl,hjn,hBj⟩:=hrel
     have hv':=aA hBj hv
     have hu':=aA hBj hu
     have p8:=aP hv' 8 rfl
     have r8:=aP hu' 8 rfl
     by_cases hltj:j<(poAt ps k).n
     ·obtain⟨b3,o3,hx3,l0,l1,l2,l3,l4⟩:=(hLc.later hBj).cells j hltj;obtain⟨b4,o4,hx4,m0,m1,m2,m3,m4⟩:=(hMc.later hBj).cells j hltj;rw[hx3]at p8;rw[hx4]at r8;have hj0:(0:Int)<=j:=by omega
      have hjn2:(j:Int)<(poAt ps k).n:=by omega
      have hltjh:Hid (j<(poAt ps k).n):=hltj;clear hltj;go_upto_region 12 with fail
      have g0:=Ws.here p8;have g1:=Ws.here r8;have f0:=Ws.here l0;have f1:=Ws.here l1;have f2:=Ws.here l2;have f3:=Ws.here l3;have f4:=Ws.here l4;have h0:=Ws.here m0;have h1:=Ws.here m1;have h2:=Ws.here m2;have h3:=Ws.here m3;have h4:=Ws.here m4;clear p8 r8 l0 l1 l2 l3 l4 m0 m1 m2 m3 m4;refine aH wr.heap.size (by kernel_rfl) (by kernel_rfl) ?_;repeat(go_big_quiet_step (fail))
      refine wpQuiet_nil ?_;rintro _ ⟨u,rfl⟩;have hub:=hBj.trans (u.property.mono hBj.size);generalize u.val=wu at hub⊢;clear u g0 g1 f0 f1 f2 f3 f4 h0 h1 h2 h3 h4;go_wp2;go_roundw
      case rel=>exact⟨j+1,by go_num,hltjh.out,hub⟩
      case measure=>have:=hltjh.out;simp[intOf];omega
     ·have hnj:¬(j:Int)<(poAt ps k).n:=by omega
      have hTj:=hTc.later hBj;go_wp2;go_roundw
      case rel=>exact⟨k+1,by go_num,hlth.out,hTj⟩
      case measure=>have:=hlth.out;simp[intOf];omega
  ·have hnk:¬(k:Int)<n:=by omega
   go_wp2;go_ret;exact⟨rfl,hT.below⟩
def YO(q:Po)(x:Int):Prop:=∃e∈q.ls,e.kd=2/\e.ow=x
def PY(t:Int)(ps:List Po)(id:Int)(e:Le):Prop:=
 (e.kd=1/\dE e.ow 1 65536=true/\e.un=0)\/(e.kd=2/\e.un=0/\∃q∈ps,q.id=e.ow/\q.up=id/\q.a=e.a/\q.l=e.l)\/(e.kd=3/\e.ow=0/\t<e.un/\e.un<=t+1024)
structure RB(t:Int)(ps:List Po):Prop where
 few:ps.length<=8
 t0:0<=t
 t1:t<=1073741824
 idw:∀p∈ps,dE p.id 1 65536=true
 rise:ps.Pairwise fun p q=>p.id<q.id
 tops:ps.Pairwise fun p q=>p.up=0->q.up=0->kL p.a p.l q.a q.l=false
 n32:∀p∈ps,p.ls.length<=32
 root:∀p∈ps,rt p.a p.l=true
 used:∀p∈ps,nP (lp p.ls) p.a p.l
 rule:∀p∈ps,dC p.mn p.mx p.us p.co p.l=true
 ups:∀p∈ps,∃f,lL ps f p=true
 les:∀p∈ps,∀e∈p.ls,PY t ps p.id e
theorem poAt_mem(h:i<ps.length):poAt ps i∈ps:=by rw[bC h];exact List.getElem_mem h
theorem dG(h:p∈ps):∃i,i<ps.length/\poAt ps i=p:=by
 obtain⟨i,hi,rfl⟩:=List.mem_iff_getElem.1 h;exact⟨i,hi,bC hi⟩
theorem JT(h:ps.Pairwise fun p q=>p.id<q.id){p q:Po}(hp:p∈ps)(hq:q∈ps)(e:p.id=q.id):p=q:=by
 obtain⟨i,hi,rfl⟩:=List.mem_iff_getElem.1 hp;obtain⟨j,hj,rfl⟩:=List.mem_iff_getElem.1 hq;rw[List.pairwise_iff_getElem]at h;rcases Nat.lt_trichotomy i j with c|c|c
 ·have:=h i j hi hj c;omega
 ·subst c;rfl
 ·have:=h j i hj hi c;omega
theorem JU(h:ps.Pairwise fun p q=>p.id<q.id){q:Po}(hq:q∈ps):∃i:Nat,i<ps.length/\aO ps q.id=i/\poAt ps i=q:=by
 obtain⟨i,hi,e⟩:=dG hq;refine⟨i,hi,nS hi (by rw[e]) (fun j hj e2=>?_),e⟩;rw[List.pairwise_iff_getElem]at h;have:=h j i (by omega) hi hj;rw[<-bC (show j<ps.length by omega),<-bC hi,e,e2]at this;omega
theorem cG.mem(h:cG ps){p:Po}(hp:p∈ps):p.ls.length=p.n:=by
 obtain⟨i,hi,rfl⟩:=dG hp;exact h i hi
theorem ER(h:∀p∈ps,p.ls.length=p.n):cG ps:=fun _ hi=>h _ (poAt_mem hi)
theorem up_step(hF:cG ps)(h:ps.Pairwise fun p q=>p.id<q.id){f:Nat}{p:Po}:lL ps (f+1) p=true↔p.up=0\/∃q∈ps,q.id=p.up/\YO q p.id/\lL ps f q=true:=by
 by_cases c:p.up=0
 ·simp[YC c,c]
 ·constructor
  ·intro g;unfold lL at g;rw[if_neg c]at g;by_cases c2:aO ps p.up<0
   ·rw[if_pos c2]at g;cases g
   ·rw[if_neg c2]at g;obtain⟨i,hi,hat,he⟩:=aX c2;rw[hat,Int.toNat_natCast]at g;by_cases c3:anyAt (poAt ps i).n (gL (poAt ps i).ls p.id)=true
    ·rw[if_pos c3]at g;exact .inr ⟨_,poAt_mem hi,he,(mJ (hF i hi)).1 c3,g⟩
    ·rw[if_neg c3]at g;cases g
  ·rintro(g|⟨q,hq,h1,h2,h3⟩)
   ·exact absurd g c
   ·obtain⟨i,hi,hat,rfl⟩:=JU h hq;rw[LO c (by rw[<-h1];exact hat) ((mJ (hF i hi)).2 h2)];exact h3
theorem xW(hp:cG ps)(hq:cG qs)(rp:ps.Pairwise fun p q=>p.id<q.id)(rq:qs.Pairwise fun p q=>p.id<q.id)(gone:Int)
 (hR:∀x,x≠gone->∀q∈ps,YO q x->q.id≠gone/\∃q'∈qs,q'.id=q.id/\q'.up=q.up/\YO q' x):
  ∀(f:Nat) (p p':Po),p.id≠gone->p'.id=p.id->p'.up=p.up->lL ps f p=true->lL qs f p'=true
 |0,p,p',_,_,_,h=>by unfold lL at h;cases h
 |f+1,p,p',hg,e1,e2,h=>by
  rw[up_step hp rp]at h;rw[up_step hq rq];rcases h with h|⟨q,m,h1,h2,h3⟩
  ·exact .inl (e2.trans h)
  ·obtain⟨g1,q',m',k1,k2,k3⟩:=hR p.id hg q m h2;exact .inr ⟨q',m',by rw[k1,h1,e2],by rw[e1];exact k3,xW hp hq rp rq gone hR f q q' g1 k1 k2 h3⟩
theorem RH(hF:cG ps){p:Po}(hp:p∈ps)(h:∃f,lL ps f p=true):lL ps ps.length p=true:=by
 obtain⟨i,hi,rfl⟩:=dG hp;obtain⟨f,h⟩:=h;obtain⟨d,hd⟩:=YL hF f i hi h;exact CU hF d _ i hd (YN hd)
theorem lV:lQ ps.length ps=true↔(ps.Pairwise fun p q=>p.id<q.id)/\∀p∈ps,dE p.id 1 65536=true:=by
 constructor
 ·intro h;refine⟨?_,fun p hp=>?_⟩
  ·rw[List.pairwise_iff_getElem];intro i j hi hj hij;have:=YM h i (j- i- 1) (by omega);rw[show i+(j- i- 1)+1=j by omega,bC hi,bC hj]at this;exact this
  ·obtain⟨i,hi,rfl⟩:=dG hp;unfold lQ at h;rw[zH]at h
   cases e:dE (poAt ps i).id 1 65536
   ·rw[bR (f:=fun i=>!dE (poAt ps i).id 1 65536) hi (by simp[e])]at h;exact absurd h.2 (by decide)
   ·rfl
 ·rintro⟨h1,h2⟩;unfold lQ pO;rw[zH,List.all_eq_true];refine⟨fun i hi=>?_,?_⟩
  ·have hi':i<ps.length:=by simpa using hi
   unfold nZ
   cases i with
   |zero=>rfl
   |succ i=>
    rw[List.pairwise_iff_getElem]at h1
    have:=h1 i (i+1) (by omega) hi' (by omega)
    rw[<-bC (show i<ps.length by omega),<-bC hi']at this
    simpa using this
  ·rw[nJ (fun i hi=>by rw[h2 _ (poAt_mem hi)];rfl)];rfl
theorem jG:gF ps=true↔ps.Pairwise fun p q=>p.up=0->q.up=0->kL p.a p.l q.a q.l=false:=by
 unfold gF;rw[List.all_eq_true,List.pairwise_iff_getElem];constructor
 ·intro h i j hi hj hij u1 u2;have h1:=HB.1 (h j (by simpa using hj)) i hij;rw[bC hi,bC hj]at h1;rw[nO];exact h1 ⟨u2,u1⟩
 ·intro h j hj;have hj':j<ps.length:=by simpa using hj
  refine HB.2 (fun i hij ⟨u2,u1⟩=>?_);have h1:=h i j (by omega) hj' hij;rw[<-bC (show i<ps.length by omega),<-bC hj']at h1;rw[nO];exact h1 u1 u2
theorem ES(h:ps.Pairwise fun p q=>p.id<q.id){id:Int}{e:Le}:rC t ps id e=true↔PY t ps id e:=by
 unfold rC PY;by_cases c1:e.kd=1
 ·rw[if_pos c1];simp[c1]
 ·rw[if_neg c1];by_cases c2:e.kd=2
  ·rw[if_pos c2];constructor
   ·intro g;by_cases c3:aO ps e.ow<0
    ·rw[if_pos c3]at g;cases g
    ·rw[if_neg c3]at g;obtain⟨i,hi,hat,he⟩:=aX c3;rw[hat,Int.toNat_natCast]at g;unfold YF at g;simp only[zH,decide_eq_true_eq,beq_iff_eq]at g;exact .inr (.inl ⟨c2,g.2,_,poAt_mem hi,he,g.1.1,g.1.2.1,g.1.2.2⟩)
   ·rintro(g|⟨-,g,q,hq,k1,k2,k3,k4⟩|g)
    ·exact absurd g.1 c1
    ·obtain⟨i,hi,hat,rfl⟩:=JU h hq;rw[k1]at hat;rw[if_neg (by omega),hat,Int.toNat_natCast];unfold YF;simp[k2,k3,k4,g]
    ·omega
  ·rw[if_neg c2];by_cases c3:e.kd=3
   ·rw[if_pos c3];simp[c3]
   ·rw[if_neg c3];simp[c1,c2,c3]
theorem nB(hF:cG ps)(h:aS t ps=0):RB t ps:=by
 obtain⟨h8,⟨ht0,ht1⟩,hi,ht,hpo⟩:=gN h;obtain⟨hr,hw⟩:=lV.1 hi;have hat:∀p∈ps,kT t ps ps.length p=true:=fun p hp=>by
  obtain⟨i,hi,rfl⟩:=dG hp;exact hpo i hi
 refine⟨h8,ht0,ht1,hw,hr,jG.1 ht,fun p hp=>?_,fun p hp=>?_,fun p hp=>?_,fun p hp=>(eH (hat p hp)).2.1,fun p hp=>⟨_,(eH (hat p hp)).2.2.1⟩,fun p hp e he=>?_⟩
 ·rw[hF.mem hp];exact(gV (eH (hat p hp)).1).1
 ·exact(gV (eH (hat p hp)).1).2.1
 ·exact LJ (gV (eH (hat p hp)).1).2.2
 ·exact(ES hr).1 ((pS (hF.mem hp)).1 (eH (hat p hp)).2.2.2 e he)
theorem RB.chk(h:RB t ps)(hF:cG ps):aS t ps=0:=by
 refine EM h.few ?_;have hw:dE t 0 1073741824=true:=by unfold dE;simp[h.t0,h.t1]
 rw[hw,lV.2 ⟨h.rise,h.idw⟩,jG.2 h.tops];simp only[Bool.true_and];refine uN fun j hj=>?_;have hp:=poAt_mem hj;unfold kT;have k1:kM (poAt ps j).a (poAt ps j).l (poAt ps j).n (lp (poAt ps j).ls)=0:=by
  unfold kM;rw[if_neg (by have:=h.n32 _ hp;rw[hF j hj]at this;omega),h.root _ hp,GE (h.used _ hp)];rfl
 have k4:BW t ps (poAt ps j)=true:=(pS (hF j hj)).2 fun e he=>(ES h.rise).2 (h.les _ hp e he);rw[k1,RH hF hp (h.ups _ hp),k4,h.rule _ hp];rfl
theorem jW(hF:cG ps)(h:cB ps qs)(hc:aS t ps=0):aS t qs=0/\cG qs:=by
 have hH:iK ps qs:=⟨h.1,fun i hi=>(h.2 i hi).head⟩;have hls:∀k,k<ps.length->(poAt qs k).ls=(poAt ps k).ls/\(poAt qs k).n=(poAt ps k).n:=fun k hk=>⟨(h.2 k hk).2.2.2.2.2.2.2.2.2.symm,(h.2 k hk).2.2.2.2.2.2.2.2.1.symm⟩;have hFq:cG qs:=fun k hk=>by
  have hk2:k<ps.length:=by rw[h.1];exact hk
  rw[(hls k hk2).1,(hls k hk2).2];exact hF k hk2
 obtain⟨-,⟨ht0,ht1⟩, -, -,hpo⟩:=gN hc;refine⟨pT hc ht0 ht1 hH hF hFq (fun k hk=>?_) (fun k hk=>?_) (fun k hk e he h2=>?_) (fun k hk e he=>?_),hFq⟩
 ·rw[(hls k hk).2];exact(iC hc k hk).1
 ·rw[(hls k hk).1];exact lU hc k hk
 ·rw[(hls k hk).1];exact he
 ·rw[(hls k hk).1]at he;exact(pS (hF k hk)).1 (eH (hpo k hk)).2.2.2 e he
theorem zQ{α:Type}{R:α->α->Prop}{qs:List α}{e:α}{i:Nat}(h:qs.Pairwise R)(h1:∀x∈qs.take i,R x e)(h2:∀x∈qs.drop i,R e x):(qs.take i++[e]++qs.drop i).Pairwise R:=by
 rw[<-List.take_append_drop i qs,List.pairwise_append]at h;obtain⟨p1,p2,p3⟩:=h;rw[List.append_assoc,List.pairwise_append];refine⟨p1,List.pairwise_cons.2 ⟨h2,p2⟩,fun a ha b hb=>?_⟩;rcases List.mem_cons.1 hb with rfl|hb
 ·exact h1 a ha
 ·exact p3 a ha b hb
theorem xX{α:Type}{qs:List α}{e x:α}{i:Nat}:x∈qs.take i++[e]++qs.drop i↔x=e\/x∈qs:=by
 have:x∈qs↔x∈qs.take i\/x∈qs.drop i:=by rw[<-List.mem_append,List.take_append_drop]
 rw[this];simp only[List.mem_append,List.mem_singleton];constructor
 ·rintro((h|h)|h)
  ·exact .inr (.inl h)
  ·exact .inl h
  ·exact .inr (.inr h)
 ·rintro(h|h|h)
  ·exact .inl (.inr h)
  ·exact .inl (.inl h)
  ·exact .inr h
theorem HC{e:Po}(h:qs.Pairwise fun p q=>p.id<q.id)(hp:gZ e qs rs)(hno:∀q∈qs,q.id≠e.id):rs.Pairwise fun p q=>p.id<q.id:=by
 obtain⟨i,hi,h1,h2,rfl⟩:=hp;refine zQ h (fun x hx=>?_) (fun x hx=>?_)
 ·obtain⟨j,hj,rfl⟩:=List.mem_iff_getElem.1 hx;rw[List.length_take]at hj;have hm:(qs.take i)[j]∈qs:=List.mem_of_mem_take hx;have g1:=h1 j (by omega);rw[bC (by omega)]at g1;have g2:=hno _ hm;rw[List.getElem_take]at g2⊢;omega
 ·obtain⟨j,hj,rfl⟩:=List.mem_iff_getElem.1 hx;rw[List.length_drop]at hj;rw[List.getElem_drop];have g1:=h2 (by omega);rw[bC (by omega)]at g1;by_cases c:j=0
  ·subst c;exact g1
  ·rw[List.pairwise_iff_getElem]at h;have:=h i (i+j) (by omega) (by omega) (by omega);omega
theorem NR(h:tW a l=0):rt a l=true:=by unfold rt;rw[h];rfl
theorem JV{id:Int}(hF:cG ps)(hE:eV t ps id a l mn mx us co=0)(hs:cB ps qs)(hp:gZ ⟨id,0,a,l,mn,mx,us,co,none,0,0,[]⟩ qs rs):aS t rs=0/\cG rs:=by
 unfold eV at hE;by_cases c0:aS t ps=0
 ·rw[if_neg (by simp[c0])]at hE;by_cases c1:dE id 1 65536=false\/tW a l≠0
  ·rw[if_pos c1]at hE;omega
  rw[if_neg c1]at hE;by_cases c2:0<=aO ps id\/anyAt ps.length (iX ps a l)=true
  ·rw[if_pos c2]at hE;omega
  rw[if_neg c2]at hE;unfold lT at hE;by_cases c3:dC mn mx us co l=false
  ·rw[if_pos c3]at hE;omega
  rw[if_neg c3]at hE;by_cases c4:ps.length=8
  ·rw[if_pos c4]at hE;omega
  simp only[not_or,Classical.not_not,Bool.not_eq_false,Bool.not_eq_true]at c1 c2;have hrt:rt a l=true:=by
   have h1:=c1.2;exact NR h1
  have hno:∀q∈qs,q.id≠id:=fun q hq e=>by
   obtain⟨i,hi,rfl⟩:=dG hq;have hi2:i<ps.length:=by rw[hs.1];exact hi
   exact jF (id:=id) (by omega) i hi2 (by rw[(hs.2 i hi2).1];exact e)
  have htop:∀q∈qs,q.up=0->kL q.a q.l a l=false:=fun q hq e=>by
   obtain⟨i,hi,rfl⟩:=dG hq;have hi2:i<ps.length:=by rw[hs.1];exact hi
   obtain⟨-,s2,s3,s4, -⟩:=hs.2 i hi2
   cases hx:kL (poAt qs i).a (poAt qs i).l a l
   ·rfl
   ·rw[bR (f:=iX ps a l) hi2 (by unfold iX;rw[s2,s3,s4,e,hx];rfl)]at c2;exact absurd c2.2 (by decide)
  obtain⟨hcq,hFq⟩:=jW hF hs c0;have hB:=nB hFq hcq;have hr:=HC hB.rise hp hno;obtain⟨k,hk, -, -,e⟩:=hp;have hmem:∀x,x∈rs↔x=⟨id,0,a,l,mn,mx,us,co,none,0,0,[]⟩\/x∈qs:=fun x=>by rw[e];exact xX
  have hFr:cG rs:=ER fun p hp=>by
   rcases(hmem p).1 hp with rfl|h
   ·rfl
   ·exact hFq.mem h
  have ev:∀(P:Po->Prop),P ⟨id,0,a,l,mn,mx,us,co,none,0,0,[]⟩->(∀q∈qs,P q)->∀p∈rs,P p:=fun P h1 h2 p hp=>by
   rcases(hmem p).1 hp with rfl|h
   ·exact h1
   ·exact h2 p h
  refine⟨RB.chk ⟨?_,hB.t0,hB.t1,?_,hr,?_,?_,?_,?_,?_,?_,?_⟩ hFr,hFr⟩
  ·have h8:=hB.few;have h9:=hs.1;rw[e];simp;omega
  ·exact ev _ (by simpa using c1.1) hB.idw
  ·rw[e];refine zQ hB.tops (fun x hx u _=>htop x (List.mem_of_mem_take hx) u) (fun x hx _ u=>?_);rw[nO];exact htop x (List.mem_of_mem_drop hx) u
  ·exact ev _ (Nat.zero_le _) hB.n32
  ·exact ev _ hrt hB.root
  ·exact ev (fun p=>nP (lp p.ls) p.a p.l) ⟨fun u hu=>absurd hu (by simp[lp]),by simp[lp]⟩ hB.used
  ·exact ev _ (by simpa using c3) hB.rule
  ·refine ev (fun p=>∃f,lL rs f p=true) ⟨1,YC rfl⟩ (fun q hq=>?_);obtain⟨f,hf⟩:=hB.ups q hq;have h0:∀q∈qs,q.id≠0:=fun q hq e0=>by
    have:=hB.idw q hq;rw[e0]at this;exact absurd this (by decide)
   exact⟨f,xW hFq hFr hB.rise hr 0 (fun x _ q' hq' h2=>⟨h0 q' hq',q',(hmem q').2 (.inr hq'),rfl,rfl,h2⟩) f q q (h0 q hq) rfl rfl hf⟩
  ·refine ev (fun p=>∀e∈p.ls,PY t rs p.id e) (fun e he=>absurd he (by simp)) (fun q hq e he=>?_);rcases hB.les q hq e he with h|⟨h1,h2,q',hq',h3⟩|h
   ·exact .inl h
   ·exact .inr (.inl ⟨h1,h2,q',(hmem q').2 (.inr hq'),h3⟩)
   ·exact .inr (.inr h)
 ·rw[if_pos c0]at hE;exact absurd hE c0
def aBa(p:Po)(j:Nat)(t:Int):Le:=⟨(aN p.ls j).a,(aN p.ls j).l,3,0,t+p.co⟩
theorem iD(h:i<ls.length):aN ls i=ls[i]:=by unfold aN;rw[zF,List.getElem?_eq_getElem h];rfl
theorem cool_mem(hj:j<p.ls.length)(h:e∈cI p j t):(∃k,k≠j/\k<p.ls.length/\aN p.ls k=e)\/(p.co≠0/\e=aBa p j t):=by
 unfold cI at h;by_cases c:p.co=0
 ·rw[if_pos c]at h;rcases List.mem_append.1 h with h|h
  ·obtain⟨k,hk,rfl⟩:=List.mem_iff_getElem.1 h;have hk':=hk;rw[List.length_take]at hk';exact .inl ⟨k,by omega,by omega,by rw[iD (by omega),List.getElem_take]⟩
  ·obtain⟨k,hk,rfl⟩:=List.mem_iff_getElem.1 h;have hk':=hk;rw[List.length_drop]at hk';exact .inl ⟨j+1+k,by omega,by omega,by rw[iD (by omega),List.getElem_drop]⟩
 ·rw[if_neg c]at h;obtain⟨k,hk,rfl⟩:=List.mem_iff_getElem.1 h;have hk':=hk;rw[List.length_set]at hk';rw[List.getElem_set];by_cases e:j=k
  ·rw[if_pos e];exact .inr ⟨c,rfl⟩
  ·rw[if_neg e];exact .inl ⟨k,fun h=>e h.symm,hk',iD hk'⟩
theorem HD(hj:j<p.ls.length)(hk:k<p.ls.length)(hne:k≠j):aN p.ls k∈cI p j t:=by
 unfold cI;split
 ·rw[iD hk];by_cases c:k<j
  ·refine List.mem_append.2 (.inl ?_);have h1:k<(p.ls.take j).length:=by rw[List.length_take];omega
   have:=List.getElem_mem h1;rwa[List.getElem_take]at this
  ·refine List.mem_append.2 (.inr ?_);have h1:k- (j+1)<(p.ls.drop (j+1)).length:=by rw[List.length_drop];omega
   have:=List.getElem_mem h1;rw[List.getElem_drop]at this;rwa[show p.ls[j+1+(k- (j+1))]=p.ls[k]from by congr 1;omega]at this
 ·rw[iD hk];have h1:k<(p.ls.set j ⟨(aN p.ls j).a,(aN p.ls j).l,3,0,t+p.co⟩).length:=by rw[List.length_set];exact hk
  have:=List.getElem_mem h1;rwa[List.getElem_set,if_neg (fun e=>hne e.symm)]at this
theorem HE:(cI p j t).length<=p.ls.length:=by
 unfold cI;split
 ·simp;omega
 ·simp
theorem CV(hj:j<p.ls.length)(h:nP (lp p.ls) a l):nP (lp (cI p j t)) a l:=by
 unfold cI;split
 ·have hs:(p.ls.take j++p.ls.drop (j+1)).Sublist p.ls:=by
   have h1:(p.ls.take j++p.ls.drop (j+1)).Sublist (p.ls.take j++p.ls.drop j):=List.Sublist.append_left (List.drop_sublist_drop_left _ (by omega)) _;rwa[List.take_append_drop]at h1
  have hs2:(lp (p.ls.take j++p.ls.drop (j+1))).Sublist (lp p.ls):=hs.map _;exact⟨fun u hu=>h.inn u (hs2.subset hu),h.rise.sublist hs2⟩
 ·have e:lp (p.ls.set j ⟨(aN p.ls j).a,(aN p.ls j).l,3,0,t+p.co⟩)=lp p.ls:=by
   unfold lp;rw[List.map_set];refine List.ext_getElem (by simp) fun k h1 h2=>?_;rw[List.getElem_set];split
   ·rename_i e;subst e;rw[List.getElem_map,iD hj]
   ·rfl
  rw[e];exact h
theorem YP(h:nP (lp ls) a l){i k:Nat}(hi:i<ls.length)(hk:k<ls.length)(e:(aN ls i).a=(aN ls k).a):i=k:=by
 have hr:=h.rise;unfold lp at hr;rw[List.pairwise_map,List.pairwise_iff_getElem]at hr;rw[iD hi,iD hk]at e;rcases Nat.lt_trichotomy i k with c|c|c
 ·have h1:=hr i k hi hk c;have h2:=cJ ls[i].l;simp only at h1;omega
 ·exact c
 ·have h1:=hr k i hk hi c;have h2:=cJ ls[k].l;simp only at h1;omega
theorem CW{id:Int}(hr:dC p.mn p.mx p.us p.co p.l=true)(hc:p.co≠0):PY t ps id (aBa p j t):=by
 obtain⟨h0,h1⟩:=(EO hr).2.2.2.2;exact .inr (.inr ⟨rfl,rfl,by show t<t+p.co;omega,by show t+p.co<=t+1024;omega⟩)
theorem zR{id:Int}(hF:cG ps)(hE:iQ t ps id a l=0)(hR:oE t ps id a l t' rs):t'=t/\aS t rs=0/\cG rs:=by
 obtain⟨ht,qs,x',c',hs,hrs⟩:=hR;refine⟨ht,?_⟩;unfold iQ at hE;by_cases c0:aS t ps=0
 ·rw[if_neg (by simp[c0])]at hE;by_cases c1:aO ps id<0
  ·rw[if_pos c1]at hE;omega
  rw[if_neg c1]at hE;obtain⟨i,hi,hat, -⟩:=aX c1;rw[hat,Int.toNat_natCast]at hE hrs;by_cases c2:bP (poAt ps i).n (yZ (poAt ps i).ls a l)<0
  ·rw[if_pos c2]at hE;omega
  obtain⟨j,hj,hfa,hu⟩:=lC c2;rw[hfa,Int.toNat_natCast]at hrs;have hjl:j<(poAt ps i).ls.length:=by rw[hF i hi];exact hj
  obtain⟨hH,hFr,hls⟩:=zP (x':=x') (c':=c') (ls':=cI (poAt ps i) j t) hs hF hi;rw[<-hrs]at hH hFr hls;have hkd:(aN (poAt ps i).ls j).kd=1:=by
   unfold yZ at hu;simp only[zH,beq_iff_eq]at hu;exact hu.1
  have hB:=nB hF c0;refine⟨pT c0 hB.t0 hB.t1 hH hF hFr (fun k hk=>?_) (fun k hk=>?_) (fun k hk e he h2=>?_) (fun k hk e he=>?_),hFr⟩
  ·rw[<-hFr k (by rw[<-hH.1];exact hk),hls k hk];have h32:=hB.n32 _ (poAt_mem hk);split
   ·rename_i e;subst e;exact Nat.le_trans HE h32
   ·exact h32
  ·rw[hls k hk];split
   ·rename_i e;subst e;exact CV hjl (lU c0 i hi)
   ·exact lU c0 k hk
  ·rw[hls k hk];split
   ·rename_i e';subst e';obtain⟨m,hm,rfl⟩:=oJ he;exact HD hjl hm (fun e=>by rw[e,hkd]at h2;omega)
   ·exact he
  ·rw[hls k hk]at he;refine(ES hB.rise).2 ?_;split at he
   ·rename_i e';subst e';rcases cool_mem hjl he with ⟨m, -,hm,rfl⟩|⟨hc,rfl⟩
    ·exact hB.les _ (poAt_mem hi) _ (fQ hm)
    ·exact CW (hB.rule _ (poAt_mem hi)) hc
   ·exact hB.les _ (poAt_mem hk) _ he
 ·rw[if_pos c0]at hE;exact absurd hE c0
theorem RI(h:ps.Pairwise fun p q=>p.id<q.id){i k:Nat}(hi:i<ps.length)(hk:k<ps.length)(e:(poAt ps i).id=(poAt ps k).id):i=k:=by
 rw[List.pairwise_iff_getElem]at h;rw[bC hi,bC hk]at e;rcases Nat.lt_trichotomy i k with c|c|c
 ·have:=h i k hi hk c;omega
 ·exact c
 ·have:=h k i hk hi c;omega
theorem PY.move{id:Int}(h:PY t ps id e)(hm:∀q∈ps,e.kd=2->q.id=e.ow->∃q'∈qs,q'.id=q.id/\q'.up=q.up/\q'.a=q.a/\q'.l=q.l):PY t qs id e:=by
 rcases h with h|⟨h1,h2,q,hq,h3,h4,h5,h6⟩|h
 ·exact .inl h
 ·obtain⟨q',hq',k1,k2,k3,k4⟩:=hm q hq h1 h3;exact .inr (.inl ⟨h1,h2,q',hq',k1.trans h3,k2.trans h4,k3.trans h5,k4.trans h6⟩)
 ·exact .inr (.inr h)
theorem LT{x:Po}(hi:i<qs.length):x∈qs.take i++qs.drop (i+1)↔∃k,k<qs.length/\k≠i/\poAt qs k=x:=by
 constructor
 ·intro h;obtain⟨j,hj,rfl⟩:=dG h;have hj':j<qs.length- 1:=by simp at hj;omega
  rw[oG hi];by_cases c:j<i
  ·exact⟨j,by omega,by omega,by rw[if_pos c]⟩
  ·exact⟨j+1,by omega,by omega,by rw[if_neg c]⟩
 ·rintro⟨k,hk,hne,rfl⟩;have hl:(qs.take i++qs.drop (i+1)).length=qs.length- 1:=by simp;omega
  by_cases c:k<i
  ·have:=poAt_mem (ps:=qs.take i++qs.drop (i+1)) (i:=k) (by omega);rwa[oG hi,if_pos c]at this
  ·have:=poAt_mem (ps:=qs.take i++qs.drop (i+1)) (i:=k- 1) (by omega);rwa[oG hi,if_neg (by omega),show k- 1+1=k by omega]at this
theorem sU:(qs.take i++qs.drop (i+1)).Sublist qs:=by
 have h1:(qs.take i++qs.drop (i+1)).Sublist (qs.take i++qs.drop i):=List.Sublist.append_left (List.drop_sublist_drop_left _ (by omega)) _;rwa[List.take_append_drop]at h1
structure YQ(t:Int)(ps:List Po)(id:Int)(qs:List Po):Prop where
 heads:iK ps qs
 full:cG qs
 few:∀k,k<ps.length->(poAt qs k).ls.length<=32
 used:∀k,k<ps.length->nP (lp (poAt qs k).ls) (poAt ps k).a (poAt ps k).l
 old:∀k,k<ps.length->∀e∈(poAt qs k).ls,PY t ps (poAt ps k).id e/\¬(e.kd=2/\e.ow=id)
 kept:∀k,k<ps.length->∀e∈(poAt ps k).ls,e.kd=2->e.ow≠id->e∈(poAt qs k).ls
theorem YQ.right(hF:cG ps)(hB:RB t ps)(hi:i<ps.length)(hno:∀e∈(poAt ps i).ls,e.kd≠2)(h:YQ t ps (poAt ps i).id qs):aS t (qs.take i++qs.drop (i+1))=0/\cG (qs.take i++qs.drop (i+1)):=by
 have hql:qs.length=ps.length:=h.heads.1.symm;have hiq:i<qs.length:=by omega
 have hids:=lV.1 (show lQ qs.length qs=true by rw[zO h.heads];exact lV.2 ⟨hB.rise,hB.idw⟩);have htop:=jG.1 (show gF qs=true by rw[uQ h.heads];exact jG.2 hB.tops);have hFr:cG (qs.take i++qs.drop (i+1)):=ER fun p hp=>h.full.mem (sU.subset hp);have ev:∀(P:Po->Prop),(∀k,k<ps.length->k≠i->P (poAt qs k))->∀p∈qs.take i++qs.drop (i+1),P p:=fun P hP p hp=>by
  obtain⟨k,hk,hne,rfl⟩:=(LT hiq).1 hp;exact hP k (by omega) hne
 have hin:∀k,k<ps.length->k≠i->poAt qs k∈qs.take i++qs.drop (i+1):=fun k hk hne=>(LT hiq).2 ⟨k,by omega,hne,rfl⟩;have hne:∀k,k<ps.length->k≠i->(poAt ps k).id≠(poAt ps i).id:=fun k hk hne e=>hne (RI hB.rise hk hi e);have hrise:=hids.1.sublist (sU (qs:=qs) (i:=i));refine⟨RB.chk ⟨?_,hB.t0,hB.t1,fun p hp=>hids.2 p (sU.subset hp),hrise,htop.sublist sU,?_,?_,?_,?_,?_,?_⟩ hFr,hFr⟩
 ·have:=hB.few;have:=sU (qs:=qs) (i:=i)|>.length_le;omega
 ·exact ev _ (fun k hk _=>h.few k hk)
 ·refine ev (fun p=>rt p.a p.l=true) (fun k hk _=>?_);obtain⟨-, -,e3,e4, -⟩:=h.heads.2 k hk;rw[<-e3,<-e4];exact hB.root _ (poAt_mem hk)
 ·refine ev (fun p=>nP (lp p.ls) p.a p.l) (fun k hk _=>?_);obtain⟨-, -,e3,e4, -⟩:=h.heads.2 k hk;rw[<-e3,<-e4];exact h.used k hk
 ·refine ev (fun p=>dC p.mn p.mx p.us p.co p.l=true) (fun k hk _=>?_);obtain⟨-, -, -,e4,e5,e6,e7,e8⟩:=h.heads.2 k hk;rw[<-e4,<-e5,<-e6,<-e7,<-e8];exact hB.rule _ (poAt_mem hk)
 ·refine ev (fun p=>∃f,lL (qs.take i++qs.drop (i+1)) f p=true) (fun k hk hk2=>?_);obtain⟨f,hf⟩:=hB.ups _ (poAt_mem hk);obtain⟨e1,e2, -⟩:=h.heads.2 k hk;refine⟨f,xW hF hFr hB.rise hrise (poAt ps i).id (fun x hx q hq h2=>?_) f (poAt ps k) (poAt qs k) (hne k hk hk2) e1.symm e2.symm hf⟩;obtain⟨m,hm,rfl⟩:=dG hq;obtain⟨e,he,k1,k2⟩:=h2;have hmi:m≠i:=fun c=>by
   subst c;exact hno e he k1
  obtain⟨g1,g2, -⟩:=h.heads.2 m hm;exact⟨hne m hm hmi,_,hin m hm hmi,g1.symm,g2.symm,e,h.kept m hm e he k1 (by rw[k2];exact hx),k1,k2⟩
 ·refine ev (fun p=>∀e∈p.ls,PY t (qs.take i++qs.drop (i+1)) p.id e) (fun k hk hk2 e he=>?_);obtain⟨g1,g2⟩:=h.old k hk e he;rw[<-(h.heads.2 k hk).1];refine g1.move (fun q hq h2 ho=>?_);obtain⟨m,hm,rfl⟩:=dG hq;have hmi:m≠i:=fun c=>by
   subst c;exact g2 ⟨h2,ho.symm⟩
  obtain⟨e1,e2,e3,e4, -⟩:=h.heads.2 m hm;exact⟨_,hin m hm hmi,e1.symm,e2.symm,e3.symm,e4.symm⟩
theorem HG{id:Int}(hF:cG ps)(hE:gO t ps id=0)(hR:lE t ps id t' rs):t'=t/\aS t rs=0/\cG rs:=by
 obtain⟨ht,qs,hA,hC,hrs⟩:=hR;refine⟨ht,?_⟩;unfold gO at hE;by_cases c0:aS t ps=0
 ·rw[if_neg (by simp[c0])]at hE;by_cases c1:aO ps id<0
  ·rw[if_pos c1]at hE;omega
  rw[if_neg c1]at hE;obtain⟨i,hi,hat,hid⟩:=aX c1;rw[hat,Int.toNat_natCast]at hE hrs hA hC;by_cases c2:anyAt (poAt ps i).n (wH (poAt ps i).ls)=true
  ·rw[if_pos c2]at hE;omega
  have hB:=nB hF c0;have hno:∀e∈(poAt ps i).ls,e.kd≠2:=fun e he h2=>by
   obtain⟨k,hk,rfl⟩:=oJ he;exact c2 (bR (k:=k) (by rw[<-hF i hi];exact hk) (by unfold wH;rw[h2];rfl))
  rw[hrs];refine YQ.right hF hB hi hno ?_;have hP:∀k,k<ps.length->∀e∈(poAt ps k).ls,e.kd=2->e.ow=(poAt ps i).id->(poAt ps i).up=(poAt ps k).id/\(poAt ps i).a=e.a:=fun k hk e he h2 ho=>by
   rcases hB.les _ (poAt_mem hk) e he with h|⟨-, -,q,hq,h3,h4,h5, -⟩|h
   ·omega
   ·obtain rfl:=JT hB.rise hq (poAt_mem hi) (h3.trans ho);exact⟨h4,h5⟩
   ·omega
  by_cases c3:aO ps (poAt ps i).up<0
  ·have hs:=hA c3;obtain⟨hcq,hFq⟩:=jW hF hs c0;have hls:∀k,k<ps.length->(poAt qs k).ls=(poAt ps k).ls:=fun k hk=>(hs.2 k hk).2.2.2.2.2.2.2.2.2.symm;refine⟨⟨hs.1,fun i hi=>(hs.2 i hi).head⟩,hFq,fun k hk=>?_,fun k hk=>?_,fun k hk e he=>?_,fun k hk e he _ _=>?_⟩
   ·rw[hls k hk];exact hB.n32 _ (poAt_mem hk)
   ·rw[hls k hk];exact hB.used _ (poAt_mem hk)
   ·rw[hls k hk]at he;exact⟨hB.les _ (poAt_mem hk) e he,fun⟨h2,ho⟩=>jF c3 k hk (hP k hk e he h2 ho).1.symm⟩
   ·rw[hls k hk];exact he
  ·obtain⟨k0,hk0,hat0,hid0⟩:=aX c3;obtain⟨us,x',c',hs,hqs⟩:=hC k0 hat0;have hup:(poAt ps i).up≠0:=fun e=>by
    have:=hB.idw _ (poAt_mem hk0);rw[hid0,e]at this;exact absurd this (by decide)
   have hany:anyAt (poAt ps k0).n (gL (poAt ps k0).ls (poAt ps i).id)=true:=by
    obtain⟨f,hf⟩:=hB.ups _ (poAt_mem hi)
    cases f with
    |zero=>unfold lL at hf;cases hf
    |succ f=>
     rcases(up_step hF hB.rise).1 hf with h|⟨q,hq,h1,h2, -⟩
     ·exact absurd h hup
     ·obtain rfl:=JT hB.rise hq (poAt_mem hk0) (h1.trans hid0.symm);exact(mJ (hF k0 hk0)).2 h2
   rcases firstAt_any (n:=(poAt ps k0).n) (f:=gL (poAt ps k0).ls (poAt ps i).id)with ⟨-,j,hj,hfj, -,hfa⟩|⟨h, -⟩
   ·rw[hfa,Int.toNat_natCast]at hqs;have hjl:j<(poAt ps k0).ls.length:=by rw[hF k0 hk0];exact hj
    unfold gL at hfj;simp only[zH,beq_iff_eq]at hfj;obtain⟨hH,hFr,hls⟩:=zP (x':=x') (c':=c') (ls':=cI (poAt ps k0) j t) hs hF hk0;rw[<-hqs]at hH hFr hls;refine⟨hH,hFr,fun k hk=>?_,fun k hk=>?_,fun k hk e he=>?_,fun k hk e he h2 ho=>?_⟩
    ·rw[hls k hk];split
     ·rename_i e;subst e;exact Nat.le_trans HE (hB.n32 _ (poAt_mem hk0))
     ·exact hB.n32 _ (poAt_mem hk)
    ·rw[hls k hk];split
     ·rename_i e;subst e;exact CV hjl (hB.used _ (poAt_mem hk0))
     ·exact hB.used _ (poAt_mem hk)
    ·rw[hls k hk]at he;split at he
     ·rename_i e';subst e';rcases cool_mem hjl he with ⟨m,hmj,hm,rfl⟩|⟨hc,rfl⟩
      ·refine⟨hB.les _ (poAt_mem hk0) _ (fQ hm),fun⟨h2,ho⟩=>hmj ?_⟩;have g1:=(hP k0 hk0 _ (fQ hm) h2 ho).2;have g2:=(hP k0 hk0 _ (fQ hjl) hfj.1 hfj.2).2;exact YP (hB.used _ (poAt_mem hk0)) hm hjl (g1.symm.trans g2)
      ·exact⟨CW (hB.rule _ (poAt_mem hk0)) hc,fun h=>absurd (show(3:Int)=2 from h.1) (by decide)⟩
     ·rename_i hkk;refine⟨hB.les _ (poAt_mem hk) e he,fun⟨h2,ho⟩=>hkk ?_⟩;exact RI hB.rise hk0 hk (hid0.trans (hP k hk e he h2 ho).1)
    ·rw[hls k hk];split
     ·rename_i e';subst e';obtain⟨m,hm,rfl⟩:=oJ he;exact HD hjl hm (fun e=>ho (by rw[e];exact hfj.2))
     ·exact he
   ·rw[hany]at h
    cases h
 ·rw[if_pos c0]at hE;exact absurd hE c0
theorem JW{id up:Int}(hF:cG ps)(hE:jV t ps id up z mn mx us co=0)(hal:(a,l)=eQ t ps id up z)(hN:oH ps ⟨id,up,a,l,mn,mx,us,co,none,0,0,[]⟩ up rs):aS t rs=0/\cG rs:=by
 unfold jV at hE;by_cases c0':bX t ps id up z≠0
 ·rw[if_pos c0']at hE;exact absurd hE c0'
 have c0:bX t ps id up z=0:=Classical.not_not.1 c0';rw[if_neg c0']at hE;unfold eQ at hal hE;rw[if_neg c0']at hal hE;clear c0';unfold bX at c0;by_cases c1':aS t ps≠0
 ·rw[if_pos c1']at c0;exact absurd c0 c1'
 have c1:aS t ps=0:=Classical.not_not.1 c1';rw[if_neg c1']at c0;by_cases c2:dE id 1 65536=false
 ·rw[if_pos c2]at c0;omega
 rw[if_neg c2]at c0;by_cases c3:aO ps up<0
 ·rw[if_pos c3]at c0;omega
 rw[if_neg c3]at c0;by_cases c4:0<=aO ps id
 ·rw[if_pos c4]at c0;omega
 rw[if_neg c4]at c0;obtain⟨i,hi,hat,hid⟩:=aX c3;rw[hat,Int.toNat_natCast]at c0 hal hE;rw[<-hal]at hE;unfold lT at hE;by_cases c5:dC mn mx us co l=false
 ·rw[if_pos c5]at hE;omega
 rw[if_neg c5]at hE;by_cases c6:ps.length=8
 ·rw[if_pos c6]at hE;omega
 obtain⟨y,e1,e2, -⟩:=G6 c1 hi c0;rw[e1]at hal;simp only[Prod.mk.injEq]at hal;obtain⟨rfl,rfl⟩:=hal;have h31:=yW c0;obtain⟨qs,ms,x',c',ls',hs,hput,hle,hrs⟩:=hN;obtain⟨hcq,hFq⟩:=jW hF hs c1;have hB:=nB hFq hcq;have hiq:i<qs.length:=by rw[<-hs.1];exact hi
 obtain⟨s1,s2,s3,s4, -, -, -, -,s9,s10⟩:=hs.2 i hi;have hno:∀q∈qs,q.id≠id:=fun q hq e=>by
  obtain⟨j,hj,rfl⟩:=dG hq;have hj2:j<ps.length:=by rw[hs.1];exact hj
  exact jF (id:=id) (by omega) j hj2 (by rw[(hs.2 j hj2).1];exact e)
 have hr:=HC hB.rise hput hno;obtain⟨k,hk, -, -,em⟩:=hput;have hmem:∀x,x∈ms↔x=⟨id,up,a,l,mn,mx,us,co,none,0,0,[]⟩\/x∈qs:=fun x=>by rw[em];exact xX
 have hU:poAt qs i∈qs:=poAt_mem hiq;have hUid:(poAt qs i).id=up:=by rw[<-s1];exact hid
 obtain⟨m,hm,hatm,hpm⟩:=JU hr ((hmem _).2 (.inr hU));rw[hUid]at hatm;rw[hatm,Int.toNat_natCast,hpm]at hle hrs;have hatr:∀j,poAt rs j=if m=j then aW (poAt qs i) x' ls'.length c' ls' else poAt ms j:=fun j=>by rw[hrs];exact dF hm
 have hrl:rs.length=ms.length:=by rw[hrs,List.length_set]
 have hH:iK ms rs:=⟨hrl.symm,fun j hj=>by
  rw[hatr];split
  ·rename_i e;rw[<-e,hpm];exact⟨rfl,rfl,rfl,rfl,rfl,rfl,rfl,rfl⟩
  ·exact⟨rfl,rfl,rfl,rfl,rfl,rfl,rfl,rfl⟩⟩
 have hold:∀x∈rs,x=aW (poAt qs i) x' ls'.length c' ls'\/(x=⟨id,up,a,l,mn,mx,us,co,none,0,0,[]⟩\/x∈qs):=fun x hx=>by
  obtain⟨j,hj,rfl⟩:=dG hx;rw[hatr];split
  ·exact .inl rfl
  ·exact .inr ((hmem _).1 (poAt_mem (by omega)))
 have hnewU:aW (poAt qs i) x' ls'.length c' ls'∈rs:=by
  have:=poAt_mem (ps:=rs) (i:=m) (by omega);rwa[hatr,if_pos rfl]at this
 have hin:∀x∈ms,x.id≠up->x∈rs:=fun x hx hne=>by
  obtain⟨j,hj,rfl⟩:=dG hx;have:=poAt_mem (ps:=rs) (i:=j) (by omega);rwa[hatr,if_neg (fun e=>hne (by rw[<-e,hpm];exact hUid))]at this
 have hup0:up≠0:=fun e=>by
  have:=hB.idw _ hU;rw[hUid,e]at this;exact absurd this (by decide)
 have hne:id≠up:=fun e=>hno _ hU (by rw[hUid,e]);have hnewE:(⟨id,up,a,l,mn,mx,us,co,none,0,0,[]⟩:Po)∈rs:=hin _ ((hmem _).2 (.inl rfl)) hne;have hmap:∀q∈qs,∃q'∈rs,G4 q q'/\∀e∈q.ls,e∈q'.ls:=fun q hq=>by
  by_cases c:q.id=up
  ·obtain rfl:=JT hB.rise hq hU (c.trans hUid.symm);refine⟨_,hnewU,⟨rfl,rfl,rfl,rfl,rfl,rfl,rfl,rfl⟩,fun e he=>?_⟩;obtain⟨k',hk', -, -,el⟩:=hle;show e∈ls';rw[el];exact xX.2 (.inr he)
  ·exact⟨q,hin q ((hmem q).2 (.inr hq)) c,⟨rfl,rfl,rfl,rfl,rfl,rfl,rfl,rfl⟩,fun e he=>he⟩
 have hleU:∀e,e∈ls'↔e=⟨a,l,2,id,0⟩\/e∈(poAt qs i).ls:=fun e=>by
  obtain⟨k',hk', -, -,el⟩:=hle;rw[el];exact xX
 have hFr:cG rs:=ER fun p hp=>by
  rcases hold p hp with rfl|rfl|h
  ·rfl
  ·rfl
  ·exact hFq.mem h
 have ev:∀(P:Po->Prop),P (aW (poAt qs i) x' ls'.length c' ls')->P ⟨id,up,a,l,mn,mx,us,co,none,0,0,[]⟩->(∀q∈qs,P q)->∀p∈rs,P p:=fun P h1 h2 h3 p hp=>by
  rcases hold p hp with rfl|rfl|h
  ·exact h1
  ·exact h2
  ·exact h3 p h
 have hwid:dE id 1 65536=true:=by simpa using c2
 have hidsm:lQ rs.length rs=true:=by
  rw[zO hH];exact lV.2 ⟨hr,fun p hp=>by
   rcases(hmem p).1 hp with rfl|h
   ·exact hwid
   ·exact hB.idw p h⟩
 have htopm:gF rs=true:=by
  rw[uQ hH];refine jG.2 ?_;rw[em];exact zQ hB.tops (fun x _ _ u=>absurd u hup0) (fun x _ u _=>absurd u hup0)
 have hids:=lV.1 hidsm;have h0:∀q∈qs,q.id≠0:=fun q hq e0=>by
  have:=hB.idw q hq;rw[e0]at this;exact absurd this (by decide)
 have hups:∀q∈qs,∀q':Po,q'.id=q.id->q'.up=q.up->∃f,lL rs f q'=true:=fun q hq q' g1 g2=>by
  obtain⟨f,hf⟩:=hB.ups q hq;refine⟨f,xW hFq hFr hB.rise hids.1 0 (fun x _ u hu h2=>?_) f q q' (h0 q hq) g1 g2 hf⟩;obtain⟨u',hu',hh,hls⟩:=hmap u hu;obtain⟨e,he,k1,k2⟩:=h2;exact⟨h0 u hu,u',hu',hh.1.symm,hh.2.1.symm,e,hls e he,k1,k2⟩
 have hmv:∀q∈qs,∀e∈q.ls,PY t rs q.id e:=fun q hq e he=>(hB.les q hq e he).move (fun u hu _ _=>by
  obtain⟨u',hu',hh, -⟩:=hmap u hu;exact⟨u',hu',hh.1.symm,hh.2.1.symm,hh.2.2.1.symm,hh.2.2.2.1.symm⟩)
 refine⟨RB.chk ⟨?_,hB.t0,hB.t1,hids.2,hids.1,jG.1 htopm,?_,?_,?_,?_,?_,?_⟩ hFr,hFr⟩
 ·have h8:=hB.few;have h9:=hs.1;rw[hrl,em];simp;omega
 ·refine ev (fun p=>p.ls.length<=32) ?_ (Nat.zero_le _) hB.n32;show ls'.length<=32;rw[hle.len,<-s10,hF i hi];omega
 ·exact ev (fun p=>rt p.a p.l=true) (hB.root (poAt qs i) hU) (bF e2.1).1 hB.root
 ·refine ev (fun p=>nP (lp p.ls) p.a p.l) ?_ ⟨fun u hu=>absurd hu (by simp[lp]),by simp[lp]⟩ hB.used;show nP (lp ls') (poAt qs i).a (poAt qs i).l;rw[s3,s4,s10]at e2;exact GF (hB.used _ hU) e2.1 e2.2 (G9 hle)
 ·exact ev (fun p=>dC p.mn p.mx p.us p.co p.l=true) (hB.rule (poAt qs i) hU) (by simpa using c5) hB.rule
 ·refine ev (fun p=>∃f,lL rs f p=true) (hups _ hU _ rfl rfl) ?_ (fun q hq=>hups q hq q rfl rfl);obtain⟨f,hf⟩:=hups _ hU (aW (poAt qs i) x' ls'.length c' ls') rfl rfl;exact⟨f+1,(up_step hFr hids.1).2 (.inr ⟨_,hnewU,hUid,⟨_,(hleU _).2 (.inl rfl),rfl,rfl⟩,hf⟩)⟩
 ·refine ev (fun p=>∀e∈p.ls,PY t rs p.id e) (fun e he=>?_) (fun e he=>absurd he (by simp)) hmv;rcases(hleU e).1 he with rfl|h
  ·exact .inr (.inl ⟨rfl,rfl,_,hnewE,rfl,hUid.symm,rfl,rfl⟩)
  ·exact hmv _ hU e h
def uS(g:Nat)(cap:Array Value)(n:Nat)(ps:List Sb)(f:Nat->Bool)(w:World):Prop:=
 ∀i,i<n->∀W,Below w.heap.size w W->Calls Tryz.prog g (#[.agg #[.int .i64 (sbAt ps i).id, .int .i64 (sbAt ps i).a, .int .i64 (sbAt ps i).l, .slice (sbAt ps i).x (sbAt ps i).n (sbAt ps i).c]]++cap) W fun e W'=>e= .returned (.bool (f i))/\Below W.heap.size W W'
theorem nC(g:Nat)(cap:Array Value)(x:Option Addr)(n c:Nat)(ps:List Sb)(f:Nat->Bool)(w:World)(hp:SS w x n ps)(hn:n<=1048576)(hF:uS g cap n ps f w)
 (hg:∀args W,(callFunc g args).run Tryz.prog W= .ok (.enter g args) W):
  Calls Tryz.prog 210 #[.slice x n c, .func (.func g) #[] cap] w fun e w'=>(∃r:Int,e= .returned (.int .i64 r)/\((∃i:Nat,i<n/\f i=true/\(∀j,j<i->f j=false)/\r=i)\/((∀j,j<n->f j=false)/\r= -1)))/\Below w.heap.size w w':=(nG.2.2.2.1 g cap x n c _ f w hp.idx (by omega) hF hg).1
theorem fB(g:Nat)(cap:Array Value)(x:Option Addr)(n c:Nat)(ps:List Sb)(f:Nat->Bool)(w:World)(hp:SS w x n ps)(hn:n<=1048576)(hF:uS g cap n ps f w)
 (hg:∀args W,(callFunc g args).run Tryz.prog W= .ok (.enter g args) W):
  Calls Tryz.prog 161 #[.slice x n c, .func (.func g) #[] cap] w fun e w'=>e= .returned (.bool (anyAt n f))/\Below w.heap.size w w':=(nG.2.2.2.1 g cap x n c _ f w hp.idx (by omega) hF hg).2
def JX(g:Nat)(cap:Array Value)(n:Nat)(ps:List Fc)(f:Nat->Bool)(w:World):Prop:=
 ∀i,i<n->∀W,Below w.heap.size w W->Calls Tryz.prog g (#[.agg #[.int .i64 (fcAt ps i).id, .slice (fcAt ps i).x (fcAt ps i).n (fcAt ps i).c]]++cap) W fun e W'=>e= .returned (.bool (f i))/\Below W.heap.size W W'
theorem nE(g:Nat)(cap:Array Value)(x:Option Addr)(n c:Nat)(ps:List Fc)(f:Nat->Bool)(w:World)(hp:sD w x n ps)(hn:n<=1048576)(hF:JX g cap n ps f w)
 (hg:∀args W,(callFunc g args).run Tryz.prog W= .ok (.enter g args) W):
  Calls Tryz.prog 220 #[.slice x n c, .func (.func g) #[] cap] w fun e w'=>(∃r:Int,e= .returned (.int .i64 r)/\((∃i:Nat,i<n/\f i=true/\(∀j,j<i->f j=false)/\r=i)\/((∀j,j<n->f j=false)/\r= -1)))/\Below w.heap.size w w':=(nG.2.2.2.2.1 g cap x n c _ f w hp.idx (by omega) hF hg).1
theorem rF(g:Nat)(cap:Array Value)(x:Option Addr)(n c:Nat)(ps:List Fc)(f:Nat->Bool)(w:World)(hp:sD w x n ps)(hn:n<=1048576)(hF:JX g cap n ps f w)
 (hg:∀args W,(callFunc g args).run Tryz.prog W= .ok (.enter g args) W):
  Calls Tryz.prog 258 #[.slice x n c, .func (.func g) #[] cap] w fun e w'=>e= .returned (.bool (anyAt n f))/\Below w.heap.size w w':=(nG.2.2.2.2.1 g cap x n c _ f w hp.idx (by omega) hF hg).2
def zS(g:Nat)(cap:Array Value)(n:Nat)(ps:List Rg)(f:Nat->Bool)(w:World):Prop:=
 ∀i,i<n->∀W,Below w.heap.size w W->Calls Tryz.prog g (#[.agg #[.int .i64 (aQ ps i).a, .int .i64 (aQ ps i).l, .int .i64 (aQ ps i).p]]++cap) W fun e W'=>e= .returned (.bool (f i))/\Below W.heap.size W W'
theorem xG(g:Nat)(cap:Array Value)(x:Option Addr)(n c:Nat)(ps:List Rg)(f:Nat->Bool)(w:World)(hp:RS w x n ps)(hn:n<=1048576)(hF:zS g cap n ps f w)
 (hg:∀args W,(callFunc g args).run Tryz.prog W= .ok (.enter g args) W):
  Calls Tryz.prog 159 #[.slice x n c, .func (.func g) #[] cap] w fun e w'=>(∃r:Int,e= .returned (.int .i64 r)/\((∃i:Nat,i<n/\f i=true/\(∀j,j<i->f j=false)/\r=i)\/((∀j,j<n->f j=false)/\r= -1)))/\Below w.heap.size w w':=(nG.2.2.1 g cap x n c _ f w hp.idx (by omega) hF hg).1
theorem dO(g:Nat)(cap:Array Value)(x:Option Addr)(n c:Nat)(ps:List Rg)(f:Nat->Bool)(w:World)(hp:RS w x n ps)(hn:n<=1048576)(hF:zS g cap n ps f w)
 (hg:∀args W,(callFunc g args).run Tryz.prog W= .ok (.enter g args) W):
  Calls Tryz.prog 190 #[.slice x n c, .func (.func g) #[] cap] w fun e w'=>e= .returned (.bool (anyAt n f))/\Below w.heap.size w w':=(nG.2.2.1 g cap x n c _ f w hp.idx (by omega) hF hg).2
def JY(g:Nat)(cap:Array Value)(n:Nat)(ps:List Int)(f:Nat->Bool)(w:World):Prop:=
 ∀i,i<n->∀W,Below w.heap.size w W->Calls Tryz.prog g (#[.int .i64 (bT ps i)]++cap) W fun e W'=>e= .returned (.bool (f i))/\Below W.heap.size W W'
theorem xH(g:Nat)(cap:Array Value)(x:Option Addr)(n c:Nat)(ps:List Int)(f:Nat->Bool)(w:World)(hp:IS w x n ps)(hn:n<=1048576)(hF:JY g cap n ps f w)
 (hg:∀args W,(callFunc g args).run Tryz.prog W= .ok (.enter g args) W):
  Calls Tryz.prog 225 #[.slice x n c, .func (.func g) #[] cap] w fun e w'=>(∃r:Int,e= .returned (.int .i64 r)/\((∃i:Nat,i<n/\f i=true/\(∀j,j<i->f j=false)/\r=i)\/((∀j,j<n->f j=false)/\r= -1)))/\Below w.heap.size w w':=(nG.2.2.2.2.2.1 g cap x n c _ f w hp.idx (by omega) hF hg).1
theorem rG(g:Nat)(cap:Array Value)(x:Option Addr)(n c:Nat)(ps:List Int)(f:Nat->Bool)(w:World)(hp:IS w x n ps)(hn:n<=1048576)(hF:JY g cap n ps f w)
 (hg:∀args W,(callFunc g args).run Tryz.prog W= .ok (.enter g args) W):
  Calls Tryz.prog 272 #[.slice x n c, .func (.func g) #[] cap] w fun e w'=>e= .returned (.bool (anyAt n f))/\Below w.heap.size w w':=(nG.2.2.2.2.2.1 g cap x n c _ f w hp.idx (by omega) hF hg).2
def cR(e:Rg):List Value:=[.int .i64 e.a, .int .i64 e.l, .int .i64 e.p]
def flatR(es:List Rg):List Value:=es.flatMap cR
theorem JZ(e:Rg):(cR e).length=3:=rfl
theorem uT:∀es:List Rg,(flatR es).length=es.length*3:=mF JZ
theorem CX(es fs:List Rg):flatR (es++fs)=flatR es++flatR fs:=by simp[flatR]
theorem RJ:∀(es:List Rg) (i j:Nat),i<es.length->j<3->(flatR es)[i*3+j]?=(cR (aQ es i))[j]?:=sG JZ rgZ
theorem pV(es:List Rg):∀u∈flatR es,u.oneCell'=true:=fun u hu=>by
 obtain⟨e, -,hu⟩:=List.mem_flatMap.1 hu;simp only[cR,List.mem_cons,List.not_mem_nil,or_false]at hu;rcases hu with rfl|rfl|rfl<;>rfl
def bM(w:World)(base:Nat)(v:Value)(es:List Rg):Prop:=w.ownsRow base 127 3 v es.length (flatR es)
theorem bM.later(h:bM w base v es)(hb:Below w.heap.size w w'):bM w' base v es:=eG h hb
theorem bM.kept(h:bM w base v es)(hg:w.grownBy w' (some g))(hne:∀k,v.ownBlock=some k->k≠g):bM w' base v es:=fN h hg hne
theorem bM.low(h:bM w base v es)(hb:base'<=base):bM w base' v es:=iV h hb
theorem bM.lt(h:bM w base v es):∀k,v.ownBlock=some k->base<=k/\k<w.heap.size:=World.ownsRow.lt h
theorem bM.ne{t:TypeId}(h:bM w base v es)(hb:w.heap[b]?=some (.cells cs t fr))(ht:t≠127):v.ownBlock≠some b:=jP h hb ht
theorem YR:Ty 127 89 3 (.agg #[.int .i64 0, .int .i64 0, .int .i64 0]) 24:=sF (by kernel_rfl) (by kernel_rfl) rfl (pV [rgZ]) (by decide) (by decide)
theorem RS.flat_cells(h:RS w (some ad) n es):∀j u,(flatR es)[j]?=some u->w.cell? (ad.add j)=some u:=
 jO (by decide) JZ rgZ h.len fun i hi=>by
  obtain⟨b,o,hx,d0,d1,d2⟩:=h.cells i hi;exact⟨b,o,hx,by rintro(_|_|_|q) u hu<;>first|(cases hu;assumption)|simp[cR]at hu⟩
theorem RS.rw(h:RS w x n es):Rw w x n 3 (flatR es):=
 ⟨by rw[uT,h.len],fun h0 e=>(by obtain⟨b,o,hx, -⟩:=h.cells 0 h0;rw[e]at hx;cases hx),pV es,fun ad hx=>by subst hx;exact h.flat_cells⟩
theorem bM.mem(h:bM w base v es):∃x c,v= .slice x es.length c/\es.length<=c/\c<=9223372036854775807/\(x=none->es.length=0/\c=0)/\∀i,i<es.length->∃b o,x=some ⟨b,o,none⟩/\w.cell? ⟨b,o+i*3,none⟩=some (.int .i64 (aQ es i).a)/\w.cell? ⟨b,o+i*3+1,none⟩=some (.int .i64 (aQ es i).l)/\w.cell? ⟨b,o+i*3+2,none⟩=some (.int .i64 (aQ es i).p):=by
 obtain⟨x,c,hv,h1,h2,h3,h4⟩:=kP h;refine⟨x,c,hv,h1,h2,h3,fun i hi=>?_⟩;obtain⟨b,o,hx,e⟩:=h4 i hi;have e:=fun j u hj hu=>e j u hj ((RJ es i j hi hj).trans hu);exact⟨b,o,hx,e 0 _ (by decide) rfl,e 1 _ (by decide) rfl,e 2 _ (by decide) rfl⟩
def cS(e:Sb):List Value:=[.int .i64 e.id, .int .i64 e.a, .int .i64 e.l, .slice e.x e.n e.c]
def flatS(es:List Sb):List Value:=es.flatMap cS
theorem J0(e:Sb):(cS e).length=4:=rfl
theorem fH:∀es:List Sb,(flatS es).length=es.length*4:=mF J0
theorem CY(es fs:List Sb):flatS (es++fs)=flatS es++flatS fs:=by simp[flatS]
theorem oK:∀(es:List Sb) (i j:Nat),i<es.length->j<4->(flatS es)[i*4+j]?=(cS (sbAt es i))[j]?:=sG J0 sbZ
theorem pW(es:List Sb):∀u∈flatS es,u.oneCell'=true:=fun u hu=>by
 obtain⟨e, -,hu⟩:=List.mem_flatMap.1 hu;simp only[cS,List.mem_cons,List.not_mem_nil,or_false]at hu;rcases hu with rfl|rfl|rfl|rfl<;>rfl
def cA(w:World)(base:Nat)(v:Value)(es:List Sb):Prop:=w.ownsRow base 130 4 v es.length (flatS es)
theorem cA.later{es:List Sb}(h:cA w base v es)(hb:Below w.heap.size w w'):cA w' base v es:=eG h hb
theorem cA.kept{es:List Sb}(h:cA w base v es)(hg:w.grownBy w' (some g))(hne:∀k,v.ownBlock=some k->k≠g):cA w' base v es:=fN h hg hne
theorem cA.low{es:List Sb}(h:cA w base v es)(hb:base'<=base):cA w base' v es:=iV h hb
theorem cA.lt{es:List Sb}(h:cA w base v es):∀k,v.ownBlock=some k->base<=k/\k<w.heap.size:=World.ownsRow.lt h
theorem cA.ne{es:List Sb}{t:TypeId}(h:cA w base v es)(hb:w.heap[b]?=some (.cells cs t fr))(ht:t≠130):v.ownBlock≠some b:=jP h hb ht
theorem YS:Ty 130 90 4 (.agg #[.int .i64 0, .int .i64 0, .int .i64 0, .slice none 0 0]) 48:=sF (by kernel_rfl) (by kernel_rfl) rfl (pW [sbZ]) (by decide) (by decide)
theorem SS.flat_cells{es:List Sb}(h:SS w (some ad) n es):∀j u,(flatS es)[j]?=some u->w.cell? (ad.add j)=some u:=
 jO (by decide) J0 sbZ h.len fun i hi=>by
  obtain⟨b,o,hx,d0,d1,d2,d3⟩:=h.cells i hi;exact⟨b,o,hx,by rintro(_|_|_|_|q) u hu<;>first|(cases hu;assumption)|simp[cS]at hu⟩
theorem SS.rw{es:List Sb}(h:SS w x n es):Rw w x n 4 (flatS es):=
 ⟨by rw[fH,h.len],fun h0 e=>(by obtain⟨b,o,hx, -⟩:=h.cells 0 h0;rw[e]at hx;cases hx),pW es,fun ad hx=>by subst hx;exact h.flat_cells⟩
theorem cA.mem{es:List Sb}(h:cA w base v es):∃x c,v= .slice x es.length c/\es.length<=c/\c<=9223372036854775807/\(x=none->es.length=0/\c=0)/\∀i,i<es.length->∃b o,x=some ⟨b,o,none⟩/\w.cell? ⟨b,o+i*4,none⟩=some (.int .i64 (sbAt es i).id)/\w.cell? ⟨b,o+i*4+1,none⟩=some (.int .i64 (sbAt es i).a)/\w.cell? ⟨b,o+i*4+2,none⟩=some (.int .i64 (sbAt es i).l)/\w.cell? ⟨b,o+i*4+3,none⟩=some (.slice (sbAt es i).x (sbAt es i).n (sbAt es i).c):=by
 obtain⟨x,c,hv,h1,h2,h3,h4⟩:=kP h;refine⟨x,c,hv,h1,h2,h3,fun i hi=>?_⟩;obtain⟨b,o,hx,e⟩:=h4 i hi;have e:=fun j u hj hu=>e j u hj ((oK es i j hi hj).trans hu);exact⟨b,o,hx,e 0 _ (by decide) rfl,e 1 _ (by decide) rfl,e 2 _ (by decide) rfl,e 3 _ (by decide) rfl⟩
def cF(e:Fc):List Value:=[.int .i64 e.id, .slice e.x e.n e.c]
def flatF(es:List Fc):List Value:=es.flatMap cF
theorem J1(e:Fc):(cF e).length=2:=rfl
theorem gP:∀es:List Fc,(flatF es).length=es.length*2:=mF J1
theorem CZ(es fs:List Fc):flatF (es++fs)=flatF es++flatF fs:=by simp[flatF]
theorem sV:∀(es:List Fc) (i j:Nat),i<es.length->j<2->(flatF es)[i*2+j]?=(cF (fcAt es i))[j]?:=sG J1 fcZ
theorem pX(es:List Fc):∀u∈flatF es,u.oneCell'=true:=fun u hu=>by
 obtain⟨e, -,hu⟩:=List.mem_flatMap.1 hu;simp only[cF,List.mem_cons,List.not_mem_nil,or_false]at hu;rcases hu with rfl|rfl<;>rfl
def eB(w:World)(base:Nat)(v:Value)(es:List Fc):Prop:=w.ownsRow base 133 2 v es.length (flatF es)
theorem eB.later{es:List Fc}(h:eB w base v es)(hb:Below w.heap.size w w'):eB w' base v es:=eG h hb
theorem eB.kept{es:List Fc}(h:eB w base v es)(hg:w.grownBy w' (some g))(hne:∀k,v.ownBlock=some k->k≠g):eB w' base v es:=fN h hg hne
theorem eB.low{es:List Fc}(h:eB w base v es)(hb:base'<=base):eB w base' v es:=iV h hb
theorem eB.lt{es:List Fc}(h:eB w base v es):∀k,v.ownBlock=some k->base<=k/\k<w.heap.size:=World.ownsRow.lt h
theorem eB.ne{es:List Fc}{t:TypeId}(h:eB w base v es)(hb:w.heap[b]?=some (.cells cs t fr))(ht:t≠133):v.ownBlock≠some b:=jP h hb ht
theorem YT:Ty 133 128 2 (.agg #[.int .i64 0, .slice none 0 0]) 32:=sF (by kernel_rfl) (by kernel_rfl) rfl (pX [fcZ]) (by decide) (by decide)
theorem sD.flat_cells{es:List Fc}(h:sD w (some ad) n es):∀j u,(flatF es)[j]?=some u->w.cell? (ad.add j)=some u:=
 jO (by decide) J1 fcZ h.len fun i hi=>by
  obtain⟨b,o,hx,d0,d1⟩:=h.cells i hi;exact⟨b,o,hx,by rintro(_|_|q) u hu<;>first|(cases hu;assumption)|simp[cF]at hu⟩
theorem sD.rw{es:List Fc}(h:sD w x n es):Rw w x n 2 (flatF es):=
 ⟨by rw[gP,h.len],fun h0 e=>(by obtain⟨b,o,hx, -⟩:=h.cells 0 h0;rw[e]at hx;cases hx),pX es,fun ad hx=>by subst hx;exact h.flat_cells⟩
theorem eB.mem{es:List Fc}(h:eB w base v es):∃x c,v= .slice x es.length c/\es.length<=c/\c<=9223372036854775807/\(x=none->es.length=0/\c=0)/\∀i,i<es.length->∃b o,x=some ⟨b,o,none⟩/\w.cell? ⟨b,o+i*2,none⟩=some (.int .i64 (fcAt es i).id)/\w.cell? ⟨b,o+i*2+1,none⟩=some (.slice (fcAt es i).x (fcAt es i).n (fcAt es i).c):=by
 obtain⟨x,c,hv,h1,h2,h3,h4⟩:=kP h;refine⟨x,c,hv,h1,h2,h3,fun i hi=>?_⟩;obtain⟨b,o,hx,e⟩:=h4 i hi;have e:=fun j u hj hu=>e j u hj ((sV es i j hi hj).trans hu);exact⟨b,o,hx,e 0 _ (by decide) rfl,e 1 _ (by decide) rfl⟩
theorem J2(x:Option Addr)(n c:Nat)(es:List Rg)(w:World)(hl:RS w x n es)(hn:n<=1048576):
  Calls Tryz.prog 139 #[.slice x n c] w fun e w'=>∃v,e= .returned v/\bM w' w.heap.size v es/\Below w.heap.size w w':=by
 obtain rfl:=hl.len;exact nX.2.2.1 _ _ YR x _ c _ w hl.rw hn
theorem J3(x:Option Addr)(n c:Nat)(es:List Sb)(w:World)(hl:SS w x n es)(hn:n<=1048576):
  Calls Tryz.prog 140 #[.slice x n c] w fun e w'=>∃v,e= .returned v/\cA w' w.heap.size v es/\Below w.heap.size w w':=by
 obtain rfl:=hl.len;exact nX.2.2.2.1 _ _ YS x _ c _ w hl.rw hn
theorem J4(x:Option Addr)(n c:Nat)(es:List Fc)(w:World)(hl:sD w x n es)(hn:n<=1048576):
  Calls Tryz.prog 196 #[.slice x n c] w fun e w'=>∃v,e= .returned v/\eB w' w.heap.size v es/\Below w.heap.size w w':=by
 obtain rfl:=hl.len;exact nX.2.2.2.2.1 _ _ YT x _ c _ w hl.rw hn
theorem wI(p r:Rg)(v:Int)(hv:F7 p.a r.a v)(bb kk:Nat)(w:World)(hby:w.cell? ⟨bb,0,none⟩=some (.func (.func 209) #[] #[])):
  Calls Tryz.prog 248 #[.agg #[.int .i64 p.a, .int .i64 p.l, .int .i64 p.p], .agg #[.int .i64 r.a, .int .i64 r.l, .int .i64 r.p], .slice (some ⟨bb,0,none⟩) 1 kk] w fun e w'=>e= .returned (.int .i64 v)/\Below w.heap.size w w':=NC.2.2.1 bys.2.2.1 p r v hv bb kk w hby
def RK(e:Rg)(n:Nat)(ps:List Rg)(w:World)(r:Ending)(w':World):Prop:=
 ∃v,r= .returned v/\Below w.heap.size w w'/\∃i,i<=n/\(∀j,j<i->¬e.a<(aQ ps j).a)/\(i<n->e.a<(aQ ps i).a)/\bM w' w.heap.size v (ps.take i++[e]++ps.drop i)
theorem RL(e:Rg)(x:Option Addr)(n c:Nat)(ps:List Rg)(bf k:Nat)(w:World)(hp:RS w x n ps)(hn:n<=32)(hnc:n<=c)(hc63:c<=9223372036854775807)(hx:(x=none/\c=0)\/∃b o,x=some ⟨b,o,none⟩)
 (hby:w.cell? ⟨bf,0,none⟩=some (.func (.func 209) #[] #[])):
  Calls Tryz.prog 208 #[.slice x n c, .agg #[.int .i64 e.a, .int .i64 e.l, .int .i64 e.p], .slice (some ⟨bf,0,none⟩) 1 k] w (RK e n ps w):=by
 have hB2:=bO w (.cells #[.int .i64 e.a, .int .i64 e.l, .int .i64 e.p] 127) (.cells #[.slice (some ⟨bf,0,none⟩) 1 k] 321);refine(GJ.2.2.1 _ _ YR e x n c bf 1 k (flatR ps) (fun i=>decide (e.a<(aQ ps i).a)) w hp.rw (pV [e]) hn hnc hc63 hx (xG _ _ x n c ps _ _ (hp.later hB2) (by omega) (fun i hi W hW=>?_) iP.2.2.1.2)).mono ?_
 ·obtain⟨v,hv,hd⟩:=qY e.a (aQ ps i).a;exact(iP.2.2.1.1 e (aQ ps i) v w.heap.size (w.heap.size+1) bf 1 k W (fun i=>(hW.cell (p:=⟨w.heap.size,i,none⟩) (by show w.heap.size<_;simp;omega)).trans (by simp)) (cell_later hW (by simp)) fun W9 h9=>wI e _ v hv bf k W9 (cell_later h9 (cell_later hW (cell_later hB2 hby)))).mono fun _ _ h=>⟨h.1.trans (congrArg (fun t=>Ending.returned (.bool t)) hd.symm),h.2⟩
 ·rintro r w1 ⟨v,rfl,hb,i,hi,hlow,hup,ho⟩;exact⟨v,rfl,hb,i,hi,fun j hj=>of_decide_eq_false (hlow j hj),fun h=>of_decide_eq_true (hup h),kQ flatR uT CX hp.len hi ho⟩
theorem wJ(p r:Sb)(v:Int)(hv:F7 p.id r.id v)(bb kk:Nat)(w:World)(hby:w.cell? ⟨bb,0,none⟩=some (.func (.func 169) #[] #[])):
  Calls Tryz.prog 217 #[.agg #[.int .i64 p.id, .int .i64 p.a, .int .i64 p.l, .slice p.x p.n p.c], .agg #[.int .i64 r.id, .int .i64 r.a, .int .i64 r.l, .slice r.x r.n r.c], .slice (some ⟨bb,0,none⟩) 1 kk] w fun e w'=>e= .returned (.int .i64 v)/\Below w.heap.size w w':=NC.2.2.2.1 bys.2.2.2.1 p r v hv bb kk w hby
def RM(e:Sb)(n:Nat)(ps:List Sb)(w:World)(r:Ending)(w':World):Prop:=
 ∃v,r= .returned v/\Below w.heap.size w w'/\∃i,i<=n/\(∀j,j<i->¬e.id<(sbAt ps j).id)/\(i<n->e.id<(sbAt ps i).id)/\cA w' w.heap.size v (ps.take i++[e]++ps.drop i)
theorem RN(e:Sb)(x:Option Addr)(n c:Nat)(ps:List Sb)(bf k:Nat)(w:World)(hp:SS w x n ps)(hn:n<=32)(hnc:n<=c)(hc63:c<=9223372036854775807)(hx:(x=none/\c=0)\/∃b o,x=some ⟨b,o,none⟩)
 (hby:w.cell? ⟨bf,0,none⟩=some (.func (.func 169) #[] #[])):
  Calls Tryz.prog 168 #[.slice x n c, .agg #[.int .i64 e.id, .int .i64 e.a, .int .i64 e.l, .slice e.x e.n e.c], .slice (some ⟨bf,0,none⟩) 1 k] w (RM e n ps w):=by
 have hB2:=bO w (.cells #[.int .i64 e.id, .int .i64 e.a, .int .i64 e.l, .slice e.x e.n e.c] 130) (.cells #[.slice (some ⟨bf,0,none⟩) 1 k] 285);refine(GJ.2.2.2.1 _ _ YS e x n c bf 1 k (flatS ps) (fun i=>decide (e.id<(sbAt ps i).id)) w hp.rw (pW [e]) hn hnc hc63 hx (nC _ _ x n c ps _ _ (hp.later hB2) (by omega) (fun i hi W hW=>?_) iP.2.2.2.1.2)).mono ?_
 ·obtain⟨v,hv,hd⟩:=qY e.id (sbAt ps i).id;exact(iP.2.2.2.1.1 e (sbAt ps i) v w.heap.size (w.heap.size+1) bf 1 k W (fun i=>(hW.cell (p:=⟨w.heap.size,i,none⟩) (by show w.heap.size<_;simp;omega)).trans (by simp)) (cell_later hW (by simp)) fun W9 h9=>wJ e _ v hv bf k W9 (cell_later h9 (cell_later hW (cell_later hB2 hby)))).mono fun _ _ h=>⟨h.1.trans (congrArg (fun t=>Ending.returned (.bool t)) hd.symm),h.2⟩
 ·rintro r w1 ⟨v,rfl,hb,i,hi,hlow,hup,ho⟩;exact⟨v,rfl,hb,i,hi,fun j hj=>of_decide_eq_false (hlow j hj),fun h=>of_decide_eq_true (hup h),kQ flatS fH CY hp.len hi ho⟩
theorem wK(p r:Fc)(v:Int)(hv:F7 p.id r.id v)(bb kk:Nat)(w:World)(hby:w.cell? ⟨bb,0,none⟩=some (.func (.func 173) #[] #[])):
  Calls Tryz.prog 222 #[.agg #[.int .i64 p.id, .slice p.x p.n p.c], .agg #[.int .i64 r.id, .slice r.x r.n r.c], .slice (some ⟨bb,0,none⟩) 1 kk] w fun e w'=>e= .returned (.int .i64 v)/\Below w.heap.size w w':=NC.2.2.2.2.1 bys.2.2.2.2.1 p r v hv bb kk w hby
def RO(e:Fc)(n:Nat)(ps:List Fc)(w:World)(r:Ending)(w':World):Prop:=
 ∃v,r= .returned v/\Below w.heap.size w w'/\∃i,i<=n/\(∀j,j<i->¬e.id<(fcAt ps j).id)/\(i<n->e.id<(fcAt ps i).id)/\eB w' w.heap.size v (ps.take i++[e]++ps.drop i)
theorem RP(e:Fc)(x:Option Addr)(n c:Nat)(ps:List Fc)(bf k:Nat)(w:World)(hp:sD w x n ps)(hn:n<=32)(hnc:n<=c)(hc63:c<=9223372036854775807)(hx:(x=none/\c=0)\/∃b o,x=some ⟨b,o,none⟩)
 (hby:w.cell? ⟨bf,0,none⟩=some (.func (.func 173) #[] #[])):
  Calls Tryz.prog 172 #[.slice x n c, .agg #[.int .i64 e.id, .slice e.x e.n e.c], .slice (some ⟨bf,0,none⟩) 1 k] w (RO e n ps w):=by
 have hB2:=bO w (.cells #[.int .i64 e.id, .slice e.x e.n e.c] 133) (.cells #[.slice (some ⟨bf,0,none⟩) 1 k] 289);refine(GJ.2.2.2.2.1 _ _ YT e x n c bf 1 k (flatF ps) (fun i=>decide (e.id<(fcAt ps i).id)) w hp.rw (pX [e]) hn hnc hc63 hx (nE _ _ x n c ps _ _ (hp.later hB2) (by omega) (fun i hi W hW=>?_) iP.2.2.2.2.1.2)).mono ?_
 ·obtain⟨v,hv,hd⟩:=qY e.id (fcAt ps i).id;exact(iP.2.2.2.2.1.1 e (fcAt ps i) v w.heap.size (w.heap.size+1) bf 1 k W (fun i=>(hW.cell (p:=⟨w.heap.size,i,none⟩) (by show w.heap.size<_;simp;omega)).trans (by simp)) (cell_later hW (by simp)) fun W9 h9=>wK e _ v hv bf k W9 (cell_later h9 (cell_later hW (cell_later hB2 hby)))).mono fun _ _ h=>⟨h.1.trans (congrArg (fun t=>Ending.returned (.bool t)) hd.symm),h.2⟩
 ·rintro r w1 ⟨v,rfl,hb,i,hi,hlow,hup,ho⟩;exact⟨v,rfl,hb,i,hi,fun j hj=>of_decide_eq_false (hlow j hj),fun h=>of_decide_eq_true (hup h),kQ flatF gP CZ hp.len hi ho⟩
theorem bM.drew(h:bM w base v es):bM w.drew base v es:=h.later (zD).drew
theorem HH(base g k cap i j:Nat)(es:List Rg)(w:World)(hO:bM w base (.slice (some ⟨g,0,none⟩) (k+1) cap) es)(hn:es.length=k+1)(hi:i<=k)(hj:j=i+1)(hn64:k<=64)(hnc:k+1<=cap)(hcm:cap<=9223372036854775807):
  Calls Tryz.prog 164 #[.slice (some ⟨g,0,none⟩) (k+1) cap, .int .i64 i, .int .i64 j] w fun e w'=>e= .returned (.slice (some ⟨g,0,none⟩) k cap)/\bM w' base (.slice (some ⟨g,0,none⟩) k cap) (es.take i++es.drop j)/\w.grownBy w' (some g):=
 (pM.2.2.1 _ _ YR base g k cap i j (flatR es) w (by unfold bM at hO;rw[hn]at hO;exact hO) (pV es) hi hj hn64 hnc hcm).mono fun e w1 h=>⟨h.1,pJ flatR uT CX hn (by omega) hj h.2.1,h.2.2⟩
theorem HI(base g k cap i j:Nat)(es:List Sb)(w:World)(hO:cA w base (.slice (some ⟨g,0,none⟩) (k+1) cap) es)(hn:es.length=k+1)(hi:i<=k)(hj:j=i+1)(hn64:k<=64)(hnc:k+1<=cap)(hcm:cap<=9223372036854775807):
  Calls Tryz.prog 170 #[.slice (some ⟨g,0,none⟩) (k+1) cap, .int .i64 i, .int .i64 j] w fun e w'=>e= .returned (.slice (some ⟨g,0,none⟩) k cap)/\cA w' base (.slice (some ⟨g,0,none⟩) k cap) (es.take i++es.drop j)/\w.grownBy w' (some g):=
 (pM.2.2.2.1 _ _ YS base g k cap i j (flatS es) w (by unfold cA at hO;rw[hn]at hO;exact hO) (pW es) hi hj hn64 hnc hcm).mono fun e w1 h=>⟨h.1,pJ flatS fH CY hn (by omega) hj h.2.1,h.2.2⟩
theorem eB.drew{es:List Fc}(h:eB w base v es):eB w.drew base v es:=h.later (zD).drew
theorem HJ(base g k cap i j:Nat)(es:List Fc)(w:World)(hO:eB w base (.slice (some ⟨g,0,none⟩) (k+1) cap) es)(hn:es.length=k+1)(hi:i<=k)(hj:j=i+1)(hn64:k<=64)(hnc:k+1<=cap)(hcm:cap<=9223372036854775807):
  Calls Tryz.prog 178 #[.slice (some ⟨g,0,none⟩) (k+1) cap, .int .i64 i, .int .i64 j] w fun e w'=>e= .returned (.slice (some ⟨g,0,none⟩) k cap)/\eB w' base (.slice (some ⟨g,0,none⟩) k cap) (es.take i++es.drop j)/\w.grownBy w' (some g):=
 (pM.2.2.2.2.1 _ _ YT base g k cap i j (flatF es) w (by unfold eB at hO;rw[hn]at hO;exact hO) (pX es) hi hj hn64 hnc hcm).mono fun e w1 h=>⟨h.1,pJ flatF gP CZ hn (by omega) hj h.2.1,h.2.2⟩
def ET(ps:List Rg)(i:Nat):Bool:=i==0||decide ((aQ ps (i- 1)).a<(aQ ps i).a)
def EU(ps:List Rg):Bool:=(List.range ps.length).all (ET ps)
theorem NS(x:Option Addr)(n c:Nat)(ps:List Rg)(bb kk:Nat)(w:World)(hp:RS w x n ps)(hn:n<=64)(hby:w.cell? ⟨bb,0,none⟩=some (.func (.func 209) #[] #[])):
  Calls Tryz.prog 234 #[.slice x n c, .slice (some ⟨bb,0,none⟩) 1 kk] w fun e w'=>e= .returned (.bool (EU ps))/\Below w.heap.size w w':=by
 refine(CO.2.1 (aQ ps) (fun i=>decide ((aQ ps i).a<(aQ ps (i+1)).a)) x n c bb 1 kk w hn (fun i hi=>?_) (fun i hi=>?_)).mono ?_
 ·obtain⟨b,o,hx,d0,d1,d2⟩:=hp.cells i hi;exact⟨b,o,hx,by rintro(_|_|_|q) hq<;>first|assumption|omega⟩
 ·obtain⟨v,hv,hd⟩:=uH ((aQ ps i).a) ((aQ ps (i+1)).a);exact⟨v,hd,fun W hW=>wI _ _ v hv bb kk W (cell_later hW hby)⟩
 ·rintro e w1 ⟨t,rfl,hb,h⟩;exact⟨congrArg (fun t=>Ending.returned (.bool t)) ((pN (R:=ET ps) rfl (fun _=>rfl) h).trans (by rw[<-hp.len];rfl)),hb⟩
def xY(ps:List Sb)(i:Nat):Bool:=i==0||decide ((sbAt ps (i- 1)).id<(sbAt ps i).id)
def rH(ps:List Sb):Bool:=(List.range ps.length).all (xY ps)
theorem NT(x:Option Addr)(n c:Nat)(ps:List Sb)(bb kk:Nat)(w:World)(hp:SS w x n ps)(hn:n<=64)(hby:w.cell? ⟨bb,0,none⟩=some (.func (.func 169) #[] #[])):
  Calls Tryz.prog 236 #[.slice x n c, .slice (some ⟨bb,0,none⟩) 1 kk] w fun e w'=>e= .returned (.bool (rH ps))/\Below w.heap.size w w':=by
 refine(CO.2.2.1 (sbAt ps) (fun i=>decide ((sbAt ps i).id<(sbAt ps (i+1)).id)) x n c bb 1 kk w hn (fun i hi=>?_) (fun i hi=>?_)).mono ?_
 ·obtain⟨b,o,hx,d0,d1,d2,d3⟩:=hp.cells i hi;exact⟨b,o,hx,by rintro(_|_|_|_|q) hq<;>first|assumption|omega⟩
 ·obtain⟨v,hv,hd⟩:=uH ((sbAt ps i).id) ((sbAt ps (i+1)).id);exact⟨v,hd,fun W hW=>wJ _ _ v hv bb kk W (cell_later hW hby)⟩
 ·rintro e w1 ⟨t,rfl,hb,h⟩;exact⟨congrArg (fun t=>Ending.returned (.bool t)) ((pN (R:=xY ps) rfl (fun _=>rfl) h).trans (by rw[<-hp.len];rfl)),hb⟩
def EV(ps:List Fc)(i:Nat):Bool:=i==0||decide ((fcAt ps (i- 1)).id<(fcAt ps i).id)
def rI(ps:List Fc):Bool:=(List.range ps.length).all (EV ps)
theorem NU(x:Option Addr)(n c:Nat)(ps:List Fc)(bb kk:Nat)(w:World)(hp:sD w x n ps)(hn:n<=64)(hby:w.cell? ⟨bb,0,none⟩=some (.func (.func 173) #[] #[])):
  Calls Tryz.prog 261 #[.slice x n c, .slice (some ⟨bb,0,none⟩) 1 kk] w fun e w'=>e= .returned (.bool (rI ps))/\Below w.heap.size w w':=by
 refine(CO.2.2.2.1 (fcAt ps) (fun i=>decide ((fcAt ps i).id<(fcAt ps (i+1)).id)) x n c bb 1 kk w hn (fun i hi=>?_) (fun i hi=>?_)).mono ?_
 ·obtain⟨b,o,hx,d0,d1⟩:=hp.cells i hi;exact⟨b,o,hx,by rintro(_|_|q) hq<;>first|assumption|omega⟩
 ·obtain⟨v,hv,hd⟩:=uH ((fcAt ps i).id) ((fcAt ps (i+1)).id);exact⟨v,hd,fun W hW=>wK _ _ v hv bb kk W (cell_later hW hby)⟩
 ·rintro e w1 ⟨t,rfl,hb,h⟩;exact⟨congrArg (fun t=>Ending.returned (.bool t)) ((pN (R:=EV ps) rfl (fun _=>rfl) h).trans (by rw[<-hp.len];rfl)),hb⟩
theorem J5(a:Int)(w:World):
  Calls Tryz.prog 177 #[.int .i64 a] w fun e w'=>e= .returned (.int .i64 a)/\Below w.heap.size w w':=by
 go_enter Tryz.func177,Tryz.ntmps177;go_wp2;go_ret;exact⟨rfl,zD⟩
theorem HK(args:Array Value)(W:World):(callFunc 177 args).run Tryz.prog W= .ok (.enter 177 args) W:=by simp[go_sem]
theorem wL(p r v:Int)(hv:F7 p r v)(bb kk:Nat)(w:World)(hby:w.cell? ⟨bb,0,none⟩=some (.func (.func 177) #[] #[])):
  Calls Tryz.prog 227 #[.int .i64 p, .int .i64 r, .slice (some ⟨bb,0,none⟩) 1 kk] w fun e w'=>e= .returned (.int .i64 v)/\Below w.heap.size w w':=by
 have hcall:=HK;go_enter Tryz.func227,Tryz.ntmps227;go_wp2;go_loopw [12] (fun i wr=>∃j:Nat,(j=0\/(j=1/\v=0))/\i= .int .i64 j/\Below w.heap.size w wr) (fun i _=>1- (intOf i).toNat)
 case atStart=>exact⟨0, .inl rfl,rfl,zD⟩
 case round=>
  obtain⟨j,hj,rfl,hB⟩:=hrel
  rcases hj with rfl|⟨rfl,hv0⟩
  ·have hz:=hB.size;have e9:wr.cell? ⟨bb,0,none⟩=some (.func (.func 177) #[] #[]):=cell_later hB hby;go_upto_region 4 with fail
   clear e9;first|refine aH wr.heap.size (by kernel_rfl) (by kernel_rfl) ?_|refine rY wr.heap.size ?_
   repeat(go_big_quiet_step (first|(go_at_call 177;exact Calls.in_ws (zE) (J5 _ _))|(go_at_call 229;exact Calls.in_ws_same (yI _ _ _ hv _))))
   refine wpQuiet_nil ?_;rintro _ ⟨u,rfl⟩;have hu:=hB.trans (u.property.mono hz);generalize u.val=wu at hu⊢;clear u;rcases hv with ⟨h,rfl⟩|⟨h,rfl⟩|⟨h,rfl⟩
   ·go_wp2;go_ret;exact⟨rfl,hu⟩
   ·go_wp2;go_roundw
    case rel=>exact⟨1, .inr ⟨rfl,trivial⟩,by go_num,hu⟩
    case measure=>simp[intOf]
   ·go_wp2;go_ret;exact⟨rfl,hu⟩
  ·subst hv0;go_wp2;go_ret;exact⟨rfl,hB⟩
def LU(ps:List Int)(i:Nat):Bool:=i==0||decide ((bT ps (i- 1))<(bT ps i))
def EW(ps:List Int):Bool:=(List.range ps.length).all (LU ps)
theorem NV(x:Option Addr)(n c:Nat)(ps:List Int)(bb kk:Nat)(w:World)(hp:IS w x n ps)(hn:n<=64)(hby:w.cell? ⟨bb,0,none⟩=some (.func (.func 177) #[] #[])):
  Calls Tryz.prog 271 #[.slice x n c, .slice (some ⟨bb,0,none⟩) 1 kk] w fun e w'=>e= .returned (.bool (EW ps))/\Below w.heap.size w w':=by
 refine(CO.2.2.2.2.1 (bT ps) (fun i=>decide (bT ps i<bT ps (i+1))) x n c bb 1 kk w hn (fun i hi=>?_) (fun i hi=>?_)).mono ?_
 ·obtain⟨b,o,hx,d0⟩:=hp.cells i hi;exact⟨b,o,hx,fun q hq=>by obtain rfl:q=0:=(by omega);rw[Nat.mul_one];exact d0⟩
 ·obtain⟨v,hv,hd⟩:=uH (bT ps i) (bT ps (i+1));exact⟨v,hd,fun W hW=>wL _ _ v hv bb kk W (cell_later hW hby)⟩
 ·rintro e w1 ⟨t,rfl,hb,h⟩;exact⟨congrArg (fun t=>Ending.returned (.bool t)) ((pN (R:=LU ps) rfl (fun _=>rfl) h).trans (by rw[<-hp.len];rfl)),hb⟩
theorem RQ(a l:Int)(t:Int)(h:tW a l=t)(w:World):Calls Tryz.prog 82 #[.agg #[.int .i64 a, .int .i64 l]] w fun e w'=>e= .returned (.int .i64 t)/\Below w.heap.size w w':=by
 subst h;exact check_any a l w
def IX(r:Rg):Bool:=rt r.a r.l&&dE r.p 1 65536
theorem zT(r:Rg)(w:World):
  Calls Tryz.prog 206 #[.agg #[.int .i64 r.a, .int .i64 r.l, .int .i64 r.p]] w fun e w'=>e= .returned (.bool (IX r))/\Below w.heap.size w w':=by
 have hc:=check_any r.a r.l;by_cases h:tW r.a r.l=0
 ·have hr:IX r=dE r.p 1 65536:=by unfold IX rt;rw[h];simp
  rw[hr];go_enter Tryz.func206,Tryz.ntmps206;go_wp2_with fail;refine(RQ _ _ _ h _).mono ?_;rintro e w1 ⟨rfl,hb1⟩;have c2:w1.cell? ⟨w.heap.size,2,none⟩=some (.int .i64 r.p):=cell_later hb1 (by simp);go_wp2_with (go_at_call 81;refine(isId_any _ _).mono ?_;rintro e w2 ⟨rfl,rfl⟩);go_ret;exact⟨rfl,(bl1 w _).trans (hb1.mono (by simp))⟩
 ·have hr:IX r=false:=by unfold IX rt;simp[h]
  have h2:(tW r.a r.l==0)=false:=by simpa using h
  rw[hr];go_enter Tryz.func206,Tryz.ntmps206;go_wp2_with (go_at_call 82;refine(check_any _ _ _).mono ?_;rintro e w1 ⟨rfl,hb1⟩);go_ret;exact⟨rfl,(bl1 w _).trans (hb1.mono (by simp))⟩
theorem gW(r:Rg)(t:Bool)(h:IX r=t)(w:World):
  Calls Tryz.prog 206 #[.agg #[.int .i64 r.a, .int .i64 r.l, .int .i64 r.p]] w fun e w'=>e= .returned (.bool t)/\Below w.heap.size w w':=by
 subst h;exact zT r w
def LV(rs:List Rg)(c m:Int)(i:Nat):Bool:=kL (aQ rs i).a (aQ rs i).l c m
theorem xI(c m:Int)(p:Rg)(b:Nat)(w:World)(h0:w.cell? ⟨b,0,none⟩=some (.int .i64 c))(h1:w.cell? ⟨b,1,none⟩=some (.int .i64 m)):
  Calls Tryz.prog 246 #[.agg #[.int .i64 p.a, .int .i64 p.l, .int .i64 p.p], .pointer (some ⟨b,0,none⟩)] w fun e w'=>e= .returned (.bool (kL p.a p.l c m))/\Below w.heap.size w w':=by
 have k0:∀q,(w.alloc q).cell? ⟨b,0,none⟩=some (.int .i64 c):=fun q=>cell_later (bl1 w q) h0;have k1:∀q,(w.alloc q).cell? ⟨b,1,none⟩=some (.int .i64 m):=fun q=>cell_later (bl1 w q) h1;go_enter Tryz.func246,Tryz.ntmps246;go_wp2_with (go_at_call 146;refine(meets_any _ _ _ _ _).mono ?_;rintro e w1 ⟨rfl,hb1⟩);go_ret;exact⟨rfl,(bl1 w _).trans (hb1.mono (by simp))⟩
theorem uU(args:Array Value)(W:World):(callFunc 246 args).run Tryz.prog W= .ok (.enter 246 args) W:=by simp[go_sem]
theorem BZ(c m:Int)(b n:Nat)(rs:List Rg)(w:World)(h0:w.cell? ⟨b,0,none⟩=some (.int .i64 c))(h1:w.cell? ⟨b,1,none⟩=some (.int .i64 m)):
  zS 246 #[.pointer (some ⟨b,0,none⟩)] n rs (LV rs c m) w:=fun i _ W hW=>xI c m (aQ rs i) b W (cell_later hW h0) (cell_later hW h1)
theorem oL(c m:Int)(x:Option Addr)(n k:Nat)(rs:List Rg)(w:World)(hp:RS w x n rs)(hn:n<=64):
  Calls Tryz.prog 207 #[.slice x n k, .agg #[.int .i64 c, .int .i64 m]] w fun e w'=>e= .returned (.bool (anyAt n (LV rs c m)))/\Below w.heap.size w w':=by
 go_enter Tryz.func207,Tryz.ntmps207;go_wp2_with fail;refine(dO 246 _ x n k rs _ _ (hp.later (bl1 w _)) (by omega) (BZ c m w.heap.size n rs _ (by simp) (by simp)) uU).mono ?_;rintro e w1 ⟨rfl,hb1⟩;go_wp2;go_ret;exact⟨rfl,(bl1 w _).trans (hb1.mono (by simp))⟩
def C4(ss:List Sb)(c m:Int)(i:Nat):Bool:=kL (sbAt ss i).a (sbAt ss i).l c m
theorem B0(c m:Int)(p:Sb)(b:Nat)(w:World)(h0:w.cell? ⟨b,0,none⟩=some (.int .i64 c))(h1:w.cell? ⟨b,1,none⟩=some (.int .i64 m)):
  Calls Tryz.prog 215 #[.agg #[.int .i64 p.id, .int .i64 p.a, .int .i64 p.l, .slice p.x p.n p.c], .pointer (some ⟨b,0,none⟩)] w fun e w'=>e= .returned (.bool (kL p.a p.l c m))/\Below w.heap.size w w':=by
 have k0:∀q,(w.alloc q).cell? ⟨b,0,none⟩=some (.int .i64 c):=fun q=>cell_later (bl1 w q) h0;have k1:∀q,(w.alloc q).cell? ⟨b,1,none⟩=some (.int .i64 m):=fun q=>cell_later (bl1 w q) h1;go_enter Tryz.func215,Tryz.ntmps215;go_wp2_with (go_at_call 146;refine(meets_any _ _ _ _ _).mono ?_;rintro e w1 ⟨rfl,hb1⟩);go_ret;exact⟨rfl,(bl1 w _).trans (hb1.mono (by simp))⟩
theorem zU(args:Array Value)(W:World):(callFunc 215 args).run Tryz.prog W= .ok (.enter 215 args) W:=by simp[go_sem]
theorem HL(c m:Int)(b n:Nat)(ss:List Sb)(w:World)(h0:w.cell? ⟨b,0,none⟩=some (.int .i64 c))(h1:w.cell? ⟨b,1,none⟩=some (.int .i64 m)):
  uS 215 #[.pointer (some ⟨b,0,none⟩)] n ss (C4 ss c m) w:=fun i _ W hW=>B0 c m (sbAt ss i) b W (cell_later hW h0) (cell_later hW h1)
theorem sW(c m:Int)(x:Option Addr)(n k:Nat)(ss:List Sb)(w:World)(hp:SS w x n ss)(hn:n<=64):
  Calls Tryz.prog 167 #[.slice x n k, .agg #[.int .i64 c, .int .i64 m]] w fun e w'=>e= .returned (.bool (anyAt n (C4 ss c m)))/\Below w.heap.size w w':=by
 go_enter Tryz.func167,Tryz.ntmps167;go_wp2_with fail;refine(fB 215 _ x n k ss _ _ (hp.later (bl1 w _)) (by omega) (HL c m w.heap.size n ss _ (by simp) (by simp)) zU).mono ?_;rintro e w1 ⟨rfl,hb1⟩;go_wp2;go_ret;exact⟨rfl,(bl1 w _).trans (hb1.mono (by simp))⟩
def riB(rs:List Rg)(c m:Int)(i:Nat):Bool:=iH c m (aQ rs i).a (aQ rs i).l
def rJ(n:Nat)(rs:List Rg)(id c m:Int):Bool:=dE id 1 65536&&anyAt n (riB rs c m)
theorem B1(c m:Int)(p:Rg)(b:Nat)(w:World)(h0:w.cell? ⟨b,0,none⟩=some (.int .i64 c))(h1:w.cell? ⟨b,1,none⟩=some (.int .i64 m)):
  Calls Tryz.prog 213 #[.agg #[.int .i64 p.a, .int .i64 p.l, .int .i64 p.p], .pointer (some ⟨b,0,none⟩)] w fun e w'=>e= .returned (.bool (iH c m p.a p.l))/\Below w.heap.size w w':=by
 have k0:∀q,(w.alloc q).cell? ⟨b,0,none⟩=some (.int .i64 c):=fun q=>cell_later (bl1 w q) h0;have k1:∀q,(w.alloc q).cell? ⟨b,1,none⟩=some (.int .i64 m):=fun q=>cell_later (bl1 w q) h1;go_enter Tryz.func213,Tryz.ntmps213;go_wp2_with (go_at_call 163;refine(inside_any _ _ _ _ _).mono ?_;rintro e w1 ⟨rfl,hb1⟩);go_ret;exact⟨rfl,(bl1 w _).trans (hb1.mono (by simp))⟩
theorem zV(args:Array Value)(W:World):(callFunc 213 args).run Tryz.prog W= .ok (.enter 213 args) W:=by simp[go_sem]
theorem HM(c m:Int)(b n:Nat)(rs:List Rg)(w:World)(h0:w.cell? ⟨b,0,none⟩=some (.int .i64 c))(h1:w.cell? ⟨b,1,none⟩=some (.int .i64 m)):
  zS 213 #[.pointer (some ⟨b,0,none⟩)] n rs (riB rs c m) w:=fun i _ W hW=>B1 c m (aQ rs i) b W (cell_later hW h0) (cell_later hW h1)
theorem EX(vid id c m:Int)(rx sx:Option Addr)(rn rc sn sc:Nat)(rs:List Rg)(w:World)(hp:RS w rx rn rs)(hn:rn<=64):
  Calls Tryz.prog 165 #[.agg #[.int .i64 vid, .slice rx rn rc, .slice sx sn sc], .int .i64 id, .agg #[.int .i64 c, .int .i64 m]] w fun e w'=>e= .returned (.bool (rJ rn rs id c m))/\Below w.heap.size w w':=by
 unfold rJ
 cases hw:dE id 1 65536
 ·go_enter Tryz.func165,Tryz.ntmps165;go_wp2_with (go_at_call 81;refine(isId_is _ _ hw _).mono ?_;rintro e w1 ⟨rfl,rfl⟩);go_ret;exact⟨rfl,bO w _ _⟩
 ·go_enter Tryz.func165,Tryz.ntmps165;go_wp2_with fail;refine(isId_is _ _ hw _).mono ?_;rintro e w1 ⟨rfl,rfl⟩;go_wp2_with fail;refine(dO 213 _ rx rn rc rs _ _ (hp.later (bO w _ _)) (by omega) (HM c m (w.heap.size+1) rn rs _ (by simp) (by simp)) zV).mono ?_;rintro e w1 ⟨rfl,hb1⟩;go_wp2;go_ret;exact⟨by simp,(bO w _ _).trans (hb1.mono (by simp;omega))⟩
theorem kU(vid id c m:Int)(rx sx:Option Addr)(rn rc sn sc:Nat)(rs:List Rg)(t:Bool)(h:rJ rn rs id c m=t)(w:World)(hp:RS w rx rn rs)(hn:rn<=64):
  Calls Tryz.prog 165 #[.agg #[.int .i64 vid, .slice rx rn rc, .slice sx sn sc], .int .i64 id, .agg #[.int .i64 c, .int .i64 m]] w fun e w'=>e= .returned (.bool t)/\Below w.heap.size w w':=by
 subst h;exact EX vid id c m rx sx rn rc sn sc rs w hp hn
theorem sX(f:Fc)(w:World)(hf:f.n<=9223372036854775807):
  Calls Tryz.prog 259 #[.agg #[.int .i64 f.id, .slice f.x f.n f.c]] w fun e w'=>e= .returned (.bool (decide (4<f.n)))/\Below w.heap.size w w':=by
 by_cases h:4<f.n;all_goals go_enter Tryz.func259,Tryz.ntmps259
 all_goals go_wp2
 all_goals go_ret
 all_goals exact⟨aM (by simp[h];try omega),bl1 w _⟩
theorem rK(args:Array Value)(W:World):(callFunc 259 args).run Tryz.prog W= .ok (.enter 259 args) W:=by simp[go_sem]
def fR(s:Sb):Bool:=decide (8<s.n)||anyAt s.n fun i=>decide (4<(fcAt s.fs i).n)
theorem uW(s:Sb)(w:World)(hs:s.n<=9223372036854775807)(hp:sD w s.x s.n s.fs):
  Calls Tryz.prog 233 #[.agg #[.int .i64 s.id, .int .i64 s.a, .int .i64 s.l, .slice s.x s.n s.c]] w fun e w'=>e= .returned (.bool (fR s))/\Below w.heap.size w w':=by
 by_cases h:8<s.n
 ·have hr:fR s=true:=by unfold fR;simp[h]
  have hd:(decide ((s.n:Int)>8))=true:=by simp;omega
  rw[hr];go_enter Tryz.func233,Tryz.ntmps233;go_wp2;go_ret;exact⟨rfl,bl1 w _⟩
 ·have hr:fR s=anyAt s.n fun i=>decide (4<(fcAt s.fs i).n):=by unfold fR;simp[h]
  have hd:(decide ((s.n:Int)>8))=false:=by simp;omega
  rw[hr];have hF:∀W,JX 259 #[] s.n s.fs (fun i=>decide (4<(fcAt s.fs i).n)) W:=fun W i hi V _=>sX (fcAt s.fs i) V (hp.addrs i hi).2.1;go_enter Tryz.func233,Tryz.ntmps233;go_wp2_with fail;refine(rF 259 #[] s.x s.n s.c s.fs _ _ (hp.later (bl1 w _)) (by omega) (hF _) rK).mono ?_;rintro e w1 ⟨rfl,hb1⟩;go_wp2;go_ret;exact⟨rfl,(bl1 w _).trans (hb1.mono (by simp))⟩
theorem sY(args:Array Value)(W:World):(callFunc 233 args).run Tryz.prog W= .ok (.enter 233 args) W:=by simp[go_sem]
def eL(rn sn:Nat)(ss:List Sb):Bool:=decide (4<rn)||decide (6<sn)||anyAt sn fun i=>fR (sbAt ss i)
theorem HN(vid:Int)(rx sx:Option Addr)(rn rc sn sc:Nat)(ss:List Sb)(w:World)(hr63:rn<=9223372036854775807)(hp:SS w sx sn ss)(hs:sn<=9223372036854775807):
  Calls Tryz.prog 187 #[.agg #[.int .i64 vid, .slice rx rn rc, .slice sx sn sc]] w fun e w'=>e= .returned (.bool (eL rn sn ss))/\Below w.heap.size w w':=by
 by_cases h:4<rn
 ·have hr:eL rn sn ss=true:=by unfold eL;simp[h]
  have hd:(decide ((rn:Int)>4))=true:=by simp;omega
  rw[hr];go_enter Tryz.func187,Tryz.ntmps187;go_wp2;go_ret;exact⟨rfl,bl1 w _⟩
 ·have hd:(decide ((rn:Int)>4))=false:=by simp;omega
  by_cases h2:6<sn
  ·have hr:eL rn sn ss=true:=by unfold eL;simp[h2]
   have hd2:(decide ((sn:Int)>6))=true:=by simp;omega
   rw[hr];go_enter Tryz.func187,Tryz.ntmps187;go_wp2;go_ret;exact⟨rfl,bl1 w _⟩
  ·have hd2:(decide ((sn:Int)>6))=false:=by simp;omega
   have hr:eL rn sn ss=anyAt sn fun i=>fR (sbAt ss i):=by unfold eL;simp[h,h2]
   have hF:uS 233 #[] sn ss (fun i=>fR (sbAt ss i)) w:=fun i hi V hV=>uW (sbAt ss i) V (hp.faces i hi).2.1 ((hp.faces i hi).2.2.later hV);rw[hr];have hF2:∀q,uS 233 #[] sn ss (fun i=>fR (sbAt ss i)) (w.alloc q):=fun q i hi V hV=>hF i hi V ((bl1 w q).trans (hV.mono (by simp)));go_enter Tryz.func187,Tryz.ntmps187;go_wp2_with fail;refine(fB 233 #[] sx sn sc ss _ _ (hp.later (bl1 w _)) (by omega) (hF2 _) sY).mono ?_;rintro e w1 ⟨rfl,hb1⟩;go_wp2;go_ret;exact⟨rfl,(bl1 w _).trans (hb1.mono (by simp))⟩
def rL(a l x:Int):Bool:=decide (a<x)&&decide (x<a+sp l- 1)
theorem zW(h0:0<=l)(h1:l<=16):1<=sp l/\sp l<=65536:=by
 have h:l=0\/l=1\/l=2\/l=3\/l=4\/l=5\/l=6\/l=7\/l=8\/l=9\/l=10\/l=11\/l=12\/l=13\/l=14\/l=15\/l=16:=by omega
 rcases h with rfl|rfl|rfl|rfl|rfl|rfl|rfl|rfl|rfl|rfl|rfl|rfl|rfl|rfl|rfl|rfl|rfl<;>decide
theorem VN(a l:Int)(h:rt a l=true)(w:World):
  Calls Tryz.prog 270 #[.agg #[.int .i64 a, .int .i64 l]] w fun e w'=>e= .returned (.int .i64 (sp l))/\Below w.heap.size w w':=by
 have:=P5 a l w;rw[h]at this;exact this
theorem usable_any(a l x:Int)(w:World)(h:rt a l=true):
  Calls Tryz.prog 254 #[.agg #[.int .i64 a, .int .i64 l], .int .i64 x] w fun e w'=>e= .returned (.bool (rL a l x))/\Below w.heap.size w w':=by
 obtain⟨h0,h1,h2,h3, -⟩:=bE h;obtain⟨s0,s1⟩:=zW h0 h1;unfold rL;go_enter Tryz.func254,Tryz.ntmps254;have g0:=Ws.here (w:=w.alloc (.cells #[.int .i64 a, .int .i64 l] 26)) (b:=w.heap.size) (o:=0) (v:= .int .i64 a) (by simp);have g1:=Ws.here (w:=w.alloc (.cells #[.int .i64 a, .int .i64 l] 26)) (b:=w.heap.size) (o:=1) (v:= .int .i64 l) (by simp);go_upto_region 1 with fail
 have hB:=bl1 w (.cells #[.int .i64 a, .int .i64 l] 26);generalize w.alloc (.cells #[.int .i64 a, .int .i64 l] 26)=w1 at*
 cases hlt:decide (a<x);all_goals refine aH w1.heap.size (by kernel_rfl) (by kernel_rfl) ?_
 all_goals repeat(go_big_quiet_step ((go_at_call 270;exact Calls.in_ws (zE) (VN _ _ h _))))
 all_goals refine wpQuiet_nil ?_
 all_goals rintro _ ⟨u,rfl⟩
 all_goals have hu:=hB.trans (u.property.mono hB.size)
 all_goals generalize u.val=wu at hu⊢
 all_goals clear u g0 g1
 all_goals go_wp2
 all_goals go_ret
 ·exact⟨aM (by rw[hlt];rfl),hu⟩
 ·exact⟨aM (by rw[hlt];simp),hu⟩
end Go.Proofs.YtjphnaccgfjnjaaGreatDoor
