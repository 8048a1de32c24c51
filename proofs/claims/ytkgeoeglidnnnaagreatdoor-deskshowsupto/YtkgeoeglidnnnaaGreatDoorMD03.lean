/- A part of the proof. -/
import Derived.Test.YtkgeoeglidnnnaaGreatDoorMD02
set_option maxRecDepth 100000
set_option maxHeartbeats 20000000
namespace Go.Proofs.YtkgeoeglidnnnaaGreatDoor
variable {w V V' w' : World} {r : Option Nat} {a : Addr} {v z v0 v1 v2 v3 v4 v5 v6 v7 v8 : Value} {ty st k y n b c j i q : Nat} {ca cs : Array Value} {t : TypeId} {fr : Nat × Nat} {o : List (Int × Int)} {p : Po} {f R ok g : Nat → Bool} {ls : List Le} {l : Int} {x : Option Addr} {ps : List Po}
open Go.RowKit Go.Shelf
theorem dH(h:Below w.heap.size w V)(g:V.grownBy V' r)(hr:∀k,r=some k->w.heap.size<=k):Below w.heap.size w V':=
 ⟨g.os.trans h.os,g.tape.trans h.tape,g.output.trans h.output,Nat.le_trans h.size g.size,fun j hj=>(g.block j (Nat.lt_of_lt_of_le hj h.size) (fun e=>by have:=hr j e.symm;omega)).trans (h.block j hj)⟩
theorem aF(hb:Below w.heap.size w w')(h:w.cell? a=some v):w'.cell? a=some v:=
 (hb.cell (World.block_lt_of_cell? w a h)).trans h
theorem sY(p r:Int):∃v,FC p r v/\(decide (p<r)=decide (v<0)):=by
 rcases Int.lt_trichotomy p r with h|h|h
 ·exact⟨-1, .inl ⟨h,rfl⟩,by simp[h]⟩
 ·exact⟨0, .inr (.inl ⟨h,rfl⟩),by simp[h]⟩
 ·exact⟨1, .inr (.inr ⟨h,rfl⟩),by simp;omega⟩
structure Ty(ty st k:Nat)(z:Value)(y:Nat):Prop where
 info:∃i,Tryz.prog.info? ty=some i/\i.zero=some z/\i.size=k/\i.bytes=y
 und:Tryz.prog.underlying st=some (.slice ty)
 zs:z.cells.size=k
 z1:∀u∈z.cells.toList,u.oneCell'=true
 pos:0<k
 few:y<=100
theorem qY(h:(Tryz.prog.info? ty).map (fun i=>(i.zero,i.size,i.bytes))=some (some z,k,y))(hu:Tryz.prog.underlying st=some (.slice ty))(hz:z.cells.size=k)(h1:∀u∈z.cells.toList,u.oneCell'=true)(hk:0<k)(hy:y<=100):Ty ty st k z y:=by
 obtain⟨i,hi,h⟩:=Option.map_eq_some_iff.1 h;simp only[Prod.mk.injEq]at h;exact⟨⟨i,hi,h.1,h.2.1,h.2.2⟩,hu,hz,h1,hk,hy⟩
theorem lS{E:Type}{c:E->List Value}(hc:∀e,(c e).length=k):∀es:List E,(es.flatMap c).length=es.length*k
 |[]=>by simp
 |e::es=>by rw[List.flatMap_cons,List.length_append,lS hc es,hc,List.length_cons,Nat.add_mul,Nat.one_mul,Nat.add_comm]
theorem qZ{E:Type}{c:E->List Value}(hc:∀e,(c e).length=k)(d:E):∀(es:List E) (i j:Nat),i<es.length->j<k->(es.flatMap c)[i*k+j]?=(c (es.getD i d))[j]?
 |[],i,j,hi,_=>by simp at hi
 |e::es,0,j,_,hj=>by
  rw[List.flatMap_cons,List.getElem?_append_left (by rw[hc];omega)];simp
 |e::es,i+1,j,hi,hj=>by
  have:=qZ hc d es i j (by simpa using hi) hj;rw[List.flatMap_cons,List.getElem?_append_right (by rw[hc,Nat.add_mul];omega),hc,show(i+1)*k+j- k=i*k+j by rw[Nat.add_mul];omega,this];simp
theorem QE{E:Type}{c:E->List Value}(hk:0<k)(hc:∀e,(c e).length=k){es:List E}{j:Nat}{u:Value}(h:(es.flatMap c)[j]?=some u):∃i q,j=i*k+q/\q<k/\i<es.length:=by
 have hl:=(List.getElem?_eq_some_iff.1 h).1;rw[lS hc]at hl;refine⟨j/k,j%k,by rw[Nat.mul_comm];exact(Nat.div_add_mod j k).symm,Nat.mod_lt _ hk,(Nat.div_lt_iff_lt_mul hk).2 hl⟩
theorem jB{E:Type}{c:E->List Value}(hk:0<k)(hc:∀e,(c e).length=k)(d:E){es:List E}{w:World}{ad:Addr}(hn:es.length=n)(h:∀i,i<n->∃b o,some ad=some ⟨b,o,none⟩/\∀q u,(c (es.getD i d))[q]?=some u->w.cell? ⟨b,o+i*k+q,none⟩=some u):∀j u,(es.flatMap c)[j]?=some u->w.cell? (ad.add j)=some u:=by
 intro j u hj;obtain⟨i,q,rfl,hq,hi⟩:=QE hk hc hj;rw[qZ hc d es i q hi hq]at hj;obtain⟨b,o,hx,hd⟩:=h i (by omega);simp only[Option.some.injEq]at hx;subst hx;rw[cA,<-Nat.add_assoc];exact hd q u hj
section
variable {w w' : World} {base base' g n m k i cap ty st y : Nat} {v z : Value} {x : Option Addr} {cs ds : List Value}
theorem cW(h:w.ownsRow base ty k v n cs)(hb:Below w.heap.size w w'):w'.ownsRow base ty k v n cs:=by
 refine World.ownsRow.kept h (dS hb) ?_
 cases hv:v.ownBlock
 ·exact .inl rfl
 ·exact .inr (by simp)
theorem fD(h:w.ownsRow base ty k v n cs)(hg:w.grownBy w' (some g))(hne:∀k,v.ownBlock=some k->k≠g):w'.ownsRow base ty k v n cs:=by
 refine World.ownsRow.kept h hg ?_
 cases hv:v.ownBlock
 ·exact .inl rfl
 ·rename_i k;exact .inr fun e=>hne k hv (Option.some.inj e)
theorem iE(h:w.ownsRow base ty k v n cs)(hb:base'<=base):w.ownsRow base' ty k v n cs:=by
 refine⟨h.1,?_⟩;rcases h.2 with h|⟨g,cap,cur,h1,h2,h3⟩
 ·exact .inl h
 ·exact .inr ⟨g,cap,cur,h1,Nat.le_trans hb h2,h3⟩
theorem jC(h:w.ownsRow base ty k v n cs)(hb:w.heap[b]?=some (.cells ca t fr))(ht:t≠ty):v.ownBlock≠some b:=by
 rcases h.2 with ⟨rfl, -⟩|⟨g,cap,cur,rfl, -,h2, -⟩
 ·simp[Value.ownBlock]
 ·intro e;simp only[Value.ownBlock,Option.some.injEq]at e;rw[e,hb]at h2;simp only[Option.some.injEq,Obj.cells.injEq]at h2;exact ht h2.2.1
theorem jU(h:w.ownsRow base ty k v n cs):∃x c,v= .slice x n c/\n<=c/\c<=9223372036854775807/\(x=none->n=0/\c=0)/\∀i,i<n->∃b o,x=some ⟨b,o,none⟩/\∀j u,j<k->cs[i*k+j]?=some u->w.cell? ⟨b,o+i*k+j,none⟩=some u:=by
 rcases h.2 with ⟨rfl,h0⟩|⟨g,cap,cur,rfl, -, -,h4,h5, -⟩
 ·exact⟨none,0,by rw[h0],by omega,by omega,fun _=>⟨h0,rfl⟩,fun i hi=>by omega⟩
 ·refine⟨some ⟨g,0,none⟩,cap,rfl,h4,by unfold maxLen at h5;omega,fun e=>by simp at e,fun i hi=>⟨g,0,rfl,fun j u hj hu=>?_⟩⟩;have:=World.ownsRow.cells h (g:=g) rfl (i*k+j) u hu;rw[Addr.add_lit]at this;rw[Nat.add_assoc];exact this
theorem lT(h:w.ownsRow base ty k (.slice (some ⟨g,0,none⟩) m cap) n cs)(i:Nat):w.frozen? ⟨g,i,none⟩=false:=by
 rcases h.2 with ⟨hv, -⟩|⟨g',cap',cur,hv, -,h2, -⟩
 ·simp at hv
 ·simp only[Value.slice.injEq,Option.some.injEq,Addr.mk.injEq]at hv;obtain⟨⟨rfl, -⟩, -, -⟩:=hv;simp[World.frozen?,h2]
theorem rA(h:w.ownsRow base ty k (.slice (some ⟨g,0,none⟩) m cap) n cs):base<=g/\∃cur,w.heap[g]?=some (.cells cur ty):=by
 rcases h.2 with ⟨hv, -⟩|⟨g',cap',cur,hv,h1,h2, -⟩
 ·simp at hv
 ·simp only[Value.slice.injEq,Option.some.injEq,Addr.mk.injEq]at hv;obtain⟨⟨rfl, -⟩, -, -⟩:=hv;exact⟨h1,cur,h2⟩
theorem QF(h:w.ownsRow base ty k (.slice (some ⟨g,0,none⟩) m cap) n cs)(i:Nat)(hi:i<=n):w.ownsRow base ty k (.slice (some ⟨g,0,none⟩) i cap) i (cs.take (i*k)):=by
 rcases h.2 with ⟨hv, -⟩|⟨g',cap',cur,hv,h1,h2,h3,h4,h5,h6⟩
 ·simp at hv
 ·simp only[Value.slice.injEq,Option.some.injEq,Addr.mk.injEq]at hv;obtain⟨⟨rfl, -⟩,rfl,rfl⟩:=hv;have hm:i*k<=m*k:=Nat.mul_le_mul_right k hi;refine⟨by rw[List.length_take,h.1];omega, .inr ⟨g,cap,cur,rfl,h1,h2,by omega,h4,h5,?_⟩⟩;rw[<-h6,List.take_take,Nat.min_eq_left hm]
def Rw(w:World)(x:Option Addr)(n k:Nat)(cs:List Value):Prop:=cs.length=n*k/\(0<n->x≠none)/\(∀u∈cs,u.oneCell'=true)/\∀ad,x=some ad->∀j u,cs[j]?=some u->w.cell? (ad.add j)=some u
theorem Rw.later(h:Rw w x n k cs)(hb:Below w.heap.size w w'):Rw w' x n k cs:=
 ⟨h.1,h.2.1,h.2.2.1,fun ad hx j u hj=>(hb.cell (World.block_lt_of_cell? w (ad.add j) (h.2.2.2 ad hx j u hj))).trans (h.2.2.2 ad hx j u hj)⟩
theorem Rw.take(h:Rw w x n k cs)(hi:i<=n):Rw w x i k (cs.take (i*k)):=by
 have hm:i*k<=n*k:=Nat.mul_le_mul_right k hi;refine⟨by rw[List.length_take,h.1];omega,fun h0=>h.2.1 (by omega),fun u hu=>h.2.2.1 u (List.mem_of_mem_take hu),fun ad hx j u hj=>h.2.2.2 ad hx j u ?_⟩;rw[List.getElem?_take]at hj;split at hj
 ·exact hj
 ·cases hj
theorem Rw.drop{o:Nat}(h:Rw w (some ⟨b,o,none⟩) n k cs)(hi:i<=n)(hnc:n<=c):Rw w (if c=i then some ⟨b,o,none⟩else some ⟨b,o+i*k,none⟩) (n- i) k (cs.drop (i*k)):=by
 refine⟨by rw[List.length_drop,h.1,Nat.sub_mul],fun _=>by split<;>simp,fun u hu=>h.2.2.1 u (List.mem_of_mem_drop hu),fun ad hx j u hj=>?_⟩;rw[List.getElem?_drop]at hj;have hl:=(List.getElem?_eq_some_iff.1 hj).1;have hne:¬c=i:=fun e=>by
  have:n=i:=by omega
  rw[h.1,this]at hl;omega
 rw[if_neg hne]at hx
 cases hx;have h2:=h.2.2.2 _ rfl (i*k+j) u hj;rw[cA]at h2⊢;rw[Nat.add_assoc];exact h2
theorem Rw.drop0(h:Rw w x n k cs)(h0:n=0):Rw w x 0 k (cs.drop (0*k)):=by
 rw[Nat.zero_mul,List.drop_zero];exact h0▸h
theorem cM(hT:Ty ty st k z y){ops:Array Oper}{rest:List Oper}{o:Oper}{a:Act}{Q:Exit->Act->World->Prop}(hgd:o.guard=none)(s x:Operand)
 (ho:o.op= .call {callee:= .builtin .append,args:=#[s,x],argTypes:=#[st,st]})(base:Nat)(v:Value)(hs:a.eval s=v)(hO:w.ownsRow base ty k v n cs)
 (ad:Addr)(m c:Nat)(hx:a.eval x= .slice (some ad) m c)(hR:Rw w (some ad) m k ds)(hlen:n+m<=1000000000)(hbase:base<=w.heap.size)
 (h:∀v' w',w'.ownsRow base ty k v' (n+m) (cs++ds)->w.grownBy w' v.ownBlock->wpList Tryz.prog ops Q rest (a.put o.dst v') w'):wpList Tryz.prog ops Q (o::rest) a w:=by
 obtain⟨i0,hi,hz0,hz1,hz2⟩:=hT.info;exact wpList_append_own w hgd s x st ho base ty i0 _ k y hT.und hi hz0 hz1 hz2 hT.zs hT.pos v n cs hs hO ad m c ds hx hR.1 (hR.2.2.2 ad rfl) hR.2.2.1 (by unfold maxLen;omega) (Nat.le_trans (Nat.mul_le_mul hlen hT.few) (by decide)) hbase fun v' w' h1 h2 _=>h v' w' h1 h2
theorem MS(hT:Ty ty st k z y){p:Nat}(hO:w.ownsRow base ty k (.slice (some ⟨g,0,none⟩) p cap) m cs)(n c:Nat)(hn:0<n)(hm:m+n<=cap)(t:TypeId):
  ∃w',(Builtin.clear_ #[st] t #[.slice (some ⟨g,m*k,none⟩) n c]).run Tryz.prog w= .ok (.tuple #[]) w'/\w'.ownsRow base ty k (.slice (some ⟨g,0,none⟩) p cap) m cs/\w.grownBy w' (some g):=by
 obtain⟨i0,hi,hz0,hz1,hz2⟩:=hT.info;rcases hO.2 with ⟨hv, -⟩|⟨g',cap',cur,hv,h1,h2,h3,h4,h5,h6⟩
 ·simp at hv
 simp only[Value.slice.injEq,Option.some.injEq,Addr.mk.injEq]at hv;obtain⟨⟨rfl, -⟩,hpm,rfl⟩:=hv;obtain rfl:=hpm.symm;obtain⟨zs,hzs⟩:∃zs,zs=(Builtin.zeroCells z.cells n).toList:=⟨_,rfl⟩;have hzl:zs.length=n*k:=by rw[hzs,Array.length_toList,size_zeroCells,hT.zs]
 have hz1:∀v∈zs,v.oneCell'=true:=by
  intro v hv;rw[hzs]at hv;simp[Builtin.zeroCells]at hv;obtain⟨j, -,rfl⟩:=hv;have h8:j%z.cells.size<z.cells.size:=Nat.mod_lt _ (by rw[hT.zs];exact hT.pos);refine hT.z1 _ ?_;rw[getElem!_pos z.cells _ h8];exact Array.getElem_mem_toList h8
 have hmk:m*k+n*k<=cap*k:=by rw[<-Nat.add_mul];exact Nat.mul_le_mul_right k hm
 have h5':cur.toList.length=cap*k:=by simpa using h5
 have hst:=run_storeCells_at (P:=Tryz.prog) g (m*k) ty zs 0 cur w h2 (by rw[hzl];omega) hz1;simp only[Nat.add_zero]at hst;have hls:(cur.toList.take (m*k)).length=m*k:=by rw[List.length_take,h5'];omega
 have hzr:∀W,(zeroValue ty).run Tryz.prog W= .ok z W:=fun W=>by simp[zeroValue,typeInfo,hi,hz0]
 refine⟨w.setRow g (cur.toList.take (m*k)++zs++cur.toList.drop (m*k+zs.length)).toArray,?_,⟨hO.1, .inr ⟨g,cap,(cur.toList.take (m*k)++zs++cur.toList.drop (m*k+zs.length)).toArray,rfl,h1,setRow_heap w g cur _ _ _ h2,h3,h4,?_,?_⟩⟩,?_⟩
 ·obtain⟨k,rfl⟩:∃k,n=k+1:=⟨n- 1,by omega⟩;simp[Builtin.clear_,run_underlying hT.und,<-hzs,hst,hzr]
 ·simp only[List.size_toArray,List.length_append,hls,hzl,List.length_drop,h5'];omega
 ·rw[List.append_assoc,List.take_append_of_le_length (by rw[hls];exact zE),List.take_of_length_le (by rw[hls];exact zE)];exact h6
 ·exact⟨rfl,rfl,rfl,by simp,fun k _ hne=>setRow_other w g k _ (fun e=>hne (by rw[e]))⟩
theorem K2{E:Type}(fl:List E->List Value)(hl:∀es,(fl es).length=es.length*k)(ha:∀a b,fl (a++b)=fl a++fl b)(es:List E)(i:Nat):fl (es.take i)=(fl es).take (i*k):=by
 by_cases hi:i<=es.length
 ·have h:=ha (es.take i) (es.drop i);rw[List.take_append_drop]at h;rw[h,List.take_left' (by rw[hl,List.length_take,Nat.min_eq_left hi])]
 ·rw[List.take_of_length_le (show es.length<=i by omega),List.take_of_length_le (by rw[hl];exact Nat.mul_le_mul_right k (by omega))]
theorem K3{E:Type}(fl:List E->List Value)(hl:∀es,(fl es).length=es.length*k)(ha:∀a b,fl (a++b)=fl a++fl b)(es:List E)(i:Nat)(hi:i<=es.length):fl (es.drop i)=(fl es).drop (i*k):=by
 have h:=ha (es.take i) (es.drop i);rw[List.take_append_drop]at h;rw[h,List.drop_left' (by rw[hl,List.length_take,Nat.min_eq_left hi])]
theorem lU{E:Type}(fl:List E->List Value)(hl:∀es,(fl es).length=es.length*k)(ha:∀a b,fl (a++b)=fl a++fl b){es:List E}{e:E}(hn:es.length=n)(hi:i<=n)(h:w.ownsRow base ty k v (i+1+(n- i)) ((fl es).take (i*k)++fl [e]++(fl es).drop (i*k))):w.ownsRow base ty k v (es.take i++[e]++es.drop i).length (fl (es.take i++[e]++es.drop i)):=by
 subst hn;rw[ha,ha,K2 fl hl ha,K3 fl hl ha es i hi];simp only[List.length_append,List.length_take,List.length_drop,List.length_cons,List.length_nil,Nat.min_eq_left hi,Nat.zero_add];exact h
theorem K4{E:Type}(fl:List E->List Value)(hl:∀es,(fl es).length=es.length*k)(ha:∀a b,fl (a++b)=fl a++fl b){es:List E}{p j:Nat}(hn:es.length=p+1)(hi:i<=p)(hj:j=i+1)(h:w.ownsRow base ty k v p ((fl es).take (i*k)++(fl es).drop (j*k))):w.ownsRow base ty k v (es.take i++es.drop j).length (fl (es.take i++es.drop j)):=by
 rw[ha,K2 fl hl ha,K3 fl hl ha es j (by omega),show(es.take i++es.drop j).length=p by rw[List.length_append,List.length_take,List.length_drop];omega];exact h
theorem QG(hT:Ty ty st k z y)(n:Nat)(w:World)(h0:0<n)(hn:n<=1000):∃G V,n<=G/\G<=maxLen/\Array.size V=G*k/\∀t,(Builtin.append_ #[st,3] t #[.slice none 0 0, .int .i64 (n:Int)]).run Tryz.prog w= .ok (.slice (some ⟨w.heap.size,0,none⟩) (0+n) G) (w.drew.alloc (.cells V ty)):=by
 obtain⟨i0,hi,hz0,hz1,hz2⟩:=hT.info;have hf:n*y<=1000*100:=Nat.mul_le_mul hn hT.few;have hG:=grownCap_le_maxLen w (0+n) 0 ty (by unfold maxLen;omega);have hGn:=grownCap_ge w (0+n) 0 ty;refine⟨_,_,by omega,hG,?_,fun t=>Lib.run_append_grow_zeros w _ 3 t _ i0 _ .i64 .i64 hT.und under_int hi hz0 none 0 0 [] (run_firstCells_none w.drew i0.size 0 0 0) n h0 (by rw[hz1];exact hT.pos) (by omega) (by omega) (by rw[hz2];omega) (by rw[hz2];exact growslice_fits (by omega) (by rw[Nat.zero_add];omega))⟩;simp only[Array.size_append,size_zeroCells,List.size_toArray,List.length_nil,hT.zs];rw[Nat.zero_add,<-Nat.add_mul];exact congrArg (·*k) (by omega)
theorem DI(h:w.ownsRow base ty k (.slice (some ⟨g,0,none⟩) m cap) n cs)(h1:∀u∈cs,u.oneCell'=true):Rw w (some ⟨g,0,none⟩) n k cs:=
 ⟨h.1,fun _=>by simp,h1,fun ad hx j u hj=>by cases hx;exact World.ownsRow.cells h rfl j u hj⟩
theorem U4{p:Nat}(hT:Ty ty st k z y)(hO:w.ownsRow base ty k (.slice (some ⟨g,0,none⟩) (p+1) cap) (p+1) cs)(h1:∀u∈cs,u.oneCell'=true)(hi:i<=p)(hj:j=i+1)(hnc:p+1<=cap):
  ∃wa wb,(∀q c',((cap=j/\q=0/\c'=0)\/(¬cap=j/\q=j*k/\c'=cap- j))->(Builtin.append_ #[st,st] st #[.slice (some ⟨g,0,none⟩) i cap, .slice (some ⟨g,q,none⟩) (p+1- j) c']).run Tryz.prog w.drew= .ok (.slice (some ⟨g,0,none⟩) p cap) wa)/\
   (∀t,(Builtin.clear_ #[st] t #[.slice (some ⟨g,p*k,none⟩) 1 (cap- p)]).run Tryz.prog wa= .ok (.tuple #[]) wb)/\wb.ownsRow base ty k (.slice (some ⟨g,0,none⟩) p cap) p (cs.take (i*k)++cs.drop (j*k))/\w.grownBy wb (some g):=by
 obtain⟨i0,hi0,hz0,hz1,hz2⟩:=hT.info;have hOi:=cW (QF hO i (by omega)) (zD).drew;have hR:=(DI hO h1).later (zD).drew;have hrun:=hR.drop (i:=j) (c:=cap) (by omega) hnc;have hik:i+(p+1- j)=p:=by omega
 obtain⟨wa,h4,h2,h3⟩:∃wa,(∀q c',((cap=j/\q=0/\c'=0)\/(¬cap=j/\q=j*k/\c'=cap- j))->(Builtin.append_ #[st,st] st #[.slice (some ⟨g,0,none⟩) i cap, .slice (some ⟨g,q,none⟩) (p+1- j) c']).run Tryz.prog w.drew= .ok (.slice (some ⟨g,0,none⟩) p cap) wa)/\wa.ownsRow base ty k (.slice (some ⟨g,0,none⟩) p cap) p (cs.take (i*k)++cs.drop (j*k))/\w.drew.grownBy wa (some g):=by
  by_cases hcj:cap=j
  ·rw[if_pos hcj]at hrun;obtain⟨wa,h1,h2,h3⟩:=run_append_own_spare (P:=Tryz.prog) w.drew base st st ty i0 k hT.und hi0 hz1 g i cap _ hOi ⟨g,0,none⟩ (p+1- j) 0 _ hrun.1 (hrun.2.2.2 _ rfl) hrun.2.2.1 (by omega);rw[hik]at h1 h2;refine⟨wa,fun q c' h=>?_,h2,h3⟩;rcases h with ⟨-,rfl,rfl⟩|⟨h, -⟩
   ·exact h1
   ·exact absurd hcj h
  ·rw[if_neg hcj,Nat.zero_add]at hrun;obtain⟨wa,h1,h2,h3⟩:=run_append_own_spare (P:=Tryz.prog) w.drew base st st ty i0 k hT.und hi0 hz1 g i cap _ hOi ⟨g,j*k,none⟩ (p+1- j) (cap- j) _ hrun.1 (hrun.2.2.2 _ rfl) hrun.2.2.1 (by omega);rw[hik]at h1 h2;refine⟨wa,fun q c' h=>?_,h2,h3⟩;rcases h with ⟨h, -⟩|⟨-,rfl,rfl⟩
   ·exact absurd h hcj
   ·exact h1
 obtain⟨wb,h5,h6,h7⟩:=MS hT h2 1 (cap- p) (by omega) (by omega) 0;exact⟨wa,wb,h4,fun t=>h5,h6,⟨h7.os.trans h3.os,h7.tape.trans h3.tape,h7.output.trans h3.output,Nat.le_trans h3.size h7.size,fun m hm hne=>(h7.block m (Nat.lt_of_lt_of_le hm h3.size) hne).trans (h3.block m hm hne)⟩⟩
end
def rB(f ty st k:Nat):Prop:=∀z y,Ty ty st k z y->∀(n:Nat) (w:World),n<=1000->Calls Tryz.prog f #[.slice none 0 0, .int .i64 n] w fun e w'=>∃v,e= .returned v/\Below w.heap.size w w'/\w'.ownsRow w.heap.size ty k v 0 []
theorem aBv:rB 292 55 62 5/\rB 289 64 22 9/\rB 301 59 48 3/\rB 296 72 49 4/\rB 298 75 70 2/\rB 299 3 73 1/\rB 293 51 25 3/\rB 287 77 26 2:=by
 refine⟨?_,?_,?_,?_,?_,?_,?_,?_⟩;all_goals
  intro z y hT n w hn
  first|go_enter Tryz.func292,Tryz.ntmps292|go_enter Tryz.func289,Tryz.ntmps289|go_enter Tryz.func301,Tryz.ntmps301|go_enter Tryz.func296,Tryz.ntmps296|go_enter Tryz.func298,Tryz.ntmps298|go_enter Tryz.func299,Tryz.ntmps299|go_enter Tryz.func293,Tryz.ntmps293|go_enter Tryz.func287,Tryz.ntmps287
  rcases Nat.eq_zero_or_pos n with rfl|h0
  ·go_wp2;go_ret;exact⟨_,rfl,zD,World.ownsRow_nil _ _ _ _⟩
  ·obtain⟨G,V,hGn,hG,hV,hrz⟩:=QG hT n w h0 hn;have h1:¬((n:Int)<0):=by omega
   have h4:(n:Int)>0:=by omega
   have hG63:G<=9223372036854775807:=by unfold maxLen at hG;omega
   go_wp2_with (at_builtin;refine Lib.wpList_append_run _ rfl _ _ _ _ rfl _ _ rfl rfl _ _ (hrz _) ?_);go_ret;exact⟨_,rfl,(bl1 w _).drew,(World.ownsRow_made w _ G (zE) hG hV).drew⟩
def numTo(nl:Nat->Nat):Nat->Nat
 |0=>0
 |j+1=>numTo nl j+nl j
def rC(ql:Nat->List Value):Nat->List Value
 |0=>[]
 |j+1=>rC ql j++ql j
def iF(f ty st k:Nat):Prop:=∀z y,Ty ty st k z y->∀(B p p':Nat) (xl:Nat->Option Addr) (nl cl:Nat->Nat) (ql:Nat->List Value) (w:World),p<=3->(∀j,j<p->w.cell? ⟨B,j,none⟩=some (.slice (xl j) (nl j) (cl j)))->(∀j,j<p->Rw w (xl j) (nl j) k (ql j))->(∀j,j<p->nl j<=64)->(∀j,j<p->xl j=none->nl j=0/\cl j=0)->
  Calls Tryz.prog f #[.slice (some ⟨B,0,none⟩) p p'] w fun e w'=>∃v,e= .returned v/\Below w.heap.size w w'/\w'.ownsRow w.heap.size ty k v (numTo nl p) (rC ql p)
theorem jV:iF 272 55 62 5/\iF 268 64 22 9/\iF 295 59 48 3/\iF 278 72 49 4/\iF 281 75 70 2/\iF 286 3 73 1/\iF 274 51 25 3/\iF 256 77 26 2:=by
 have hg:=aBv;simp only[rB]at hg;refine⟨?_,?_,?_,?_,?_,?_,?_,?_⟩;all_goals
  intro z y hT B p p' xl nl cl ql w hk hc hp hn h0
  obtain⟨i0,hi,hz0,hz1,hz2⟩:=hT.info
  have hlen:∀j,j<=p->numTo nl j<=64*j:=by
   intro j;induction j with
   |zero=>intro _;simp[numTo]
   |succ j ih=>intro hj;have h1:=ih (by omega);have h3:=hn j (by omega);simp only[numTo];omega
  first|go_enter Tryz.func272,Tryz.ntmps272|go_enter Tryz.func268,Tryz.ntmps268|go_enter Tryz.func295,Tryz.ntmps295|go_enter Tryz.func278,Tryz.ntmps278|go_enter Tryz.func281,Tryz.ntmps281|go_enter Tryz.func286,Tryz.ntmps286|go_enter Tryz.func274,Tryz.ntmps274|go_enter Tryz.func256,Tryz.ntmps256
  go_wp2
  go_loopw [11,3] (fun i t wr=>∃j:Nat,j<=p/\i= .int .i64 j/\t= .int .i64 (numTo nl j)/\wr=w) (fun i _ _=>p- (intOf i).toNat)
  case atStart=>exact⟨0,by omega,rfl,rfl,rfl⟩
  case round=>
   obtain⟨j,hj,rfl,rfl,hw⟩:=hrel
   have hw':=hw.symm
   subst hw'
   clear hw
   have hl:=hlen j hj
   by_cases hlt:j<p
   ·have hcj:=hc j hlt;have hl2:=hlen (j+1) hlt;have hnj:=hn j hlt;have hlt':=hlt;have hneg:¬((numTo nl j:Int)+(nl j:Int)<0):=by omega
    go_wp2;go_roundw
    case rel=>exact⟨j+1,hlt',by go_num,by simp only[numTo];go_num,trivial⟩
    case measure=>simp[intOf];omega
   ·obtain rfl:j=p:=by omega
    go_wp2_with fail;refine(Calls.mono (by first|exact hg.1 _ _ hT _ w (by omega)|exact hg.2.1 _ _ hT _ w (by omega)|exact hg.2.2.1 _ _ hT _ w (by omega)|exact hg.2.2.2.1 _ _ hT _ w (by omega)|exact hg.2.2.2.2.1 _ _ hT _ w (by omega)|exact hg.2.2.2.2.2.1 _ _ hT _ w (by omega)|exact hg.2.2.2.2.2.2.1 _ _ hT _ w (by omega)|exact hg.2.2.2.2.2.2.2 _ _ hT _ w (by omega)) ?_)
    rintro e w1 ⟨v0,rfl,hb1,hown1⟩;go_wp2;go_loopw [27,6] (fun i v wq=>∃q:Nat,q<=j/\i= .int .i64 q/\Below w.heap.size w wq/\wq.ownsRow w.heap.size _ _ v (numTo nl q) (rC ql q)) (fun i _ _=>j- (intOf i).toNat)
    case atStart=>exact⟨0,by omega,rfl,hb1,hown1⟩
    case round=>
     obtain⟨q,hq,rfl,hB,hown⟩:=hrel
     by_cases hlt2:q<j
     ·have hcq:=cell_later hB (hc q hlt2);have hpq:=(hp q hlt2).later hB;have hlq:=hlen q hq;have hnq:=hn q hlt2;have hlt3:=hlt2;have hsz:=hB.size
      cases hxq:xl q with
      |none=>
       obtain⟨hn0,hc0⟩:=h0 q hlt2 hxq
       rw[hxq,hn0,hc0]at hcq
       have hq0:ql q=[]:=List.eq_nil_of_length_eq_zero (by rw[hpq.1,hn0,Nat.zero_mul])
       go_wp2_with (at_builtin;refine wpList_append_own_none rfl _ _ _ rfl w.heap.size _ i0 _ hT.und hi _ _ _ rfl hown rfl ?_)
       go_roundw
       case rel=>exact⟨q+1,hlt3,by go_num,hB,by simp only[numTo,rC,hq0,hn0,List.append_nil];exact hown⟩
       case measure=>simp[intOf];omega
      |some ad=>
       rw[hxq]at hcq hpq
       go_wp2_with (at_builtin;refine Hid.out ?_)
       unfold Hid
       refine cM hT rfl _ _ rfl w.heap.size _ rfl hown ad (nl q) (cl q) rfl hpq (by omega) hsz ?_
       intro v' w2 hown2 hgrow
       have hB2:=dH hB hgrow (fun k e=>(World.ownsRow.lt hown k e).1)
       go_wp2
       go_roundw
       case rel=>exact⟨q+1,hlt3,by go_num,hB2,hown2⟩
       case measure=>simp[intOf];omega
     ·obtain rfl:q=j:=by omega
      go_wp2;go_ret;exact⟨_,rfl,hB,hown⟩
def nI(f ty st k:Nat):Prop:=∀z y,Ty ty st k z y->∀(x:Option Addr) (n c:Nat) (cs:List Value) (w:World),Rw w x n k cs->n<=1048576->
  Calls Tryz.prog f #[.slice x n c] w fun e w'=>∃v,e= .returned v/\w'.ownsRow w.heap.size ty k v n cs/\Below w.heap.size w w'
theorem nJ:nI 178 55 62 5/\nI 177 64 22 9/\nI 230 59 48 3/\nI 231 72 49 4/\nI 265 75 70 2/\nI 266 3 73 1/\nI 179 51 25 3/\nI 180 77 26 2:=by
 refine⟨?_,?_,?_,?_,?_,?_,?_,?_⟩;all_goals
  intro z y hT x n c cs w hR hn
  have hq:=fun W=>Lib.run_eql_slice_nil (P:=Tryz.prog) W _ _ x n c 0 0 hT.und
  first|go_enter Tryz.func178,Tryz.ntmps178|go_enter Tryz.func177,Tryz.ntmps177|go_enter Tryz.func230,Tryz.ntmps230|go_enter Tryz.func231,Tryz.ntmps231|go_enter Tryz.func265,Tryz.ntmps265|go_enter Tryz.func266,Tryz.ntmps266|go_enter Tryz.func179,Tryz.ntmps179|go_enter Tryz.func180,Tryz.ntmps180
  cases x with
  |none=>
   obtain rfl:n=0:=by
    rcases Nat.eq_zero_or_pos n with h|h
    ·exact h
    ·exact absurd rfl (hR.2.1 h)
   obtain rfl:cs=[]:=List.eq_nil_of_length_eq_zero (by rw[hR.1,Nat.zero_mul])
   simp only[Option.isNone_none]at hq
   go_wp2
   go_ret
   exact⟨_,rfl,World.ownsRow_nil _ _ _ _,zD⟩
  |some ad=>
   simp only[Option.isNone_some]at hq
   go_wp2_with (at_builtin;refine Hid.out ?_)
   unfold Hid
   refine cM hT (n:=0) (cs:=[]) rfl _ _ rfl w.heap.size _ rfl ⟨by simp, .inr ⟨w.heap.size,0,#[],rfl,zE,aB _ rfl,by simp,by unfold maxLen;omega,by simp,by simp⟩⟩ ad n c rfl (hR.later (bl1 w _)) (by omega) (by simp) ?_
   intro v' w' hO' hg
   have hB:=dH (bl1 w _) hg (fun k e=>by cases e;exact zE)
   rw[Nat.zero_add,List.nil_append]at hO'
   go_wp2
   go_ret
   exact⟨_,rfl,hO',hB⟩
def oJ(f ty st k:Nat):Prop:=∀z y,Ty ty st k z y->∀(base g p cap i j:Nat) (cs:List Value) (w:World),w.ownsRow base ty k (.slice (some ⟨g,0,none⟩) (p+1) cap) (p+1) cs->(∀u∈cs,u.oneCell'=true)->i<=p->j=i+1->p<=64->p+1<=cap->cap<=9223372036854775807->
  Calls Tryz.prog f #[.slice (some ⟨g,0,none⟩) (p+1) cap, .int .i64 i, .int .i64 j] w fun e w'=>e= .returned (.slice (some ⟨g,0,none⟩) p cap)/\w'.ownsRow base ty k (.slice (some ⟨g,0,none⟩) p cap) p (cs.take (i*k)++cs.drop (j*k))/\w.grownBy w' (some g)
theorem K5:oJ 237 55 62 5/\oJ 189 64 22 9/\oJ 244 59 48 3/\oJ 247 72 49 4/\oJ 254 75 70 2/\oJ 207 77 26 2:=by
 refine⟨?_,?_,?_,?_,?_,?_⟩;all_goals
  intro z y hT base g p cap i j cs w hO h1 hi hj hn64 hnc hcm
  obtain⟨wa,wb,hap,hcl,hOb,hgb⟩:=U4 hT hO h1 hi hj hnc
  have b1:(0:Int)<=i:=by omega
  have b2:(0:Int)<=j:=by omega
  have b3:(i:Int)<=j:=by omega
  have b4:(j:Int)<=(p:Int)+1:=by omega
  have b5:(p:Int)+1<=cap:=by omega
  have b6:¬(i:Int)=j:=by omega
  have b7:(i:Int)<=cap:=by omega
  have b8:(p:Int)<=(p:Int)+1:=by omega
  have c1:i<=j:=by omega
  have c2:j<=p+1:=by omega
  have c3:i<=cap:=by omega
  have c4:¬i=j:=by omega
  have c5:¬cap=p:=by omega
  have hij:Hid (j=i+1):=hj
  clear hO hT h1 hj
  by_cases hcj:cap=j
  ·have hap1:=hap 0 0 (.inl ⟨hcj,rfl,rfl⟩);clear hap;obtain rfl:i=p:=by have:=hij.out;omega
   obtain rfl:cap=i+1:=by have:=hij.out;omega
   obtain rfl:j=i+1:=hcj.symm;clear hij hcj b1 b2 b3 b4 b5 b6 b7 b8 c1 c2 c3 c4 c5;rw[show i+1- (i+1)=0 by omega]at hap1;simp[go_sem]at hap1;rw[show i+1- i=1 by omega]at hcl;subst hap1;first|go_enter Tryz.func237,Tryz.ntmps237|go_enter Tryz.func189,Tryz.ntmps189|go_enter Tryz.func244,Tryz.ntmps244|go_enter Tryz.func247,Tryz.ntmps247|go_enter Tryz.func254,Tryz.ntmps254|go_enter Tryz.func207,Tryz.ntmps207
   go_upto_region 5 with fail
   go_region_with fail;all_goals go_wp2
   all_goals go_ret
   all_goals exact⟨rfl,hOb,hgb⟩
  ·have hap1:=hap _ _ (.inr ⟨hcj,rfl,rfl⟩);have hcj':¬j=cap:=fun h=>hcj h.symm;clear hap;simp[go_sem]at hap1;first|go_enter Tryz.func237,Tryz.ntmps237|go_enter Tryz.func189,Tryz.ntmps189|go_enter Tryz.func244,Tryz.ntmps244|go_enter Tryz.func247,Tryz.ntmps247|go_enter Tryz.func254,Tryz.ntmps254|go_enter Tryz.func207,Tryz.ntmps207
   go_upto_region 5 with fail
   go_region_with fail;all_goals go_wp2
   all_goals go_ret
   all_goals exact⟨rfl,hOb,hgb⟩
theorem gP{f:Nat}(hC:iF f ty st k)(hT:Ty ty st k z y)(x1 x3:Option Addr)(n1 c1 n3 c3:Nat)(q1 q3:List Value)(ca:Array Value)(w:World)(ha:ca.size=k)(ha1:∀u∈ca.toList,u.oneCell'=true)(h1:Rw w x1 n1 k q1)(h3:Rw w x3 n3 k q3)(b1:n1<=64)(b3:n3<=64)(z1:x1=none->n1=0/\c1=0)(z3:x3=none->n3=0/\c3=0):
  Calls Tryz.prog f #[.slice (some ⟨w.heap.size+1,0,none⟩) 3 3] ((w.alloc (.cells ca ty)).alloc (.cells #[.slice x1 n1 c1, .slice (some ⟨w.heap.size,0,none⟩) 1 1, .slice x3 n3 c3] st)).drew fun r w'=>
   ∃v,r= .returned v/\Below w.heap.size w w'/\w'.ownsRow (w.heap.size+2) ty k v (n1+1+n3) (q1++ca.toList++q3):=by
 obtain⟨W,hW⟩:∃W,W=((w.alloc (.cells ca ty)).alloc (.cells #[.slice x1 n1 c1, .slice (some ⟨w.heap.size,0,none⟩) 1 1, .slice x3 n3 c3] st)).drew:=⟨_,rfl⟩;have hB:Below w.heap.size w W:=by rw[hW];exact(bP w _ _).drew
 have g0:W.heap[w.heap.size]?=some (.cells ca ty):=by rw[hW];exact aH _ (aB _ rfl)
 have g1:W.heap[w.heap.size+1]?=some (.cells #[.slice x1 n1 c1, .slice (some ⟨w.heap.size,0,none⟩) 1 1, .slice x3 n3 c3] st):=by rw[hW];exact aB _ (by simp)
 have hs:W.heap.size=w.heap.size+2:=by rw[hW];simp
 rw[<-hW];clear hW;have hp2:Rw W (some ⟨w.heap.size,0,none⟩) 1 k ca.toList:=⟨by rw[Array.length_toList,ha,Nat.one_mul],fun _=>by simp,ha1,fun ad hx j u hj=>by
  cases hx;rw[cA,Nat.zero_add];simpa[World.cell?,g0]using hj⟩
 refine(hC z y hT (w.heap.size+1) 3 3 (fun j=>if j=0 then x1 else if j=1 then some ⟨w.heap.size,0,none⟩else x3) (fun j=>if j=0 then n1 else if j=1 then 1 else n3) (fun j=>if j=0 then c1 else if j=1 then 1 else c3) (fun j=>if j=0 then q1 else if j=1 then ca.toList else q3) W (by omega) ?_ ?_ ?_ ?_).mono ?_
 ·intro j hj;rcases j with _|_|_|j
  ·simp[World.cell?,g1]
  ·simp[World.cell?,g1]
  ·simp[World.cell?,g1]
  ·omega
 ·intro j hj;rcases j with _|_|_|j
  ·simpa using h1.later hB
  ·simpa using hp2
  ·simpa using h3.later hB
  ·omega
 ·intro j hj;rcases j with _|_|_|j
  ·simpa using b1
  ·simp
  ·simpa using b3
  ·omega
 ·intro j hj;rcases j with _|_|_|j
  ·simpa using z1
  ·simp
  ·simpa using z3
  ·omega
 ·rintro r w' ⟨v,rfl,hb,hown⟩;rw[hs]at hown;simp only[numTo,rC]at hown;exact⟨v,rfl,hB.trans (hb.mono (by omega)),by simpa using hown⟩
def wR(n:Nat)(F:Nat->Bool)(w:World)(e:Ending)(w':World):Prop:=(∃r:Int,e= .returned (.int .i64 r)/\((∃i:Nat,i<n/\F i=true/\(∀j,j<i->F j=false)/\r=i)\/((∀j,j<n->F j=false)/\r= -1)))/\Below w.heap.size w w'
def aEm(n ty k:Nat)(F:Nat->Bool)(q ce:List Value)(w:World)(r:Ending)(w':World):Prop:=
 ∃v,r= .returned v/\Below w.heap.size w w'/\∃i,i<=n/\(∀j,j<i->F j=false)/\(i<n->F i=true)/\w'.ownsRow w.heap.size ty k v (i+1+(n- i)) (q.take (i*k)++ce++q.drop (i*k))
def FR(f f1 ix tb ty st k:Nat){E:Type}(ca:E->Array Value)(ev:E->Value):Prop:=∀z y,Ty ty st k z y->∀(e:E) (x:Option Addr) (n c bf nb b1:Nat) (q:List Value) (F:Nat->Bool) (w:World),Rw w x n k q->(∀u∈(ca e).toList,u.oneCell'=true)->n<=32->n<=c->c<=9223372036854775807->((x=none/\c=0)\/∃b o,x=some ⟨b,o,none⟩)->
  Calls Tryz.prog ix #[.slice x n c, .func (.func f1) #[] #[.pointer (some ⟨w.heap.size,0,none⟩), .pointer (some ⟨w.heap.size+1,0,none⟩)]] ((w.alloc (.cells (ca e) ty)).alloc (.cells #[.slice (some ⟨bf,0,none⟩) nb b1] tb)) (wR n F ((w.alloc (.cells (ca e) ty)).alloc (.cells #[.slice (some ⟨bf,0,none⟩) nb b1] tb)))->
  Calls Tryz.prog f #[.slice x n c,ev e, .slice (some ⟨bf,0,none⟩) nb b1] w (aEm n ty k F q (ca e).toList w)
theorem IV:FR 235 270 159 320 55 62 5 (fun e:Le=>#[.int .i64 e.a, .int .i64 e.l, .int .i64 e.kd, .int .i64 e.ow, .int .i64 e.un]) (fun e=> .agg #[.int .i64 e.a, .int .i64 e.l, .int .i64 e.kd, .int .i64 e.ow, .int .i64 e.un])/\FR 233 267 116 182 64 22 9 (fun e:Po=>#[.int .i64 e.id, .int .i64 e.up, .int .i64 e.a, .int .i64 e.l, .int .i64 e.mn, .int .i64 e.mx, .int .i64 e.us, .int .i64 e.co, .slice e.x e.n e.c]) (fun e=> .agg #[.int .i64 e.id, .int .i64 e.up, .int .i64 e.a, .int .i64 e.l, .int .i64 e.mn, .int .i64 e.mx, .int .i64 e.us, .int .i64 e.co, .slice e.x e.n e.c])/\FR 275 294 172 274 59 48 3 (fun e:Rg=>#[.int .i64 e.a, .int .i64 e.l, .int .i64 e.p]) (fun e=> .agg #[.int .i64 e.a, .int .i64 e.l, .int .i64 e.p])/\FR 246 277 212 281 72 49 4 (fun e:Sb=>#[.int .i64 e.id, .int .i64 e.a, .int .i64 e.l, .slice e.x e.n e.c]) (fun e=> .agg #[.int .i64 e.id, .int .i64 e.a, .int .i64 e.l, .slice e.x e.n e.c])/\FR 249 280 257 313 75 70 2 (fun e:Fc=>#[.int .i64 e.id, .slice e.x e.n e.c]) (fun e=> .agg #[.int .i64 e.id, .slice e.x e.n e.c])/\FR 252 284 283 330 3 73 1 (fun e:Int=>#[.int .i64 e]) (fun e=> .int .i64 e)/\FR 240 273 124 187 51 25 3 (fun e:Vn=>#[.int .i64 e.id, .slice e.rx e.rn e.rc, .slice e.sx e.sn e.sc]) (fun e=> .agg #[.int .i64 e.id, .slice e.rx e.rn e.rc, .slice e.sx e.sn e.sc])/\FR 205 255 129 191 77 26 2 (fun e:Int×Int=>#[.int .i64 e.1, .int .i64 e.2]) (fun e=> .agg #[.int .i64 e.1, .int .i64 e.2]):=by
 refine⟨?_,?_,?_,?_,?_,?_,?_,?_⟩;all_goals
  intro z y hT e x n c bf nb b1 q F w hR hone hn hnc hc63 hx hI
  first|go_enter Tryz.func235,Tryz.ntmps235|go_enter Tryz.func233,Tryz.ntmps233|go_enter Tryz.func275,Tryz.ntmps275|go_enter Tryz.func246,Tryz.ntmps246|go_enter Tryz.func249,Tryz.ntmps249|go_enter Tryz.func252,Tryz.ntmps252|go_enter Tryz.func240,Tryz.ntmps240|go_enter Tryz.func205,Tryz.ntmps205
  go_wp2_with fail
  refine hI.mono ?_
  rintro e' w1 ⟨⟨r,rfl,hr⟩,hb1⟩
  have hB:=(bP w _ _).trans (hb1.mono (by simp;omega))
  have e0:=fun i=>hb1.cell (p:=⟨w.heap.size,i,none⟩) (by show w.heap.size<_;simp;omega)
  simp at e0
  have hi:∃i:Nat,i<=n/\(∀j,j<i->F j=false)/\(i<n->F i=true)/\((r=i/\i<n/\¬r<0)\/(r= -1/\i=n)):=by
   rcases hr with ⟨i,hi,hf,hno,rfl⟩|⟨hno,rfl⟩
   ·exact⟨i,by omega,hno,fun _=>hf, .inl ⟨rfl,hi,by omega⟩⟩
   ·exact⟨n,by omega,hno,fun h=>by omega, .inr ⟨rfl,rfl⟩⟩
  obtain⟨i,hin,hlow,hup,hri⟩:=hi
  have hRw:=hR.later hB
  clear hr hI hb1 hR
  first|have hcc:=fun x1 x3 n1 c1 n3 c3 q1 q3=>gP jV.1 hT x1 x3 n1 c1 n3 c3 q1 q3 _ w1 rfl hone|have hcc:=fun x1 x3 n1 c1 n3 c3 q1 q3=>gP jV.2.1 hT x1 x3 n1 c1 n3 c3 q1 q3 _ w1 rfl hone|have hcc:=fun x1 x3 n1 c1 n3 c3 q1 q3=>gP jV.2.2.1 hT x1 x3 n1 c1 n3 c3 q1 q3 _ w1 rfl hone|have hcc:=fun x1 x3 n1 c1 n3 c3 q1 q3=>gP jV.2.2.2.1 hT x1 x3 n1 c1 n3 c3 q1 q3 _ w1 rfl hone|have hcc:=fun x1 x3 n1 c1 n3 c3 q1 q3=>gP jV.2.2.2.2.1 hT x1 x3 n1 c1 n3 c3 q1 q3 _ w1 rfl hone|have hcc:=fun x1 x3 n1 c1 n3 c3 q1 q3=>gP jV.2.2.2.2.2.1 hT x1 x3 n1 c1 n3 c3 q1 q3 _ w1 rfl hone|have hcc:=fun x1 x3 n1 c1 n3 c3 q1 q3=>gP jV.2.2.2.2.2.2.1 hT x1 x3 n1 c1 n3 c3 q1 q3 _ w1 rfl hone|have hcc:=fun x1 x3 n1 c1 n3 c3 q1 q3=>gP jV.2.2.2.2.2.2.2 hT x1 x3 n1 c1 n3 c3 q1 q3 _ w1 rfl hone
  have hlt:w.heap.size<w1.heap.size:=by have:=hB.size;have:=World.block_lt_of_cell? w1 ⟨w.heap.size,0,none⟩ (e0 0);exact this
  have e1:=fun(u:Ws w1.heap.size w1) i=>(u.property.cell (p:=⟨w.heap.size,i,none⟩) hlt).trans (e0 i)
  clear e0
  rcases hx with ⟨rfl,rfl⟩|⟨b,o,rfl⟩
  focus
   obtain rfl:n=0:=by omega
   obtain rfl:i=0:=by omega
   rcases hri with ⟨-,h, -⟩|⟨rfl, -⟩
   ·omega
   have hfin:=hcc none none 0 0 0 0 _ _ (hRw.take (i:=0) (by omega)) (hRw.drop0 rfl) (by omega) (by omega) (fun _=>⟨rfl,rfl⟩) (fun _=>⟨rfl,rfl⟩)
  rotate_left
  focus
   have hR3:=hRw.drop (i:=i) (c:=c) hin hnc
   have hcd:=fun(x3:Option Addr) (m:Nat) (hm:n- i=m) (h:(if c=i then some (⟨b,o,none⟩:Addr)else some ⟨b,o+i*_,none⟩)=x3)=>hcc (some ⟨b,o,none⟩) x3 i c m (c- i) _ _ (hRw.take hin) (hm▸h▸hR3) (by omega) (by omega) (fun h=>by cases h) (fun h'=>by rw[<-h]at h';split at h'<;>cases h')
   rcases hri with ⟨rfl,hil,hneg⟩|⟨rfl,hi2⟩
   focus
    have hic:¬c=i:=by omega
    have hic':i<=c:=by omega
    have hfin:=hcd _ _ rfl (if_neg hic)
   rotate_left
   focus
    subst hi2
    by_cases hcn:c=i
    focus
     have hfin:=hcd _ 0 (Nat.sub_self _) (if_pos hcn)
     subst hcn
     rw[Nat.sub_self]at hfin
    rotate_left
    have hfin:=hcd _ 0 (Nat.sub_self _) (if_neg hcn)
  all_goals
   try clear hcd hR3
   clear hcc
   try simp only[Nat.mul_one]at hfin
   go_wp2_with fail
   refine bG (fun w'=>∃u:Ws w1.heap.size w1,w'=u.val) (fun j=>decide (j<8)) 11 _ (by kernel_rfl) rfl rfl ?_
   refine bE 4 [0,1,2,3,5,6,7] rfl _ rfl (by kernel_rfl) (fun d _ _ _ _ h=>by cases d<;>exact h) ⟨⟨_,(zD).drew⟩,rfl⟩ ?_
   simp only[zK,zM,zI,zJ]
   repeat(go_big_quiet_step (fail))
   refine wpQuiet_nil ?_
   refine aY 4 _ _ (by kernel_rfl) (by kernel_rfl) rfl rfl ?_
   intro K hK
   simp only[zI,zJ]
   go_wp2_with fail
   refine aC (hK.out _ _ ⟨⟨_,(bl1 w1 _).drew⟩,rfl⟩ ?_)
   clear hK K
   refine bB [8,9,10] rfl (by kernel_rfl) ?_
   simp only[zK,zM,zI,zJ]
   go_wp2_with fail
   refine hfin.mono ?_
   rintro e' w2 ⟨v2,rfl,hb2,hps⟩
   go_wp2
   go_ret
   exact⟨_,rfl,hB.trans (hb2.mono hB.size),_,hin,hlow,hup,by simpa using iE hps (by have:=hB.size;omega)⟩
def YZ(f:Nat){E:Type}(ca:E->Array Value)(key:E->Int):Prop:=(∀p w,Calls Tryz.prog f #[.agg (ca p)] w fun e w'=>e= .returned (.int .i64 (key p))/\Below w.heap.size w w')/\∀args W,(callFunc f args).run Tryz.prog W= .ok (.enter f args) W
theorem bys:YZ 236 (fun e:Le=>#[.int .i64 e.a, .int .i64 e.l, .int .i64 e.kd, .int .i64 e.ow, .int .i64 e.un]) (·.a)/\YZ 76 (fun e:Po=>#[.int .i64 e.id, .int .i64 e.up, .int .i64 e.a, .int .i64 e.l, .int .i64 e.mn, .int .i64 e.mx, .int .i64 e.us, .int .i64 e.co, .slice e.x e.n e.c]) (·.id)/\YZ 166 (fun e:Rg=>#[.int .i64 e.a, .int .i64 e.l, .int .i64 e.p]) (·.a)/\YZ 171 (fun e:Sb=>#[.int .i64 e.id, .int .i64 e.a, .int .i64 e.l, .slice e.x e.n e.c]) (·.id)/\YZ 221 (fun e:Fc=>#[.int .i64 e.id, .slice e.x e.n e.c]) (·.id)/\YZ 87 (fun e:Vn=>#[.int .i64 e.id, .slice e.rx e.rn e.rc, .slice e.sx e.sn e.sc]) (·.id):=by
 refine⟨?_,?_,?_,?_,?_,?_⟩;all_goals
  refine⟨fun p w=>?_,fun args W=>by simp[go_sem]⟩
  first|go_enter Tryz.func236,Tryz.ntmps236|go_enter Tryz.func76,Tryz.ntmps76|go_enter Tryz.func166,Tryz.ntmps166|go_enter Tryz.func171,Tryz.ntmps171|go_enter Tryz.func221,Tryz.ntmps221|go_enter Tryz.func87,Tryz.ntmps87
  go_wp2
  go_ret
  exact⟨rfl,bl1 _ _⟩
def MT(f g:Nat){E:Type}(ca:E->Array Value)(key:E->Int):Prop:=YZ g ca key->∀(p r:E) (v:Int),FC (key p) (key r) v->∀(bb kk:Nat) (w:World),w.cell? ⟨bb,0,none⟩=some (.func (.func g) #[] #[])->Calls Tryz.prog f #[.agg (ca p), .agg (ca r), .slice (some ⟨bb,0,none⟩) 1 kk] w fun e w'=>e= .returned (.int .i64 v)/\Below w.heap.size w w'
theorem MU:MT 271 236 (fun e:Le=>#[.int .i64 e.a, .int .i64 e.l, .int .i64 e.kd, .int .i64 e.ow, .int .i64 e.un]) (·.a)/\MT 115 76 (fun e:Po=>#[.int .i64 e.id, .int .i64 e.up, .int .i64 e.a, .int .i64 e.l, .int .i64 e.mn, .int .i64 e.mx, .int .i64 e.us, .int .i64 e.co, .slice e.x e.n e.c]) (·.id)/\MT 216 166 (fun e:Rg=>#[.int .i64 e.a, .int .i64 e.l, .int .i64 e.p]) (·.a)/\MT 224 171 (fun e:Sb=>#[.int .i64 e.id, .int .i64 e.a, .int .i64 e.l, .slice e.x e.n e.c]) (·.id)/\MT 262 221 (fun e:Fc=>#[.int .i64 e.id, .slice e.x e.n e.c]) (·.id)/\MT 123 87 (fun e:Vn=>#[.int .i64 e.id, .slice e.rx e.rn e.rc, .slice e.sx e.sn e.sc]) (·.id):=by
 refine⟨?_,?_,?_,?_,?_,?_⟩;all_goals
  intro⟨hby,hcall⟩ p r v hv bb kk w hb9
  first|go_enter Tryz.func271,Tryz.ntmps271|go_enter Tryz.func115,Tryz.ntmps115|go_enter Tryz.func216,Tryz.ntmps216|go_enter Tryz.func224,Tryz.ntmps224|go_enter Tryz.func262,Tryz.ntmps262|go_enter Tryz.func123,Tryz.ntmps123
  go_wp2
  go_loopw [12] (fun i wr=>∃j:Nat,(j=0\/(j=1/\v=0))/\i= .int .i64 j/\Below (w.heap.size+1+1) ((w.alloc _).alloc _) wr) (fun i _=>1- (intOf i).toNat)
  case atStart=>exact⟨0, .inl rfl,rfl,zD⟩
  case round=>
   obtain⟨j,hj,rfl,hB⟩:=hrel
   rcases hj with rfl|⟨rfl,hv0⟩
   ·have hz:=hB.size;simp only[World.size_alloc]at hz;have hbl:bb<w.heap.size:=block_lt_of_cell hb9;have e0:=fun i=>hB.cell (p:=⟨w.heap.size,i,none⟩) (by show w.heap.size<_;omega);have f0:=fun i=>hB.cell (p:=⟨w.heap.size+1,i,none⟩) (by show w.heap.size+1<_;omega);simp at e0 f0;have e9:=(hB.cell (p:=⟨bb,0,none⟩) (by show bb<_;omega)).trans (cell_later (bP w _ _) hb9);have g0:=fun(u:Ws wr.heap.size wr) i=>(u.property.cell (p:=⟨w.heap.size,i,none⟩) (by show w.heap.size<_;omega)).trans (e0 i);have k0:=fun(u:Ws wr.heap.size wr) i=>(u.property.cell (p:=⟨w.heap.size+1,i,none⟩) (by show w.heap.size+1<_;omega)).trans (f0 i);go_upto_region 4 with fail
    clear e0 f0 e9;refine aE wr.heap.size (by kernel_rfl) (by kernel_rfl) ?_;repeat(go_big_quiet_step (first|(go_at_call 153;exact Calls.in_ws_same (xI _ _ _ hv _))|(go_at_call 236;exact Calls.in_ws (zE) (hby _ _))|(go_at_call 76;exact Calls.in_ws (zE) (hby _ _))|(go_at_call 166;exact Calls.in_ws (zE) (hby _ _))|(go_at_call 171;exact Calls.in_ws (zE) (hby _ _))|(go_at_call 221;exact Calls.in_ws (zE) (hby _ _))|(go_at_call 87;exact Calls.in_ws (zE) (hby _ _))))
    refine wpQuiet_nil ?_;rintro _ ⟨u,rfl⟩;have hu:=hB.trans (u.property.mono hz);generalize u.val=wu at hu⊢;clear u g0 k0;rcases hv with ⟨h,rfl⟩|⟨h,rfl⟩|⟨h,rfl⟩
    ·go_wp2;go_ret;exact⟨rfl,(bP w _ _).trans (hu.mono (by omega))⟩
    ·go_wp2;go_roundw
     case rel=>exact⟨1, .inr ⟨rfl,trivial⟩,by go_num,hu⟩
     case measure=>simp[intOf]
    ·go_wp2;go_ret;exact⟨rfl,(bP w _ _).trans (hu.mono (by omega))⟩
   ·subst hv0;go_wp2;go_ret;exact⟨rfl,(bP w _ _).trans (hB.mono (by omega))⟩
def uX(f fc:Nat){E:Type}(ca:E->Array Value)(ev:E->Value):Prop:=(∀(p r:E) (v:Int) (bp bb bf nb k:Nat) (w:World),(∀i,w.cell? ⟨bp,i,none⟩=(ca p)[i]?)->w.cell? ⟨bb,0,none⟩=some (.slice (some ⟨bf,0,none⟩) nb k)->(∀W,Below w.heap.size w W->Calls Tryz.prog fc #[ev p,ev r, .slice (some ⟨bf,0,none⟩) nb k] W fun e w'=>e= .returned (.int .i64 v)/\Below W.heap.size W w')->
  Calls Tryz.prog f #[ev r, .pointer (some ⟨bp,0,none⟩), .pointer (some ⟨bb,0,none⟩)] w fun e w'=>e= .returned (.bool (decide (v<0)))/\Below w.heap.size w w')/\∀args W,(callFunc f args).run Tryz.prog W= .ok (.enter f args) W
theorem jW:uX 270 271 (fun e:Le=>#[.int .i64 e.a, .int .i64 e.l, .int .i64 e.kd, .int .i64 e.ow, .int .i64 e.un]) (fun e=> .agg #[.int .i64 e.a, .int .i64 e.l, .int .i64 e.kd, .int .i64 e.ow, .int .i64 e.un])/\uX 267 115 (fun e:Po=>#[.int .i64 e.id, .int .i64 e.up, .int .i64 e.a, .int .i64 e.l, .int .i64 e.mn, .int .i64 e.mx, .int .i64 e.us, .int .i64 e.co, .slice e.x e.n e.c]) (fun e=> .agg #[.int .i64 e.id, .int .i64 e.up, .int .i64 e.a, .int .i64 e.l, .int .i64 e.mn, .int .i64 e.mx, .int .i64 e.us, .int .i64 e.co, .slice e.x e.n e.c])/\uX 294 216 (fun e:Rg=>#[.int .i64 e.a, .int .i64 e.l, .int .i64 e.p]) (fun e=> .agg #[.int .i64 e.a, .int .i64 e.l, .int .i64 e.p])/\uX 277 224 (fun e:Sb=>#[.int .i64 e.id, .int .i64 e.a, .int .i64 e.l, .slice e.x e.n e.c]) (fun e=> .agg #[.int .i64 e.id, .int .i64 e.a, .int .i64 e.l, .slice e.x e.n e.c])/\uX 280 262 (fun e:Fc=>#[.int .i64 e.id, .slice e.x e.n e.c]) (fun e=> .agg #[.int .i64 e.id, .slice e.x e.n e.c])/\uX 284 285 (fun e:Int=>#[.int .i64 e]) (fun e=> .int .i64 e)/\uX 273 123 (fun e:Vn=>#[.int .i64 e.id, .slice e.rx e.rn e.rc, .slice e.sx e.sn e.sc]) (fun e=> .agg #[.int .i64 e.id, .slice e.rx e.rn e.rc, .slice e.sx e.sn e.sc])/\uX 255 128 (fun e:Int×Int=>#[.int .i64 e.1, .int .i64 e.2]) (fun e=> .agg #[.int .i64 e.1, .int .i64 e.2]):=by
 refine⟨?_,?_,?_,?_,?_,?_,?_,?_⟩;all_goals
  refine⟨fun p r v bp bb bf nb k w h1 h2 hC=>?_,fun args W=>by simp[go_sem]⟩
  have hl1:bp<w.heap.size:=World.block_lt_of_cell? w ⟨bp,0,none⟩ (h1 0)
  have k1:=fun q i=>((bl1 w q).cell (p:=⟨bp,i,none⟩) hl1).trans (h1 i)
  have k2:=fun q=>cell_later (bl1 w q) h2
  simp at h1 k1
  first|go_enter Tryz.func270,Tryz.ntmps270|go_enter Tryz.func267,Tryz.ntmps267|go_enter Tryz.func294,Tryz.ntmps294|go_enter Tryz.func277,Tryz.ntmps277|go_enter Tryz.func280,Tryz.ntmps280|go_enter Tryz.func284,Tryz.ntmps284|go_enter Tryz.func273,Tryz.ntmps273|go_enter Tryz.func255,Tryz.ntmps255
  go_wp2_with fail
  refine(hC _ (by first|exact zD|exact bl1 w _)).mono ?_
  rintro e w1 ⟨rfl,hb1⟩
  go_wp2
  go_ret
  first|exact⟨rfl,hb1⟩|exact⟨rfl,(bl1 w _).trans (hb1.mono (by simp))⟩
def B6(f fc k:Nat){E:Type}(ca:E->Array Value)(ev:E->Value):Prop:=∀(es:Nat->E) (ok:Nat->Bool) (x:Option Addr) (n c bb nb kk:Nat) (w:World),n<=64->(∀i,i<n->∃b o,x=some ⟨b,o,none⟩/\∀q,q<k->w.cell? ⟨b,o+i*k+q,none⟩=(ca (es i))[q]?)->
  (∀i,i+1<n->∃v,ok i=(!(decide (0<=v)))/\∀W,Below w.heap.size w W->Calls Tryz.prog fc #[ev (es i),ev (es (i+1)), .slice (some ⟨bb,0,none⟩) nb kk] W fun e w'=>e= .returned (.int .i64 v)/\Below W.heap.size W w')->
  Calls Tryz.prog f #[.slice x n c, .slice (some ⟨bb,0,none⟩) nb kk] w fun e w'=>∃t,e= .returned (.bool t)/\Below w.heap.size w w'/\((t=true/\∀i,i+1<n->ok i=true)\/(t=false/\∃i,i+1<n/\ok i=false))
theorem B7:B6 75 115 9 (fun e:Po=>#[.int .i64 e.id, .int .i64 e.up, .int .i64 e.a, .int .i64 e.l, .int .i64 e.mn, .int .i64 e.mx, .int .i64 e.us, .int .i64 e.co, .slice e.x e.n e.c]) (fun e=> .agg #[.int .i64 e.id, .int .i64 e.up, .int .i64 e.a, .int .i64 e.l, .int .i64 e.mn, .int .i64 e.mx, .int .i64 e.us, .int .i64 e.co, .slice e.x e.n e.c])/\B6 165 216 3 (fun e:Rg=>#[.int .i64 e.a, .int .i64 e.l, .int .i64 e.p]) (fun e=> .agg #[.int .i64 e.a, .int .i64 e.l, .int .i64 e.p])/\B6 170 224 4 (fun e:Sb=>#[.int .i64 e.id, .int .i64 e.a, .int .i64 e.l, .slice e.x e.n e.c]) (fun e=> .agg #[.int .i64 e.id, .int .i64 e.a, .int .i64 e.l, .slice e.x e.n e.c])/\B6 220 262 2 (fun e:Fc=>#[.int .i64 e.id, .slice e.x e.n e.c]) (fun e=> .agg #[.int .i64 e.id, .slice e.x e.n e.c])/\B6 258 285 1 (fun e:Int=>#[.int .i64 e]) (fun e=> .int .i64 e)/\B6 86 123 3 (fun e:Vn=>#[.int .i64 e.id, .slice e.rx e.rn e.rc, .slice e.sx e.sn e.sc]) (fun e=> .agg #[.int .i64 e.id, .slice e.rx e.rn e.rc, .slice e.sx e.sn e.sc]):=by
 refine⟨?_,?_,?_,?_,?_,?_⟩;all_goals
  intro es ok x n c bb nb kk w hn hc hcm
  first|go_enter Tryz.func75,Tryz.ntmps75|go_enter Tryz.func165,Tryz.ntmps165|go_enter Tryz.func170,Tryz.ntmps170|go_enter Tryz.func220,Tryz.ntmps220|go_enter Tryz.func258,Tryz.ntmps258|go_enter Tryz.func86,Tryz.ntmps86
  go_wp2
  go_loopw [5] (fun i wr=>∃j:Nat,1<=j/\j<=n+1/\i= .int .i64 j/\Below w.heap.size w wr/\(∀i,i+1<j->i+1<n->ok i=true)) (fun i _=>n+1- (intOf i).toNat)
  case atStart=>exact⟨1,by omega,by omega,rfl,zD,fun i hi _=>by omega⟩
  case round=>
   obtain⟨j,hj1,hjn,rfl,hB,hok⟩:=hrel
   have hz:=hB.size
   by_cases hlt:j<n
   ·obtain⟨i,rfl⟩:∃i,j=i+1:=⟨j- 1,by omega⟩;obtain⟨b,o,rfl,hc0⟩:=hc i (by omega);obtain⟨b2,o2,hbo,hc1⟩:=hc (i+1) hlt;simp only[Option.some.injEq,Addr.mk.injEq,and_true]at hbo;obtain⟨rfl,rfl⟩:=hbo;have hl:b<w.heap.size:=World.block_lt_of_cell? w ⟨b,o+i*_+0,none⟩ (hc0 0 (by decide));have g:=fun q h (u:Ws wr.heap.size wr)=>((u.property.cell (p:=⟨b,o+i*_+q,none⟩) (by show b<_;omega)).trans (hB.cell (p:=⟨b,o+i*_+q,none⟩) hl)).trans (hc0 q h);have g0:=g 0 (by decide);try have g1:=g 1 (by decide)
    try have g2:=g 2 (by decide)
    try have g3:=g 3 (by decide)
    try have g4:=g 4 (by decide)
    try have g5:=g 5 (by decide)
    try have g6:=g 6 (by decide)
    try have g7:=g 7 (by decide)
    try have g8:=g 8 (by decide)
    have g:=fun q h (u:Ws wr.heap.size wr)=>((u.property.cell (p:=⟨b,o+(i+1)*_+q,none⟩) (by show b<_;omega)).trans (hB.cell (p:=⟨b,o+(i+1)*_+q,none⟩) hl)).trans (hc1 q h);have k0:=g 0 (by decide);try have k1:=g 1 (by decide)
    try have k2:=g 2 (by decide)
    try have k3:=g 3 (by decide)
    try have k4:=g 4 (by decide)
    try have k5:=g 5 (by decide)
    try have k6:=g 6 (by decide)
    try have k7:=g 7 (by decide)
    try have k8:=g 8 (by decide)
    clear g;simp at g0 k0;try simp at g1 k1
    try simp at g2 k2
    try simp at g3 k3
    try simp at g4 k4
    try simp at g5 k5
    try simp at g6 k6
    try simp at g7 k7
    try simp at g8 k8
    obtain⟨v,hd,hC⟩:=hcm i hlt;have hlt':=hlt;go_upto_region 4 with fail
    first|refine aE wr.heap.size (by kernel_rfl) (by kernel_rfl) ?_|refine qT wr.heap.size ?_
    cases hg:decide (0<=v);all_goals
     rw[hg]at hd
     have hge:decide (v≥0)=_:=hg
     repeat(go_big_quiet_step (first|(go_at_call 115;exact Calls.in_ws (zE) (hC _ (hB.trans ((Ws.property _).mono hz))))|(go_at_call 216;exact Calls.in_ws (zE) (hC _ (hB.trans ((Ws.property _).mono hz))))|(go_at_call 224;exact Calls.in_ws (zE) (hC _ (hB.trans ((Ws.property _).mono hz))))|(go_at_call 262;exact Calls.in_ws (zE) (hC _ (hB.trans ((Ws.property _).mono hz))))|(go_at_call 285;exact Calls.in_ws (zE) (hC _ (hB.trans ((Ws.property _).mono hz))))|(go_at_call 123;exact Calls.in_ws (zE) (hC _ (hB.trans ((Ws.property _).mono hz))))))
     refine wpQuiet_nil ?_
     rintro _ ⟨u,rfl⟩
     have hu:=hB.trans (u.property.mono hz)
     generalize u.val=wu at hu⊢
     go_wp2
    ·go_roundw
     case rel=>exact⟨i+1+1,by omega,by omega,by go_num,hu,fun q hq hqn=>by
      by_cases hq2:q+1<i+1
      ·exact hok q hq2 hqn
      ·obtain rfl:q=i:=by omega
       exact hd⟩
     case measure=>simp[intOf];omega
    ·go_ret;exact⟨_,rfl,hu, .inr ⟨rfl,i,hlt',hd⟩⟩
   ·go_wp2;go_ret;exact⟨_,rfl,hB, .inl ⟨rfl,fun i hi=>hok i (by omega) hi⟩⟩
theorem oK{t:Bool}(h0:R 0=true)(hs:∀i,R (i+1)=ok i)(h:(t=true/\∀i,i+1<n->ok i=true)\/(t=false/\∃i,i+1<n/\ok i=false)):t=(List.range n).all R:=by
 rcases h with ⟨rfl,h⟩|⟨rfl,i,hi,h⟩
 ·refine(List.all_eq_true.2 fun j hj=>?_).symm;rcases j with _|j
  ·exact h0
  ·rw[hs];exact h j (by simpa using hj)
 ·refine(List.all_eq_false.2 ⟨i+1,by simpa using hi,by rw[hs,h];simp⟩).symm
theorem sZ(p r:Int):∃v,FC p r v/\decide (p<r)=(!(decide (0<=v))):=by
 rcases Int.lt_trichotomy p r with h|h|h
 ·exact⟨-1, .inl ⟨h,rfl⟩,by simp[h]⟩
 ·exact⟨0, .inr (.inl ⟨h,rfl⟩),by simp[h]⟩
 ·exact⟨1, .inr (.inr ⟨h,rfl⟩),by simp;omega⟩
def FT(f f2 k:Nat)(av:(Nat->Value)->Value):Prop:=∀(g:Nat) (cap:Array Value) (x:Option Addr) (n c:Nat) (d:Nat->Nat->Value) (F:Nat->Bool) (w:World),(∀i,i<n->∃b o,x=some ⟨b,o,none⟩/\∀q,q<k->w.cell? ⟨b,o+i*k+q,none⟩=some (d i q))->n<=9223372036854775807->
  (∀i,i<n->∀W,Below w.heap.size w W->Calls Tryz.prog g (#[av (d i)]++cap) W fun e W'=>e= .returned (.bool (F i))/\Below W.heap.size W W')->(∀args W,(callFunc g args).run Tryz.prog W= .ok (.enter g args) W)->
  Calls Tryz.prog f #[.slice x n c, .func (.func g) #[] cap] w (wR n F w)/\Calls Tryz.prog f2 #[.slice x n c, .func (.func g) #[] cap] w fun e w'=>e= .returned (.bool (anyAt n F))/\Below w.heap.size w w'
theorem qA:FT 159 186 5 (fun d=> .agg #[d 0,d 1,d 2,d 3,d 4])/\FT 116 77 9 (fun d=> .agg #[d 0,d 1,d 2,d 3,d 4,d 5,d 6,d 7,d 8])/\FT 172 131 3 (fun d=> .agg #[d 0,d 1,d 2])/\FT 212 161 4 (fun d=> .agg #[d 0,d 1,d 2,d 3])/\FT 257 213 2 (fun d=> .agg #[d 0,d 1])/\FT 283 259 1 (fun d=>d 0)/\FT 124 88 3 (fun d=> .agg #[d 0,d 1,d 2])/\FT 129 94 2 (fun d=> .agg #[d 0,d 1]):=by
 refine⟨?_,?_,?_,?_,?_,?_,?_,?_⟩;all_goals
  intro g cap x n c d F w hc hn hF hg
  have HF:Hid _:=hF
  clear hF
  suffices H:Calls _ _ _ w (wR n F w) by
   refine⟨H,?_⟩;have H1:Hid (Calls Tryz.prog _ #[.slice x n c, .func (.func g) #[] cap] w (wR n F w)):=H;clear H HF;first|go_enter Tryz.func186,Tryz.ntmps186|go_enter Tryz.func77,Tryz.ntmps77|go_enter Tryz.func131,Tryz.ntmps131|go_enter Tryz.func161,Tryz.ntmps161|go_enter Tryz.func213,Tryz.ntmps213|go_enter Tryz.func259,Tryz.ntmps259|go_enter Tryz.func88,Tryz.ntmps88|go_enter Tryz.func94,Tryz.ntmps94
   go_wp2_with fail;refine H1.out.mono ?_;rintro e w1 ⟨⟨r,rfl,hr⟩,hb1⟩;have hr':decide (r≥0)=anyAt n F:=by
    rcases hr with ⟨i,hi,hfi,_,rfl⟩|⟨hno,rfl⟩
    ·rw[aW hi hfi];simp
    ·rw[dD hno];rfl
   go_wp2;go_ret;exact⟨rfl,hb1⟩
  first|go_enter Tryz.func159,Tryz.ntmps159|go_enter Tryz.func116,Tryz.ntmps116|go_enter Tryz.func172,Tryz.ntmps172|go_enter Tryz.func212,Tryz.ntmps212|go_enter Tryz.func257,Tryz.ntmps257|go_enter Tryz.func283,Tryz.ntmps283|go_enter Tryz.func124,Tryz.ntmps124|go_enter Tryz.func129,Tryz.ntmps129
  go_wp2
  go_loopw [8] (fun i wr=>∃k:Nat,k<=n/\i= .int .i64 k/\Below w.heap.size w wr/\(∀j,j<k->F j=false)) (fun i _=>n- (intOf i).toNat)
  case atStart=>exact⟨0,by omega,rfl,zD,fun j hj=>by omega⟩
  case round=>
   obtain⟨k,hk,rfl,hB,hno⟩:=hrel
   by_cases hlt:k<n
   ·obtain⟨b,o,rfl,h0⟩:=hc k hlt;have e:=fun q h=>cell_later hB (h0 q h);have d0:=e 0 (by decide);try have d1:=e 1 (by decide)
    try have d2:=e 2 (by decide)
    try have d3:=e 3 (by decide)
    try have d4:=e 4 (by decide)
    try have d5:=e 5 (by decide)
    try have d6:=e 6 (by decide)
    try have d7:=e 7 (by decide)
    try have d8:=e 8 (by decide)
    clear e;simp at d0;go_wp2_with fail;refine(HF.out k hlt _ hB).mono ?_;rintro e w1 ⟨rfl,hb1⟩;have hC:=hB.trans (hb1.mono hB.size)
    cases hf:F k
    ·go_wp2;go_roundw
     case rel=>exact⟨k+1,hlt,by go_num,hC,fun j hj=>by
      by_cases hj2:j<k
      ·exact hno j hj2
      ·obtain rfl:j=k:=by omega
       exact hf⟩
     case measure=>simp[intOf];omega
    ·go_wp2;go_ret;exact⟨⟨_,rfl, .inl ⟨k,hlt,hf,hno,rfl⟩⟩,hC⟩
   ·go_wp2;go_ret;exact⟨⟨_,rfl, .inr ⟨fun j hj=>hno j (by omega),rfl⟩⟩,hB⟩
def xM(g:Nat)(cap:Array Value)(n:Nat)(ps:List Po)(f:Nat->Bool)(w:World):Prop:=
 ∀i,i<n->∀W,Below w.heap.size w W->Calls Tryz.prog g (#[.agg #[.int .i64 (poAt ps i).id, .int .i64 (poAt ps i).up, .int .i64 (poAt ps i).a, .int .i64 (poAt ps i).l, .int .i64 (poAt ps i).mn, .int .i64 (poAt ps i).mx, .int .i64 (poAt ps i).us, .int .i64 (poAt ps i).co, .slice (poAt ps i).x (poAt ps i).n (poAt ps i).c]]++cap) W fun e W'=>e= .returned (.bool (f i))/\Below W.heap.size W W'
theorem mQ(g:Nat)(cap:Array Value)(x:Option Addr)(n c:Nat)(ps:List Po)(f:Nat->Bool)(w:World)(hp:kS w x n ps)(hn:n<=64)(hF:xM g cap n ps f w)
 (hg:∀args W,(callFunc g args).run Tryz.prog W= .ok (.enter g args) W):
  Calls Tryz.prog 116 #[.slice x n c, .func (.func g) #[] cap] w fun e w'=>(∃r:Int,e= .returned (.int .i64 r)/\((∃i:Nat,i<n/\f i=true/\(∀j,j<i->f j=false)/\r=i)\/((∀j,j<n->f j=false)/\r= -1)))/\Below w.heap.size w w':=(qA.2.1 g cap x n c _ f w hp.idx (by omega) hF hg).1
theorem jD(g:Nat)(cap:Array Value)(x:Option Addr)(n c:Nat)(ps:List Po)(f:Nat->Bool)(w:World)(hp:kS w x n ps)(hn:n<=64)(hF:xM g cap n ps f w)
 (hg:∀args W,(callFunc g args).run Tryz.prog W= .ok (.enter g args) W):
  Calls Tryz.prog 77 #[.slice x n c, .func (.func g) #[] cap] w fun e w'=>e= .returned (.bool (anyAt n f))/\Below w.heap.size w w':=(qA.2.1 g cap x n c _ f w hp.idx (by omega) hF hg).2
def DJ(g:Nat)(cap:Array Value)(n:Nat)(ps:List Le)(f:Nat->Bool)(w:World):Prop:=
 ∀i,i<n->∀W,Below w.heap.size w W->Calls Tryz.prog g (#[.agg #[.int .i64 (leAt ps i).a, .int .i64 (leAt ps i).l, .int .i64 (leAt ps i).kd, .int .i64 (leAt ps i).ow, .int .i64 (leAt ps i).un]]++cap) W fun e W'=>e= .returned (.bool (f i))/\Below W.heap.size W W'
theorem gX(g:Nat)(cap:Array Value)(x:Option Addr)(n c:Nat)(ps:List Le)(f:Nat->Bool)(w:World)(hp:LS w x n ps)(hn:n<=1048576)(hF:DJ g cap n ps f w)
 (hg:∀args W,(callFunc g args).run Tryz.prog W= .ok (.enter g args) W):
  Calls Tryz.prog 159 #[.slice x n c, .func (.func g) #[] cap] w fun e w'=>(∃r:Int,e= .returned (.int .i64 r)/\((∃i:Nat,i<n/\f i=true/\(∀j,j<i->f j=false)/\r=i)\/((∀j,j<n->f j=false)/\r= -1)))/\Below w.heap.size w w':=(qA.1 g cap x n c _ f w hp.idx (by omega) hF hg).1
theorem FU(id:Int)(p:Po)(b:Nat)(w:World)(h0:w.cell? ⟨b,0,none⟩=some (.int .i64 id)):
  Calls Tryz.prog 158 #[.agg #[.int .i64 p.id, .int .i64 p.up, .int .i64 p.a, .int .i64 p.l, .int .i64 p.mn, .int .i64 p.mx, .int .i64 p.us, .int .i64 p.co, .slice p.x p.n p.c], .pointer (some ⟨b,0,none⟩)] w fun e w'=>e= .returned (.bool (p.id==id))/\Below w.heap.size w w':=by
 have k0:∀q,(w.alloc q).cell? ⟨b,0,none⟩=some (.int .i64 id):=fun q=>cell_later (bl1 w q) h0;go_enter Tryz.func158,Tryz.ntmps158;go_wp2;go_ret;exact⟨rfl,bl1 w _⟩
theorem DK(args:Array Value)(W:World):(callFunc 158 args).run Tryz.prog W= .ok (.enter 158 args) W:=by simp[go_sem]
theorem QH(id:Int)(b n:Nat)(ps:List Po)(w:World)(h0:w.cell? ⟨b,0,none⟩=some (.int .i64 id)):
  xM 158 #[.pointer (some ⟨b,0,none⟩)] n ps (fun i=>(poAt ps i).id==id) w:=fun i _ W hW=>FU id (poAt ps i) b W (cell_later hW h0)
theorem pplace_any(t id:Int)(x:Option Addr)(n c:Nat)(ps:List Po)(w:World)(hp:kS w x n ps)(hn:n<=64):
  Calls Tryz.prog 121 #[.agg #[.int .i64 t, .slice x n c], .int .i64 id] w fun e w'=>e= .returned (.int .i64 (aS ps id))/\Below w.heap.size w w':=by
 have hl:=hp.len;go_enter Tryz.func121,Tryz.ntmps121;go_wp2_with fail;refine(mQ 158 _ x n c ps _ _ (hp.later (bP w _ _)) hn (QH id (w.heap.size+1) n ps _ (by simp)) DK).mono ?_;rintro e w1 ⟨⟨r,rfl,hr⟩,hb1⟩;have hr':r=aS ps id:=by
  rcases hr with ⟨i,hi,hf,hno,rfl⟩|⟨hno,rfl⟩
  ·exact(kT (by omega) (by simpa using hf) (fun j hj=>by simpa using hno j hj)).symm
  ·exact(wP (fun j hj=>by simpa using hno j (by omega))).symm
 subst hr';clear hr;go_wp2;go_ret;exact⟨rfl,(bP w _ _).trans (hb1.mono (by simp;omega))⟩
def fE(ls:List Le)(id:Int)(i:Nat):Bool:=((leAt ls i).kd==2)&&((leAt ls i).ow==id)
theorem A4(id:Int)(p:Le)(b:Nat)(w:World)(h0:w.cell? ⟨b,0,none⟩=some (.int .i64 id)):
  Calls Tryz.prog 160 #[.agg #[.int .i64 p.a, .int .i64 p.l, .int .i64 p.kd, .int .i64 p.ow, .int .i64 p.un], .pointer (some ⟨b,0,none⟩)] w fun e w'=>e= .returned (.bool ((p.kd==2)&&(p.ow==id)))/\Below w.heap.size w w':=by
 have k0:∀q,(w.alloc q).cell? ⟨b,0,none⟩=some (.int .i64 id):=fun q=>cell_later (bl1 w q) h0
 cases hk:(p.kd==2);all_goals go_enter Tryz.func160,Tryz.ntmps160
 all_goals go_wp2
 all_goals go_ret
 all_goals exact⟨rfl,bl1 w _⟩
theorem xN(args:Array Value)(W:World):(callFunc 160 args).run Tryz.prog W= .ok (.enter 160 args) W:=by simp[go_sem]
theorem FV(id:Int)(b n:Nat)(ls:List Le)(w:World)(h0:w.cell? ⟨b,0,none⟩=some (.int .i64 id)):
  DJ 160 #[.pointer (some ⟨b,0,none⟩)] n ls (fE ls id) w:=fun i _ W hW=>A4 id (leAt ls i) b W (cell_later hW h0)
theorem DL(id:Int)(p:Po)(w:World)(hp:LS w p.x p.n p.ls)(hn:p.n<=1048576):
  Calls Tryz.prog 122 #[.agg #[.int .i64 p.id, .int .i64 p.up, .int .i64 p.a, .int .i64 p.l, .int .i64 p.mn, .int .i64 p.mx, .int .i64 p.us, .int .i64 p.co, .slice p.x p.n p.c], .int .i64 id] w fun e w'=>(∃r:Int,e= .returned (.int .i64 r)/\((∃i:Nat,i<p.n/\fE p.ls id i=true/\(∀j,j<i->fE p.ls id j=false)/\r=i)\/((∀j,j<p.n->fE p.ls id j=false)/\r= -1)))/\Below w.heap.size w w':=by
 go_enter Tryz.func122,Tryz.ntmps122;go_wp2_with fail;refine(gX 160 _ p.x p.n p.c p.ls _ _ (hp.later (bP w _ _)) hn (FV id (w.heap.size+1) p.n p.ls _ (by simp)) xN).mono ?_;rintro e w1 ⟨⟨r,rfl,hr⟩,hb1⟩;have hr':Hid ((∃i:Nat,i<p.n/\fE p.ls id i=true/\(∀j,j<i->fE p.ls id j=false)/\r=i)\/((∀j,j<p.n->fE p.ls id j=false)/\r= -1)):=hr;clear hr;go_wp2;go_ret;exact⟨⟨r,rfl,hr'.out⟩,(bP w _ _).trans (hb1.mono (by simp;omega))⟩
def lp(ls:List Le):List (Int×Int):=ls.map fun e=>(e.a,e.l)
theorem qB(ls:List Le):(lp ls).length=ls.length:=by unfold lp;simp
theorem XX(hi:i<ls.length):at0 (lp ls) i=(leAt ls i).a/\bY (lp ls) i=(leAt ls i).l:=by
 rw[lQ (by rw[qB];exact hi),lR (by rw[qB];exact hi)];unfold lp leAt;simp[List.getD,hi]
theorem K6(hq:q<ls.length):(lp ls).take (q+1)=(lp ls).take q++[((leAt ls q).a,(leAt ls q).l)]:=by
 rw[MQ (by rw[qB];exact hq),(XX hq).1,(XX hq).2]
theorem dK.base{a:Int}(h:dK w V a l o x c):Below w.heap.size w V:=h.2.2
def lV(a l:Int)(n:Nat)(ls:List Le)(w:World)(e:Ending)(w':World):Prop:=
 ∃x' c',e= .returned (.agg #[.int .i64 a, .int .i64 l, .slice x' n c'])/\Below w.heap.size w w'/\PS w' x' n (lp ls)
theorem nK(p:Po)(w:World)(hp:LS w p.x p.n p.ls)(hn:p.n<=1048576):
  Calls Tryz.prog 82 #[.agg #[.int .i64 p.id, .int .i64 p.up, .int .i64 p.a, .int .i64 p.l, .int .i64 p.mn, .int .i64 p.mx, .int .i64 p.us, .int .i64 p.co, .slice p.x p.n p.c]] w (lV p.a p.l p.n p.ls w):=by
 obtain⟨i0,hi,hz0,hz1,hz2⟩:=qV;obtain⟨id,up,a,l,mn,mx,us,co,x,n,c,ls⟩:=p;simp only at hp hn⊢;have hpl:=hp.len;go_enter Tryz.func82,Tryz.ntmps82;go_upto_region 1 with fail
 have hB:=bP w (.cells #[.int .i64 id, .int .i64 up, .int .i64 a, .int .i64 l, .int .i64 mn, .int .i64 mx, .int .i64 us, .int .i64 co, .slice x n c] 64) (.cells #[.int .i64 0, .int .i64 0, .slice none 0 0] 98);have hP:((w.alloc (.cells #[.int .i64 id, .int .i64 up, .int .i64 a, .int .i64 l, .int .i64 mn, .int .i64 mx, .int .i64 us, .int .i64 co, .slice x n c] 64)).alloc (.cells #[.int .i64 0, .int .i64 0, .slice none 0 0] 98)).heap[w.heap.size]?=some (.cells #[.int .i64 id, .int .i64 up, .int .i64 a, .int .i64 l, .int .i64 mn, .int .i64 mx, .int .i64 us, .int .i64 co, .slice x n c] 64):=aH _ (aB _ rfl);have hR:((w.alloc (.cells #[.int .i64 id, .int .i64 up, .int .i64 a, .int .i64 l, .int .i64 mn, .int .i64 mx, .int .i64 us, .int .i64 co, .slice x n c] 64)).alloc (.cells #[.int .i64 0, .int .i64 0, .slice none 0 0] 98)).heap[w.heap.size+1]?=some (.cells #[.int .i64 0, .int .i64 0, .slice none 0 0] 98):=aB _ (by simp);generalize(w.alloc (.cells #[.int .i64 id, .int .i64 up, .int .i64 a, .int .i64 l, .int .i64 mn, .int .i64 mx, .int .i64 us, .int .i64 co, .slice x n c] 64)).alloc (.cells #[.int .i64 0, .int .i64 0, .slice none 0 0] 98)=w1 at hB hP hR⊢;have p2:w1.cell? ⟨w.heap.size,2,none⟩=some (.int .i64 a):=by simp[World.cell?,hP]
 have p3:w1.cell? ⟨w.heap.size,3,none⟩=some (.int .i64 l):=by simp[World.cell?,hP]
 have p8:∀o,(w1.alloc o).cell? ⟨w.heap.size,8,none⟩=some (.slice x n c):=fun o=>cell_later (bl1 w1 o) (by simp[World.cell?,hP]);have hR1:=(zG hR);go_wp2;clear p2 p3 p8;go_loopw [12] (fun i wr=>∃(q:Nat) (o:List (Int×Int)) (xo:Option Addr) (k:Nat),q<=n/\i= .int .i64 q/\Hid (o=(lp ls).take q)/\dK w1 wr a l o xo k) (fun i _=>n- (intOf i).toNat)
 case atStart=>exact⟨0,[],none,0,by omega,rfl,by unfold Hid;simp,dK.start w1 a l⟩
 case round=>
  obtain⟨q,o,xo,k,hq,rfl,ho,hO⟩:=hrel
  have hol:Hid (o.length=q):=by unfold Hid;rw[ho.out,List.length_take,qB];omega
  have hob:o.length<=n:=by rw[hol.out];exact hq
  by_cases hlt:q<n
  ·obtain⟨b,of,rfl,c0,c1,c2,c3,c4⟩:=((hp.later hB).later (dK.base hO)).cells q hlt;have hlt':=hlt;have hnx:Hid ((lp ls).take (q+1)=(lp ls).take q++[((leAt ls q).a,(leAt ls q).l)]):=K6 (by omega);have hO1:=hO.later (bl1 wr (.cells #[.int .i64 (leAt ls q).a, .int .i64 (leAt ls q).l, .int .i64 (leAt ls q).kd, .int .i64 (leAt ls q).ow, .int .i64 (leAt ls q).un] 55));obtain⟨-, -,o2, -⟩:=FJ hO1.1;go_wp2_with (at_builtin;refine Hid.out ?_);unfold Hid;have hwl:=(zG hO.1);refine wpList_append_own _ rfl _ _ 96 rfl (w1.heap.size+1) 53 i0 (.agg #[.int .i64 0, .int .i64 0]) 2 16 nF hi hz0 hz1 hz2 rfl (by decide) _ _ _ rfl (hO1.2.1.alloc _) ⟨wr.heap.size+1,0,none⟩ 1 1 [.int .i64 (leAt ls q).a, .int .i64 (leAt ls q).l] rfl rfl ?_ (by simp[Value.oneCell']) (by unfold maxLen;omega) (by omega) (by simp;omega) ?_
   ·intro j u hj;rcases j with _|_|j
    ·simp at hj;subst hj;simp[Addr.add]
    ·simp at hj;subst hj;simp[Addr.add]
    ·simp at hj
   ·intro v' w5 hown' hgrow' _;obtain⟨x5,k5,rfl,f5,y5,hb5,hO5⟩:=dK.append hO1 hown' hgrow';clear hown' hgrow' c0 c1 c2 c3 c4 o2;go_wp2;go_roundw
    case rel=>exact⟨q+1,_,x5,k5,hlt',by go_num,(by rw[hnx.out,<-ho.out];rfl),hO5⟩
    case measure=>simp[intOf];omega
  ·obtain rfl:q=n:=by omega
   obtain⟨o0,o1,o2, -⟩:=FJ hO.1;have hBr:=dK.base hO;have hR2:=(hBr.block _ hR1).trans hR;obtain⟨r0,r1,r2,z0,z1,z2⟩:=FJ hR2;obtain⟨hp7,hf7⟩:=dK.ps hO;have hall:Hid (o=lp ls):=by unfold Hid;rw[ho.out,<-hpl,<-qB];exact List.take_length
   have hB2:=hB.trans (hBr.mono hB.size);go_wp2;refine bodyPost_ret (v:= .agg #[.int .i64 a, .int .i64 l, .slice xo o.length k]) (by simp[results,Tryz.results82,go_sem,r0,r1,r2]) rfl ?_;unfold lV;refine⟨xo,k,by rw[hol.out],xL hB2 (by omega) _ _ _,?_⟩;rw[<-hall.out];rw[hol.out]at hp7;exact hp7.set3 (fun q hq=>by have:=hf7 q hq;omega) _ _ _
theorem rD(p:Po)(w:World)(hp:LS w p.x p.n p.ls)(hn:p.n<=1048576):
  Calls Tryz.prog 33 #[.agg #[.int .i64 p.id, .int .i64 p.up, .int .i64 p.a, .int .i64 p.l, .int .i64 p.mn, .int .i64 p.mx, .int .i64 p.us, .int .i64 p.co, .slice p.x p.n p.c]] w (lV p.a p.l p.n p.ls w):=by
 obtain⟨i0,hi,hz0,hz1,hz2⟩:=qV;obtain⟨id,up,a,l,mn,mx,us,co,x,n,c,ls⟩:=p;simp only at hp hn⊢;have hpl:=hp.len;go_enter Tryz.func33,Tryz.ntmps33;go_upto_region 1 with fail
 have hB:=bP w (.cells #[.int .i64 id, .int .i64 up, .int .i64 a, .int .i64 l, .int .i64 mn, .int .i64 mx, .int .i64 us, .int .i64 co, .slice x n c] 64) (.cells #[.int .i64 0, .int .i64 0, .slice none 0 0] 98);have hP:((w.alloc (.cells #[.int .i64 id, .int .i64 up, .int .i64 a, .int .i64 l, .int .i64 mn, .int .i64 mx, .int .i64 us, .int .i64 co, .slice x n c] 64)).alloc (.cells #[.int .i64 0, .int .i64 0, .slice none 0 0] 98)).heap[w.heap.size]?=some (.cells #[.int .i64 id, .int .i64 up, .int .i64 a, .int .i64 l, .int .i64 mn, .int .i64 mx, .int .i64 us, .int .i64 co, .slice x n c] 64):=aH _ (aB _ rfl);have hR:((w.alloc (.cells #[.int .i64 id, .int .i64 up, .int .i64 a, .int .i64 l, .int .i64 mn, .int .i64 mx, .int .i64 us, .int .i64 co, .slice x n c] 64)).alloc (.cells #[.int .i64 0, .int .i64 0, .slice none 0 0] 98)).heap[w.heap.size+1]?=some (.cells #[.int .i64 0, .int .i64 0, .slice none 0 0] 98):=aB _ (by simp);generalize(w.alloc (.cells #[.int .i64 id, .int .i64 up, .int .i64 a, .int .i64 l, .int .i64 mn, .int .i64 mx, .int .i64 us, .int .i64 co, .slice x n c] 64)).alloc (.cells #[.int .i64 0, .int .i64 0, .slice none 0 0] 98)=w1 at hB hP hR⊢;have p2:w1.cell? ⟨w.heap.size,2,none⟩=some (.int .i64 a):=by simp[World.cell?,hP]
 have p3:w1.cell? ⟨w.heap.size,3,none⟩=some (.int .i64 l):=by simp[World.cell?,hP]
 have p8:∀o,(w1.alloc o).cell? ⟨w.heap.size,8,none⟩=some (.slice x n c):=fun o=>cell_later (bl1 w1 o) (by simp[World.cell?,hP]);have hR1:=(zG hR);go_wp2;clear p2 p3 p8;go_loopw [4] (fun i wr=>∃(q:Nat) (o:List (Int×Int)) (xo:Option Addr) (k:Nat),q<=n/\i= .int .i64 q/\Hid (o=(lp ls).take q)/\dK w1 wr a l o xo k) (fun i _=>n- (intOf i).toNat)
 case atStart=>exact⟨0,[],none,0,by omega,rfl,by unfold Hid;simp,dK.start w1 a l⟩
 case round=>
  obtain⟨q,o,xo,k,hq,rfl,ho,hO⟩:=hrel
  have hol:Hid (o.length=q):=by unfold Hid;rw[ho.out,List.length_take,qB];omega
  have hob:o.length<=n:=by rw[hol.out];exact hq
  by_cases hlt:q<n
  ·obtain⟨b,of,rfl,c0,c1,c2,c3,c4⟩:=((hp.later hB).later (dK.base hO)).cells q hlt;have hlt':=hlt;have hnx:Hid ((lp ls).take (q+1)=(lp ls).take q++[((leAt ls q).a,(leAt ls q).l)]):=K6 (by omega);have hBr:=dK.base hO;have hPr:=(hBr.block _ (zG hP)).trans hP;have p8:wr.cell? ⟨w.heap.size,8,none⟩=some (.slice (some ⟨b,of,none⟩) n c):=by simp[World.cell?,hPr]
   obtain⟨-, -,o2, -, -,y2⟩:=FJ hO.1;have k2:∀e,(wr.alloc e).cell? ⟨w1.heap.size,2,none⟩=some (.slice xo o.length k):=fun e=>cell_later (bl1 wr e) o2;have hwl:=(zG hO.1);go_upto_region 5 with fail
   go_region_law (refine wB rfl (.tmp 16) (.tmp 23) 96 rfl (w1.heap.size+1) 53 i0 (.agg #[.int .i64 0, .int .i64 0]) 2 16 nF hi hz0 hz1 hz2 rfl (by decide) (.slice xo o.length k) o.length (sV o) rfl (hO.2.1.alloc _) ⟨wr.heap.size,0,none⟩ 1 1 [.int .i64 (leAt ls q).a, .int .i64 (leAt ls q).l] rfl rfl ?_ (by simp[Value.oneCell']) (by unfold maxLen;omega) (by omega) (by simp;omega) ?_;(intro j u hj;rcases j with _|_|j<;>simp at hj<;>subst hj<;>simp[Addr.add]);intro v' w5 hown' hgrow;obtain⟨x5,c5,rfl,f5,y5,hb5,hO5⟩:=dK.append hO hown' (IQ hgrow))
   all_goals go_wp2
   all_goals go_roundw
   all_goals first|exact⟨q+1,_,x5,c5,hlt',by go_num,(by rw[hnx.out,<-ho.out];rfl),hO5⟩|(simp[intOf];omega)
  ·obtain rfl:q=n:=by omega
   obtain⟨o0,o1,o2, -⟩:=FJ hO.1;have hBr:=dK.base hO;have hPr:=(hBr.block _ (zG hP)).trans hP;have p8:wr.cell? ⟨w.heap.size,8,none⟩=some (.slice x q c):=by simp[World.cell?,hPr]
   have hR2:=(hBr.block _ hR1).trans hR;obtain⟨r0,r1,r2,z0,z1,z2⟩:=FJ hR2;obtain⟨hp7,hf7⟩:=dK.ps hO;have hall:Hid (o=lp ls):=by unfold Hid;rw[ho.out,<-hpl,<-qB];exact List.take_length
   have hB2:=hB.trans (hBr.mono hB.size);go_wp2;refine bodyPost_ret (v:= .agg #[.int .i64 a, .int .i64 l, .slice xo o.length k]) (by simp[results,Tryz.results33,go_sem,r0,r1,r2]) rfl ?_;unfold lV;refine⟨xo,k,by rw[hol.out],xL hB2 (by omega) _ _ _,?_⟩;rw[<-hall.out];rw[hol.out]at hp7;exact hp7.set3 (fun q hq=>by have:=hf7 q hq;omega) _ _ _
def lW(ps:List Po)(c m:Int)(i:Nat):Bool:=((poAt ps i).up==0)&&eD (poAt ps i).a (poAt ps i).l c m
theorem A5(c m:Int)(p:Po)(b:Nat)(w:World)(h0:w.cell? ⟨b,0,none⟩=some (.int .i64 c))(h1:w.cell? ⟨b,1,none⟩=some (.int .i64 m)):
  Calls Tryz.prog 117 #[.agg #[.int .i64 p.id, .int .i64 p.up, .int .i64 p.a, .int .i64 p.l, .int .i64 p.mn, .int .i64 p.mx, .int .i64 p.us, .int .i64 p.co, .slice p.x p.n p.c], .pointer (some ⟨b,0,none⟩)] w fun e w'=>e= .returned (.bool ((p.up==0)&&eD p.a p.l c m))/\Below w.heap.size w w':=by
 have k0:∀q,(w.alloc q).cell? ⟨b,0,none⟩=some (.int .i64 c):=fun q=>cell_later (bl1 w q) h0;have k1:∀q,(w.alloc q).cell? ⟨b,1,none⟩=some (.int .i64 m):=fun q=>cell_later (bl1 w q) h1
 cases hk:(p.up==0)
 ·go_enter Tryz.func117,Tryz.ntmps117;go_wp2;go_ret;exact⟨rfl,bl1 w _⟩
 ·go_enter Tryz.func117,Tryz.ntmps117;go_wp2_with (go_at_call 118;refine(meets_any _ _ _ _ _).mono ?_;rintro e w1 ⟨rfl,hb1⟩);go_ret;exact⟨rfl,(bl1 w _).trans (hb1.mono (by simp))⟩
theorem xO(args:Array Value)(W:World):(callFunc 117 args).run Tryz.prog W= .ok (.enter 117 args) W:=by simp[go_sem]
theorem FW(c m:Int)(b n:Nat)(ps:List Po)(w:World)(h0:w.cell? ⟨b,0,none⟩=some (.int .i64 c))(h1:w.cell? ⟨b,1,none⟩=some (.int .i64 m)):
  xM 117 #[.pointer (some ⟨b,0,none⟩)] n ps (lW ps c m) w:=fun i _ W hW=>A5 c m (poAt ps i) b W (cell_later hW h0) (cell_later hW h1)
theorem rE(c m:Int)(x:Option Addr)(n k:Nat)(ps:List Po)(w:World)(hp:kS w x n ps)(hn:n<=64):
  Calls Tryz.prog 80 #[.slice x n k, .agg #[.int .i64 c, .int .i64 m]] w fun e w'=>e= .returned (.bool (anyAt n (lW ps c m)))/\Below w.heap.size w w':=by
 go_enter Tryz.func80,Tryz.ntmps80;go_wp2_with fail;refine(jD 117 _ x n k ps _ _ (hp.later (bl1 w _)) hn (FW c m w.heap.size n ps _ (by simp) (by simp)) xO).mono ?_;rintro e w1 ⟨rfl,hb1⟩;go_wp2;go_ret;exact⟨rfl,(bl1 w _).trans (hb1.mono (by simp))⟩
theorem DM(p:Po)(w:World):
  Calls Tryz.prog 78 #[.agg #[.int .i64 p.id, .int .i64 p.up, .int .i64 p.a, .int .i64 p.l, .int .i64 p.mn, .int .i64 p.mx, .int .i64 p.us, .int .i64 p.co, .slice p.x p.n p.c]] w fun e w'=>e= .returned (.bool (!bV p.id 1 65536))/\Below w.heap.size w w':=by
 go_enter Tryz.func78,Tryz.ntmps78;go_wp2_with (go_at_call 79;refine(isId_any _ _).mono ?_;rintro e w1 ⟨rfl,rfl⟩);go_ret;exact⟨rfl,bl1 w _⟩
theorem A6(args:Array Value)(W:World):(callFunc 78 args).run Tryz.prog W= .ok (.enter 78 args) W:=by simp[go_sem]
theorem IW(n:Nat)(ps:List Po)(w:World):xM 78 #[] n ps (fun i=>!bV (poAt ps i).id 1 65536) w:=fun i _ W _=>DM (poAt ps i) W
theorem rF(p r:Po)(v:Int)(hv:FC p.id r.id v)(bb kk:Nat)(w:World)(hby:w.cell? ⟨bb,0,none⟩=some (.func (.func 76) #[] #[])):
  Calls Tryz.prog 115 #[.agg #[.int .i64 p.id, .int .i64 p.up, .int .i64 p.a, .int .i64 p.l, .int .i64 p.mn, .int .i64 p.mx, .int .i64 p.us, .int .i64 p.co, .slice p.x p.n p.c], .agg #[.int .i64 r.id, .int .i64 r.up, .int .i64 r.a, .int .i64 r.l, .int .i64 r.mn, .int .i64 r.mx, .int .i64 r.us, .int .i64 r.co, .slice r.x r.n r.c], .slice (some ⟨bb,0,none⟩) 1 kk] w fun e w'=>e= .returned (.int .i64 v)/\Below w.heap.size w w':=MU.2.1 bys.2.1 p r v hv bb kk w hby
def jE(ps:List Po)(i:Nat):Bool:=i==0||decide ((poAt ps (i- 1)).id<(poAt ps i).id)
def iG(ps:List Po):Bool:=(List.range ps.length).all (jE ps)
theorem IX(h:∀j,j<ps.length->jE ps j=true):iG ps=true:=by
 unfold iG;rw[List.all_eq_true];intro j hj;exact h j (by simpa using hj)
theorem IY(x:Option Addr)(n c:Nat)(ps:List Po)(bb kk:Nat)(w:World)(hp:kS w x n ps)(hn:n<=64)(hby:w.cell? ⟨bb,0,none⟩=some (.func (.func 76) #[] #[])):
  Calls Tryz.prog 75 #[.slice x n c, .slice (some ⟨bb,0,none⟩) 1 kk] w fun e w'=>e= .returned (.bool (iG ps))/\Below w.heap.size w w':=by
 refine(B7.1 (poAt ps) (fun i=>decide ((poAt ps i).id<(poAt ps (i+1)).id)) x n c bb 1 kk w hn (fun i hi=>?_) (fun i hi=>?_)).mono ?_
 ·obtain⟨b,o,hx,d0,d1,d2,d3,d4,d5,d6,d7,d8⟩:=hp.cells i hi;exact⟨b,o,hx,by rintro(_|_|_|_|_|_|_|_|_|q) hq<;>first|assumption|omega⟩
 ·obtain⟨v,hv,hd⟩:=sZ ((poAt ps i).id) ((poAt ps (i+1)).id);exact⟨v,hd,fun W hW=>rF _ _ v hv bb kk W (cell_later hW hby)⟩
 ·rintro e w1 ⟨t,rfl,hb,h⟩;exact⟨congrArg (fun t=>Ending.returned (.bool t)) ((oK (R:=jE ps) rfl (fun _=>rfl) h).trans (by rw[<-hp.len];rfl)),hb⟩
def kV(n:Nat)(ps:List Po):Bool:=iG ps&&!anyAt n (fun i=>!bV (poAt ps i).id 1 65536)
theorem FX(x:Option Addr)(n c:Nat)(ps:List Po)(w:World)(hp:kS w x n ps)(hn:n<=64):
  Calls Tryz.prog 48 #[.slice x n c] w fun e w'=>e= .returned (.bool (kV n ps))/\Below w.heap.size w w':=by
 unfold kV;go_enter Tryz.func48,Tryz.ntmps48;go_wp2_with fail;refine(IY x n c ps w.heap.size 1 _ (hp.later (bl1 w _)) hn (by simp)).mono ?_;rintro e w1 ⟨rfl,hb1⟩;have hB:=(bl1 w _).trans (hb1.mono (by simp));clear hb1
 cases hr:iG ps
 ·go_wp2;go_ret;exact⟨aI (by rw[hr];rfl),hB⟩
 ·go_wp2_with fail;refine(jD 78 #[] x n c ps _ _ (hp.later hB) hn (IW n ps _) A6).mono ?_;rintro e w2 ⟨rfl,hb2⟩;go_wp2;go_ret;exact⟨aI (by rw[hr];simp),hB.trans (hb2.mono hB.size)⟩
theorem aD(h:V.heap[b]?=some (.cells cs t)):(∀j,V.cell? ⟨b,j,none⟩=cs[j]?)/\(∀j,V.frozen? ⟨b,j,none⟩=false):=by
 refine⟨fun j=>?_,fun j=>?_⟩
 ·simp[World.cell?,h]
 ·simp[World.frozen?,h]
theorem aO(h:w.heap[b]?=some (.cells cs t))(i:Nat)(hv:cs[i]?=some v):w.cell? ⟨b,i,none⟩=some v:=((aD h).1 i).trans hv
theorem aZ(h:w.heap[b]?=some (.cells cs t))(h0:cs[0]?=some v0)(h1:cs[1]?=some v1):w.cell? ⟨b,0,none⟩=some v0/\w.cell? ⟨b,1,none⟩=some v1:=⟨aO h 0 h0,aO h 1 h1⟩
theorem bZ(h:w.heap[b]?=some (.cells cs t))(h0:cs[0]?=some v0)(h1:cs[1]?=some v1)(h2:cs[2]?=some v2):w.cell? ⟨b,0,none⟩=some v0/\w.cell? ⟨b,1,none⟩=some v1/\w.cell? ⟨b,2,none⟩=some v2:=⟨aO h 0 h0,aO h 1 h1,aO h 2 h2⟩
theorem fW(h:w.heap[b]?=some (.cells cs t))(h0:cs[0]?=some v0)(h1:cs[1]?=some v1)(h2:cs[2]?=some v2)(h3:cs[3]?=some v3):w.cell? ⟨b,0,none⟩=some v0/\w.cell? ⟨b,1,none⟩=some v1/\w.cell? ⟨b,2,none⟩=some v2/\w.cell? ⟨b,3,none⟩=some v3:=⟨aO h 0 h0,aO h 1 h1,aO h 2 h2,aO h 3 h3⟩
theorem bx5(h:w.heap[b]?=some (.cells cs t))(h0:cs[0]?=some v0)(h1:cs[1]?=some v1)(h2:cs[2]?=some v2)(h3:cs[3]?=some v3)(h4:cs[4]?=some v4):w.cell? ⟨b,0,none⟩=some v0/\w.cell? ⟨b,1,none⟩=some v1/\w.cell? ⟨b,2,none⟩=some v2/\w.cell? ⟨b,3,none⟩=some v3/\w.cell? ⟨b,4,none⟩=some v4:=⟨aO h 0 h0,aO h 1 h1,aO h 2 h2,aO h 3 h3,aO h 4 h4⟩
theorem bx9(h:w.heap[b]?=some (.cells cs t))(h0:cs[0]?=some v0)(h1:cs[1]?=some v1)(h2:cs[2]?=some v2)(h3:cs[3]?=some v3)(h4:cs[4]?=some v4)(h5:cs[5]?=some v5)(h6:cs[6]?=some v6)(h7:cs[7]?=some v7)(h8:cs[8]?=some v8):w.cell? ⟨b,0,none⟩=some v0/\w.cell? ⟨b,1,none⟩=some v1/\w.cell? ⟨b,2,none⟩=some v2/\w.cell? ⟨b,3,none⟩=some v3/\w.cell? ⟨b,4,none⟩=some v4/\w.cell? ⟨b,5,none⟩=some v5/\w.cell? ⟨b,6,none⟩=some v6/\w.cell? ⟨b,7,none⟩=some v7/\w.cell? ⟨b,8,none⟩=some v8:=⟨aO h 0 h0,aO h 1 h1,aO h 2 h2,aO h 3 h3,aO h 4 h4,aO h 5 h5,aO h 6 h6,aO h 7 h7,aO h 8 h8⟩
theorem DN{v9:Value}(h:w.heap[b]?=some (.cells cs t))(h0:cs[0]?=some v0)(h1:cs[1]?=some v1)(h2:cs[2]?=some v2)(h3:cs[3]?=some v3)(h4:cs[4]?=some v4)(h5:cs[5]?=some v5)(h6:cs[6]?=some v6)(h7:cs[7]?=some v7)(h8:cs[8]?=some v8)(h9:cs[9]?=some v9):w.cell? ⟨b,0,none⟩=some v0/\w.cell? ⟨b,1,none⟩=some v1/\w.cell? ⟨b,2,none⟩=some v2/\w.cell? ⟨b,3,none⟩=some v3/\w.cell? ⟨b,4,none⟩=some v4/\w.cell? ⟨b,5,none⟩=some v5/\w.cell? ⟨b,6,none⟩=some v6/\w.cell? ⟨b,7,none⟩=some v7/\w.cell? ⟨b,8,none⟩=some v8/\w.cell? ⟨b,9,none⟩=some v9:=⟨aO h 0 h0,aO h 1 h1,aO h 2 h2,aO h 3 h3,aO h 4 h4,aO h 5 h5,aO h 6 h6,aO h 7 h7,aO h 8 h8,aO h 9 h9⟩
theorem eA(h:w.heap[b]?=some (.cells cs t)):w.frozen? ⟨b,0,none⟩=false/\w.frozen? ⟨b,1,none⟩=false:=⟨(aD h).2 0,(aD h).2 1⟩
theorem fB(h:w.heap[b]?=some (.cells cs t)):w.frozen? ⟨b,0,none⟩=false/\w.frozen? ⟨b,1,none⟩=false/\w.frozen? ⟨b,2,none⟩=false:=⟨(aD h).2 0,(aD h).2 1,(aD h).2 2⟩
theorem pG(h:w.heap[b]?=some (.cells cs t)):w.frozen? ⟨b,0,none⟩=false/\w.frozen? ⟨b,1,none⟩=false/\w.frozen? ⟨b,2,none⟩=false/\w.frozen? ⟨b,3,none⟩=false:=⟨(aD h).2 0,(aD h).2 1,(aD h).2 2,(aD h).2 3⟩
theorem bz5(h:w.heap[b]?=some (.cells cs t)):w.frozen? ⟨b,0,none⟩=false/\w.frozen? ⟨b,1,none⟩=false/\w.frozen? ⟨b,2,none⟩=false/\w.frozen? ⟨b,3,none⟩=false/\w.frozen? ⟨b,4,none⟩=false:=⟨(aD h).2 0,(aD h).2 1,(aD h).2 2,(aD h).2 3,(aD h).2 4⟩
theorem aA{o:Obj}(hb:Below V.heap.size V V')(h:V.heap[b]?=some o):V'.heap[b]?=some o:=(hb.block _ (zG h)).trans h
abbrev IZ(p:Po):Value:= .agg #[.int .i64 p.id, .int .i64 p.up, .int .i64 p.a, .int .i64 p.l, .int .i64 p.mn, .int .i64 p.mx, .int .i64 p.us, .int .i64 p.co, .slice p.x p.n p.c]
abbrev oL(p:Po):Obj:= .cells #[.int .i64 p.id, .int .i64 p.up, .int .i64 p.a, .int .i64 p.l, .int .i64 p.mn, .int .i64 p.mx, .int .i64 p.us, .int .i64 p.co, .slice p.x p.n p.c] 64
theorem bJ(h:i<ps.length):poAt ps i=ps[i]:=by simp[poAt,List.getD_eq_getElem?_getD,h]
theorem tA(h:j<i):poAt (ps.take i) j=poAt ps j:=by
 unfold poAt;rw[zF,zF,List.getElem?_take_of_lt h]
theorem kS.take(h:kS w x n ps)(hi:i<=n):kS w x i (ps.take i) where
 len:=by rw[List.length_take,h.len];omega
 cells:=fun j hj=>by rw[tA hj];exact h.cells j (by omega)
 leases:=fun j hj=>by rw[tA hj];exact h.leases j (by omega)
theorem tB(h:∀j,j<n->f j=g j):anyAt n f=anyAt n g:=by
 cases hg:anyAt n g
 ·refine dD fun j hj=>?_;rw[h j hj]
  cases hgj:g j
  ·rfl
  ·rw[aW hj hgj]at hg;cases hg
 ·unfold anyAt at hg⊢;rw[List.any_eq_true]at hg⊢;obtain⟨j,hj,hgj⟩:=hg;exact⟨j,hj,by rw[h j (by simpa using hj)];exact hgj⟩
def lX(ps:List Po)(i:Nat):Bool:=!(((poAt ps i).up==0)&&anyAt i (lW ps (poAt ps i).a (poAt ps i).l))
def fX(ps:List Po):Bool:=(List.range ps.length).all (lX ps)
theorem U5(hk:k<ps.length)(h:lX ps k=false):fX ps=false:=by
 unfold fX;rw[List.all_eq_false];exact⟨k,by simpa using hk,by simp[h]⟩
theorem FY(h:∀j,j<ps.length->lX ps j=true):fX ps=true:=by
 unfold fX;rw[List.all_eq_true];intro j hj;exact h j (by simpa using hj)
theorem FZ(ps:List Po)(i:Nat)(x:Option Addr)(n k:Nat)(w:World)(t:Bool)(hp:kS w x n ps)(hi:i<=n)(hn:n<=64)(c m:Int)(h:anyAt i (lW ps c m)=t):
  Calls Tryz.prog 80 #[.slice x i k, .agg #[.int .i64 c, .int .i64 m]] w fun e w'=>e= .returned (.bool t)/\Below w.heap.size w w':=by
 have hm:=rE c m x i k (ps.take i) w (hp.take hi) (by omega);rw[tB (f:=lW (ps.take i) c m) (g:=lW ps c m) (fun j hj=>by unfold lW;rw[tA hj]),h]at hm;exact hm
theorem A7(x:Option Addr)(n c:Nat)(ps:List Po)(w:World)(hp:kS w x n ps)(hn:n<=64)(hnc:n<=c)(hc63:c<=9223372036854775807):
  Calls Tryz.prog 49 #[.slice x n c] w fun e w'=>e= .returned (.bool (fX ps))/\Below w.heap.size w w':=by
 have hpl:Hid (ps.length=n):=hp.len;go_enter Tryz.func49,Tryz.ntmps49;go_wp2;go_loopw [7] (fun i wr=>∃k:Nat,k<=n/\i= .int .i64 k/\Below w.heap.size w wr/\(∀j,j<k->lX ps j=true)) (fun i _=>n- (intOf i).toNat)
 case atStart=>exact⟨0,by omega,rfl,zD,fun j hj=>by omega⟩
 case round=>
  obtain⟨k,hk,rfl,hB,hok⟩:=hrel
  by_cases hlt:k<n
  ·have hpr:=hp.later hB;obtain⟨b,o,rfl,c0,c1,c2,c3,c4,c5,c6,c7,c8⟩:=hpr.cells k hlt;have hlt':=hlt;have hta:Hid (lX ps k=!(((poAt ps k).up==0)&&anyAt k (lW ps (poAt ps k).a (poAt ps k).l))):=rfl;go_upto_region 4 with fail
   obtain⟨w2,hw2⟩:∃w2,w2=wr.alloc (oL (poAt ps k)):=⟨_,rfl⟩;rw[<-hw2];have h02:Below wr.heap.size wr w2:=by rw[hw2];exact bl1 wr _
   have hbox:w2.heap[wr.heap.size]?=some (oL (poAt ps k)):=by rw[hw2];exact aB _ rfl
   clear hw2 c0 c1 c2 c3 c4 c5 c6 c7 c8;have hp2:=hpr.later h02;obtain⟨hcl, -⟩:=aD hbox;have g1:=Ws.here (v:= .int .i64 (poAt ps k).up) (hcl 1);have g2:=Ws.here (v:= .int .i64 (poAt ps k).a) (hcl 2);have g3:=Ws.here (v:= .int .i64 (poAt ps k).l) (hcl 3);clear hcl
   cases hu:((poAt ps k).up==0)
   ·refine aE w2.heap.size (by kernel_rfl) (by kernel_rfl) ?_;repeat(go_big_quiet_step (fail))
    refine wpQuiet_nil ?_;rintro _ ⟨u,rfl⟩;have hB2:=hB.trans (h02.mono hB.size);have hu2:=hB2.trans (u.property.mono hB2.size);generalize u.val=wu at hu2⊢;clear u g1 g2 g3;go_wp2;go_roundw
    case rel=>exact⟨k+1,hlt',by go_num,hu2,fun j hj=>by
     by_cases hj2:j<k
     ·exact hok j hj2
     ·obtain rfl:j=k:=by omega
      rw[hta.out,hu];rfl⟩
    case measure=>simp[intOf];omega
   ·cases ha:anyAt k (lW ps (poAt ps k).a (poAt ps k).l);all_goals refine aE w2.heap.size (by kernel_rfl) (by kernel_rfl) ?_
    all_goals repeat(go_big_quiet_step ((go_at_call 80;exact Calls.in_ws (zE) (FZ ps k _ n _ _ _ (hp2.later (Ws.property _)) (by omega) hn _ _ ha))))
    all_goals refine wpQuiet_nil ?_
    all_goals rintro _ ⟨u,rfl⟩
    all_goals have hB2:=hB.trans (h02.mono hB.size)
    all_goals have hu2:=hB2.trans (u.property.mono hB2.size)
    all_goals generalize u.val=wu at hu2⊢
    all_goals clear u g1 g2 g3
    ·go_wp2;go_roundw
     case rel=>exact⟨k+1,hlt',by go_num,hu2,fun j hj=>by
      by_cases hj2:j<k
      ·exact hok j hj2
      ·obtain rfl:j=k:=by omega
       rw[hta.out,hu,ha];rfl⟩
     case measure=>simp[intOf];omega
    ·go_wp2;go_ret;exact⟨aI (U5 (by rw[hpl.out];exact hlt') (by rw[hta.out,hu,ha];rfl)).symm,hu2⟩
  ·obtain rfl:k=n:=by omega
   go_wp2;go_ret;exact⟨aI (FY (by rw[hpl.out];exact hok)).symm,hB⟩
def cE(n:Nat)(f:Nat->Bool):Int:=match(List.range n).find? f with |some i=>(i:Int)|none=> -1
theorem nM(hi:i<n)(h:f i=true)(hno:∀j,j<i->f j=false):cE n f=i:=by
 unfold cE;have hf:(List.range n).find? f=some i:=by
  rw[List.find?_range_eq_some];exact⟨h,by simpa using hi,fun j hj=>by simp[hno j hj]⟩
 rw[hf]
theorem qC(hno:∀j,j<n->f j=false):cE n f= -1:=by
 unfold cE;have hf:(List.range n).find? f=none:=by
  rw[List.find?_eq_none];intro j hj;simp[hno j (by simpa using hj)]
 rw[hf]
theorem F0(h:anyAt n f=true):∃i,i<n/\f i=true/\∀j,j<i->f j=false:=by
 induction n with
 |zero=>simp[anyAt]at h
 |succ n ih=>
  cases ha:anyAt n f
  ·refine⟨n,by omega,?_,fun j hj=>?_⟩
   ·unfold anyAt at h ha;rw[List.range_succ,List.any_append,ha]at h;simpa using h
   ·cases hj2:f j
    ·rfl
    ·rw[aW hj hj2]at ha;cases ha
  ·obtain⟨i,hi,h1,h2⟩:=ih ha;exact⟨i,by omega,h1,h2⟩
theorem firstAt_any:(anyAt n f=true/\∃i:Nat,i<n/\f i=true/\(∀j,j<i->f j=false)/\cE n f=i)\/(anyAt n f=false/\(∀j,j<n->f j=false)/\cE n f= -1):=by
 cases h:anyAt n f
 ·have hno:∀j,j<n->f j=false:=fun j hj=>by
   cases hj2:f j
   ·rfl
   ·rw[aW hj hj2]at h;cases h
  exact .inr ⟨rfl,hno,qC hno⟩
 ·obtain⟨i,h1,h2,h3⟩:=F0 h;exact .inl ⟨rfl,i,h1,h2,h3,nM h1 h2 h3⟩
theorem F1(id:Int)(p:Po)(w:World)(hp:LS w p.x p.n p.ls)(hn:p.n<=1048576):
  Calls Tryz.prog 122 #[IZ p, .int .i64 id] w fun e w'=>e= .returned (.int .i64 (cE p.n (fE p.ls id)))/\Below w.heap.size w w':=by
 refine(DL id p w hp hn).mono ?_;rintro e w' ⟨⟨r,rfl,hr⟩,hb⟩;rcases hr with ⟨i,hi,h1,h2,rfl⟩|⟨h1,rfl⟩
 ·exact⟨by rw[nM hi h1 h2],hb⟩
 ·exact⟨by rw[qC h1],hb⟩
theorem bW{id:Int}(h:¬aS ps id<0):∃i:Nat,i<ps.length/\aS ps id=i/\(poAt ps i).id=id:=by
 unfold aS at h⊢
 cases hf:ps.findIdx? (fun p=>p.id==id)with
 |none=>rw[hf]at h;simp at h
 |some i=>
  rw[List.findIdx?_eq_some_iff_getElem]at hf
  obtain⟨hi,h1, -⟩:=hf
  exact⟨i,hi,rfl,by rw[bJ hi];simpa using h1⟩
def lY(ps:List Po):Nat->Po->Bool
 |0,_=>false
 |f+1,p=>if p.up=0 then true else if aS ps p.up<0 then false else if anyAt (poAt ps (aS ps p.up).toNat).n (fE (poAt ps (aS ps p.up).toNat).ls p.id)=true then lY ps f (poAt ps (aS ps p.up).toNat)else false
theorem aBw{f:Nat}(h:p.up=0):lY ps (f+1) p=true:=by unfold lY;rw[if_pos h]
theorem K7{f:Nat}(h:p.up≠0)(h2:aS ps p.up<0):lY ps (f+1) p=false:=by unfold lY;rw[if_neg h,if_pos h2]
theorem QI{f:Nat}(h:p.up≠0)(h2:aS ps p.up=i)(h3:anyAt (poAt ps i).n (fE (poAt ps i).ls p.id)=false):lY ps (f+1) p=false:=by
 unfold lY;rw[if_neg h,h2,if_neg (by omega)];simp only[Int.toNat_natCast];rw[h3];rfl
theorem K8{f:Nat}(h:p.up≠0)(h2:aS ps p.up=i)(h3:anyAt (poAt ps i).n (fE (poAt ps i).ls p.id)=true):lY ps (f+1) p=lY ps f (poAt ps i):=by
 unfold lY;rw[if_neg h,h2,if_neg (by omega)];simp only[Int.toNat_natCast];rw[if_pos h3]
 cases f<;>rfl
theorem K9(q:Po)(h:V.heap[b]?=some (oL p)):((((((((((V).setCell ⟨b,0,none⟩ (.int .i64 q.id)).setCell ⟨b,1,none⟩ (.int .i64 q.up)).setCell ⟨b,2,none⟩ (.int .i64 q.a)).setCell ⟨b,3,none⟩ (.int .i64 q.l)).setCell ⟨b,4,none⟩ (.int .i64 q.mn)).setCell ⟨b,5,none⟩ (.int .i64 q.mx)).setCell ⟨b,6,none⟩ (.int .i64 q.us)).setCell ⟨b,7,none⟩ (.int .i64 q.co)).setCell ⟨b,8,none⟩ (.slice q.x q.n q.c)).heap[b]?=some (oL q):=by
 have h0:=heap_setCell_same V b 0 _ 64 (.int .i64 q.id) h;have h1:=heap_setCell_same _ b 1 _ 64 (.int .i64 q.up) h0;have h2:=heap_setCell_same _ b 2 _ 64 (.int .i64 q.a) h1;have h3:=heap_setCell_same _ b 3 _ 64 (.int .i64 q.l) h2;have h4:=heap_setCell_same _ b 4 _ 64 (.int .i64 q.mn) h3;have h5:=heap_setCell_same _ b 5 _ 64 (.int .i64 q.mx) h4;have h6:=heap_setCell_same _ b 6 _ 64 (.int .i64 q.us) h5;have h7:=heap_setCell_same _ b 7 _ 64 (.int .i64 q.co) h6;have h8:=heap_setCell_same _ b 8 _ 64 (.slice q.x q.n q.c) h7;simpa using h8
theorem B8(q:Po)(h:k≠b):((((((((((V).setCell ⟨b,0,none⟩ (.int .i64 q.id)).setCell ⟨b,1,none⟩ (.int .i64 q.up)).setCell ⟨b,2,none⟩ (.int .i64 q.a)).setCell ⟨b,3,none⟩ (.int .i64 q.l)).setCell ⟨b,4,none⟩ (.int .i64 q.mn)).setCell ⟨b,5,none⟩ (.int .i64 q.mx)).setCell ⟨b,6,none⟩ (.int .i64 q.us)).setCell ⟨b,7,none⟩ (.int .i64 q.co)).setCell ⟨b,8,none⟩ (.slice q.x q.n q.c)).heap[k]?=V.heap[k]?:=by
 rw[zB h,zB h,zB h,zB h,zB h,zB h,zB h,zB h,zB h]
theorem B9(q:Po)(h:Below w.heap.size w V)(hb:w.heap.size<=b):Below w.heap.size w ((((((((((V).setCell ⟨b,0,none⟩ (.int .i64 q.id)).setCell ⟨b,1,none⟩ (.int .i64 q.up)).setCell ⟨b,2,none⟩ (.int .i64 q.a)).setCell ⟨b,3,none⟩ (.int .i64 q.l)).setCell ⟨b,4,none⟩ (.int .i64 q.mn)).setCell ⟨b,5,none⟩ (.int .i64 q.mx)).setCell ⟨b,6,none⟩ (.int .i64 q.us)).setCell ⟨b,7,none⟩ (.int .i64 q.co)).setCell ⟨b,8,none⟩ (.slice q.x q.n q.c)):=
 ((((((((h.setCell hb _).setCell hb _).setCell hb _).setCell hb _).setCell hb _).setCell hb _).setCell hb _).setCell hb _).setCell hb _
theorem F2(t:Int)(x:Option Addr)(n c:Nat)(ps:List Po)(p:Po)(w:World)(hp:kS w x n ps)(hn:n<=64):
  Calls Tryz.prog 84 #[.agg #[.int .i64 t, .slice x n c],IZ p] w fun e w'=>e= .returned (.bool (lY ps n p))/\Below w.heap.size w w':=by
 have hpl:Hid (ps.length=n):=hp.len;go_enter Tryz.func84,Tryz.ntmps84;go_upto_region 1 with fail
 obtain⟨w0,hw0⟩:∃w0,w0=(w.alloc (.cells #[.int .i64 t, .slice x n c] 24)).alloc (oL p):=⟨_,rfl⟩;rw[<-hw0];have hB0:Below w.heap.size w w0:=by rw[hw0];exact bP w _ _
 have hb0:w0.heap[w.heap.size]?=some (.cells #[.int .i64 t, .slice x n c] 24):=by rw[hw0];exact aH _ (aB _ rfl)
 have hq0:w0.heap[w.heap.size+1]?=some (oL p):=by rw[hw0];exact aB _ (by simp)
 clear hw0;obtain⟨kb, -⟩:=aD hb0;go_wp2;clear kb;go_loopw [9] (fun i wr=>∃(k:Nat) (q:Po),k<=n/\i= .int .i64 k/\Hid (lY ps n p=lY ps (n- k) q)/\wr.heap[w.heap.size]?=some (.cells #[.int .i64 t, .slice x n c] 24)/\wr.heap[w.heap.size+1]?=some (oL q)/\Below w.heap.size w wr) (fun i _=>n- (intOf i).toNat)
 case atStart=>exact⟨0,p,by omega,rfl,rfl,hb0,hq0,hB0⟩
 case round=>
  obtain⟨k,q,hk,rfl,hup,hbb,hbq,hB⟩:=hrel
  clear hb0 hq0 hB0
  by_cases hlt:k<n
  ·have hlt':=hlt;obtain⟨f,hf⟩:∃f:Nat,Hid (n- k=f+1):=⟨n- k- 1,by unfold Hid;omega⟩;obtain⟨kb, -⟩:=aD hbb;obtain⟨kq,fq⟩:=aD hbq
   cases hu:(q.up==0)
   ·have hu':Hid (q.up≠0):=by unfold Hid;simpa using hu
    go_upto_region 6 with (go_at_call 121;refine(pplace_any t q.up x n c ps _ (hp.later hB) hn).mono ?_;rintro e w1 ⟨rfl,hb1⟩)
    have hbb1:=aA hb1 hbb;have hbq1:=aA hb1 hbq;have hB1:=hB.trans (hb1.mono hB.size);clear hb1 kb kq fq hbb hbq hB;obtain⟨kb, -⟩:=aD hbb1;obtain⟨kq,fq⟩:=aD hbq1;have g0:=Ws.here (v:= .slice x n c) (kb 1);have g1:=Ws.here (v:= .int .i64 q.id) (kq 0)
    cases hneg:decide (aS ps q.up<0)
    ·obtain⟨i,hi,hai, -⟩:=bW (ps:=ps) (id:=q.up) (by simpa using hneg);have hai':Hid (aS ps q.up=i):=hai;rw[hpl.out]at hi;have hpw:=hp.later hB1;obtain⟨b,o,rfl,c0,c1,c2,c3,c4,c5,c6,c7,c8⟩:=hpw.cells i hi;obtain⟨hl1,hl2,hl3⟩:=hpw.leases i hi;rw[hai];have hge:decide ((i:Int)<0)=false:=by simp
     clear hai hneg;have hi':=hi;have e0:=Ws.here c0;have e1:=Ws.here c1;have e2:=Ws.here c2;have e3:=Ws.here c3;have e4:=Ws.here c4;have e5:=Ws.here c5;have e6:=Ws.here c6;have e7:=Ws.here c7;have e8:=Ws.here c8;have hlf:=fun W h=>F1 q.id (poAt ps i) W h hl2
     cases ha:anyAt (poAt ps i).n (fE (poAt ps i).ls q.id)
     ·have hfb:decide (cE (poAt ps i).n (fE (poAt ps i).ls q.id)<0)=true:=by
       rcases firstAt_any (n:=(poAt ps i).n) (f:=fE (poAt ps i).ls q.id)with ⟨h1, -⟩|⟨-, -,h1⟩
       ·rw[ha]at h1;cases h1
       ·rw[h1];rfl
      refine aE w1.heap.size (by kernel_rfl) (by kernel_rfl) ?_;repeat(go_big_quiet_step ((go_at_call 122;exact Calls.in_ws (zE) (hlf _ (hl3.later (Ws.property _))))))
      refine wpQuiet_nil ?_;rintro _ ⟨u,rfl⟩;have hu2:=hB1.trans (u.property.mono hB1.size);generalize u.val=wu at hu2⊢;clear u g0 g1 e0 e1 e2 e3 e4 e5 e6 e7 e8 c0 c1 c2 c3 c4 c5 c6 c7 c8;go_wp2;go_ret;exact⟨aI (by rw[hup.out,hf.out,QI hu'.out hai'.out ha]),hu2⟩
     ·have hfb:decide (cE (poAt ps i).n (fE (poAt ps i).ls q.id)<0)=false:=by
       rcases firstAt_any (n:=(poAt ps i).n) (f:=fE (poAt ps i).ls q.id)with ⟨-,k', -, -, -,h1⟩|⟨h1, -⟩
       ·rw[h1];simp
       ·rw[ha]at h1;cases h1
      refine aE w1.heap.size (by kernel_rfl) (by kernel_rfl) ?_;repeat(go_big_quiet_step ((go_at_call 122;exact Calls.in_ws (zE) (hlf _ (hl3.later (Ws.property _))))))
      refine wpQuiet_nil ?_;rintro _ ⟨u,rfl⟩;have hu0:Below w1.heap.size w1 u.val:=u.property;generalize u.val=wu at hu0⊢;clear u g0 g1 e0 e1 e2 e3 e4 e5 e6 e7 e8 kb kq fq;have hu2:=hB1.trans (hu0.mono hB1.size);have hbb2:=aA hu0 hbb1;have hbq2:=aA hu0 hbq1;replace c0:=cell_later hu0 c0;replace c1:=cell_later hu0 c1;replace c2:=cell_later hu0 c2;replace c3:=cell_later hu0 c3;replace c4:=cell_later hu0 c4;replace c5:=cell_later hu0 c5;replace c6:=cell_later hu0 c6;replace c7:=cell_later hu0 c7;replace c8:=cell_later hu0 c8;obtain⟨kb, -⟩:=aD hbb2;obtain⟨kq,fq⟩:=aD hbq2;go_wp2;go_roundw
      case rel=>exact⟨k+1,poAt ps i,hlt',by go_num,by
       unfold Hid;rw[hup.out,hf.out,K8 hu'.out hai'.out ha];congr 1;have:=hf.out;omega,(B8 (poAt ps i) (by omega)).trans hbb2,K9 (poAt ps i) hbq2,B9 (poAt ps i) hu2 (by omega)⟩
      case measure=>simp[intOf];omega
    ·have hai':Hid (aS ps q.up<0):=by unfold Hid;simpa using hneg
     refine aE w1.heap.size (by kernel_rfl) (by kernel_rfl) ?_;repeat(go_big_quiet_step (fail))
     refine wpQuiet_nil ?_;rintro _ ⟨u,rfl⟩;have hu2:=hB1.trans (u.property.mono hB1.size);generalize u.val=wu at hu2⊢;clear u g0 g1;go_wp2;go_ret;exact⟨aI (by rw[hup.out,hf.out,K7 hu'.out hai'.out]),hu2⟩
   ·have hu':Hid (q.up=0):=by unfold Hid;simpa using hu
    go_wp2;go_ret;exact⟨aI (by rw[hup.out,hf.out,aBw hu'.out]),hB⟩
  ·obtain rfl:k=n:=by omega
   go_wp2;go_ret;exact⟨aI (by rw[hup.out,Nat.sub_self];rfl),hB⟩
end Go.Proofs.YtkgeoeglidnnnaaGreatDoor
