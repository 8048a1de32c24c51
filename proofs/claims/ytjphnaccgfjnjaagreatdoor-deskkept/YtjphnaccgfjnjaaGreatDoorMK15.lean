/- A part of the proof. -/
import Derived.Test.YtjphnaccgfjnjaaGreatDoorMK14
set_option maxRecDepth 100000
set_option maxHeartbeats 20000000
namespace Go.Proofs.YtjphnaccgfjnjaaGreatDoor
variable {w V w' w2 : World} {V' : List Vn} {r : Option Nat} {base g n cap k i f j i' sn rn : Nat} {v : Value} {xs : List Int} {ops : Array Oper} {rest : List Oper} {o : Oper} {a b ps qs : List Po} {Q : Exit → Act → World → Prop} {l : List Value} {c : Cm} {x0 x1 x2 x3 E e t u' up sub vid y E' y' : Int} {p q : Po} {x : Option Addr} {cs : List Cm} {ls : List Le} {L L' : List (Int × Int)} {s : dP} {C cd : Cd} {u : Vn} {rs : List Rg} {ss ts : List Sb}
open Go.RowKit
theorem dM{V':World}(h:Below w.heap.size w V)(g:V.grownBy V' r)(hr:∀k,r=some k->w.heap.size<=k):Below w.heap.size w V':=
 ⟨g.os.trans h.os,g.tape.trans h.tape,g.output.trans h.output,Nat.le_trans h.size g.size,fun j hj=>(g.block j (Nat.lt_of_lt_of_le hj h.size) (fun e=>by have:=hr j e.symm;omega)).trans (h.block j hj)⟩
theorem WQ:(Tryz.prog.info? 5).map (fun i=>(i.zero,i.size,i.bytes))=some (some (.int .u8 0),1,1):=by kernel_rfl
theorem BD:∃i,Tryz.prog.info? 5=some i/\i.zero=some (.int .u8 0)/\i.size=1/\i.bytes=1:=by
 obtain⟨i,hi,h⟩:=Option.map_eq_some_iff.1 WQ;simp only[Prod.mk.injEq]at h;exact⟨i,hi,h.1,h.2.1,h.2.2⟩
theorem kY:Tryz.prog.underlying 75=some (.slice 5):=by kernel_rfl
theorem IK:Tryz.prog.underlying 5=some (.int .u8):=by kernel_rfl
theorem vW:Tryz.prog.underlying 9=some .string:=by kernel_rfl
def OB(w:World)(base:Nat)(v:Value)(xs:List Int):Prop:=w.ownsRow base 5 1 v xs.length (xs.map (Value.int .u8))
theorem OB.nil(w:World)(base:Nat):OB w base (.slice none 0 0) []:=World.ownsRow_nil _ _ _ _
theorem OB.later(h:OB w base v xs)(hb:Below w.heap.size w w'):OB w' base v xs:=by
 refine World.ownsRow.kept h (eI hb) ?_
 cases hv:v.ownBlock
 ·exact .inl rfl
 ·exact .inr (by simp)
theorem OB.kept(h:OB w base v xs)(hg:w.grownBy w' (some g))(hne:∀k,v.ownBlock=some k->k≠g):OB w' base v xs:=by
 refine World.ownsRow.kept h hg ?_
 cases hv:v.ownBlock
 ·exact .inl rfl
 ·rename_i k;exact .inr fun e=>hne k hv (Option.some.inj e)
theorem OB.alloc(h:OB w base v xs)(o:Obj):OB (w.alloc o) base v xs:=World.ownsRow.alloc h o
theorem OB.one(w:World)(base k:Nat)(x:Int)(hk:k=w.heap.size)(hb:base<=k):OB (w.alloc (.cells #[.int .u8 x] 5)) base (.slice (some ⟨k,0,none⟩) 1 1) [x]:=by
 subst hk;exact⟨by simp, .inr ⟨w.heap.size,1,#[.int .u8 x],rfl,hb,heap_alloc_new w _,by simp,by unfold maxLen;simp,by simp,by simp⟩⟩
theorem OB.shape(h:OB w base v xs)(h0:xs≠[]):∃g cap cur,v= .slice (some ⟨g,0,none⟩) xs.length cap/\base<=g/\w.heap[g]?=some (.cells cur 5 (0,0))/\xs.length<=cap/\cur.size=cap/\cur.toList.take xs.length=xs.map (Value.int .u8):=by
 rcases h.2 with ⟨_,h1⟩|⟨g,cap,cur,h1,h2,h3,h4,_,h6,h7⟩
 ·exact absurd (List.eq_nil_of_length_eq_zero h1) h0
 ·exact⟨g,cap,cur,h1,h2,h3,h4,by simpa using h6,by simpa using h7⟩
theorem OB.cell(h:OB w base (.slice (some ⟨g,0,none⟩) n cap) xs)(i:Nat)(hi:i<xs.length):w.cell? ⟨g,i,none⟩=some (.int .u8 (qF xs i)):=by
 have:=World.ownsRow.cells h (g:=g) rfl i (.int .u8 (qF xs i)) (by simp[qF,hi]);rw[Addr.add_lit]at this;simpa using this
theorem OB.lt(h:OB w base v xs):∀k,v.ownBlock=some k->base<=k/\k<w.heap.size:=World.ownsRow.lt h
theorem OB.cells(h:OB w base (.slice (some ⟨g,0,none⟩) n cap) xs):∀i,i<xs.length->w.cell? ⟨g,i,none⟩=some (.int .u8 (qF xs i)):=fun i hi=>h.cell i hi
theorem gT{a:Act}(hgd:o.guard=none)(s x:Operand)
 (ho:o.op= .call {callee:= .builtin .append,args:=#[s,x],argTypes:=#[75,75]})(base:Nat)(v:Value)(xs:List Int)(hs:a.eval s=v)(hO:OB w base v xs)
 (g m c:Nat)(ys:List Int)(hx:a.eval x= .slice (some ⟨g,0,none⟩) m c)(hm:ys.length=m)(hy:∀i,i<ys.length->w.cell? ⟨g,i,none⟩=some (.int .u8 (qF ys i)))
 (hlen:xs.length+m<=140737488355328)(hbase:base<=w.heap.size)
 (h:∀v' w',OB w' base v' (xs++ys)->w.grownBy w' v.ownBlock->wpList Tryz.prog ops Q rest (a.put o.dst v') w'):wpList Tryz.prog ops Q (o::rest) a w:=by
 obtain⟨i0,hi,hz0,hz1,hz2⟩:=BD;subst hm;refine wpList_append_own w hgd s x 75 ho base 5 i0 (.int .u8 0) 1 1 kY hi hz0 hz1 hz2 rfl (by decide) v xs.length (xs.map (Value.int .u8)) hs hO ⟨g,0,none⟩ ys.length c (ys.map (Value.int .u8)) hx (by simp) ?_ ?_ (by unfold maxLen;omega) (by omega) hbase ?_
 ·intro j u hj;have hjl:j<ys.length:=by
   by_cases h:j<ys.length
   ·exact h
   ·rw[List.getElem?_eq_none (by simpa using h)]at hj;cases hj
  rw[Addr.add_lit,Nat.zero_add,hy j hjl];rw[List.getElem?_map,List.getElem?_eq_getElem hjl]at hj;simp only[Option.map_some,Option.some.injEq]at hj;rw[<-hj];simp[qF,hjl]
 ·intro u hu;obtain⟨_,_,rfl⟩:=List.mem_map.1 hu;rfl
 ·intro v' w' h1 h2 _;refine h v' w' ?_ h2;unfold OB;rw[List.map_append,List.length_append];exact h1
def bs(s:ByteArray):List Int:=s.data.toList.map fun b=>(b.toNat:Int)
theorem fD(s:ByteArray):(bs s).length=s.size:=by unfold bs;rw[List.length_map,Array.length_toList];rfl
theorem BE(s:ByteArray):BO (bs s):=fun x hx=>by
 obtain⟨b,_,rfl⟩:=List.mem_map.1 hx;have:=b.toNat_lt;omega
theorem IL(s:ByteArray):Lib.strCells s=(bs s).map (Value.int .u8):=by unfold Lib.strCells bs;rw[List.map_map];rfl
theorem ZY(s:ByteArray):strOfNums (bs s)=s:=by
 unfold strOfNums bs;rw[List.map_map];have:(s.data.toList.map ((fun n:Int=>UInt8.ofNat n.toNat)∘fun b:UInt8=>(b.toNat:Int)))=s.data.toList:=by
  rw[List.map_congr_left (g:=id) (fun b _=>by simp),List.map_id]
 rw[this]
theorem BF(h:BO xs):bs (strOfNums xs)=xs:=by
 unfold bs;rw[strOfNums_data,List.map_map];rw[List.map_congr_left (g:=id) (fun x hx=>?_),List.map_id];have:=h x hx;simp only[Function.comp,id];have e:(UInt8.ofNat x.toNat).toNat=x.toNat:=by rw[UInt8.toNat_ofNat'];omega
 rw[e];omega
theorem kZ{a:Act}(hgd:o.guard=none)(s x:Operand)
 (ho:o.op= .call {callee:= .builtin .append,args:=#[s,x],argTypes:=#[75,9]})(base:Nat)(v:Value)(xs:List Int)(hs:a.eval s=v)(hO:OB w base v xs)
 (t:ByteArray)(hx:a.eval x= .string t)(hlen:xs.length+t.size<=140737488355328)(hbase:base<=w.heap.size)
 (h:∀v' w',OB w' base v' (xs++bs t)->w.grownBy w' v.ownBlock->wpList Tryz.prog ops Q rest (a.put o.dst v') w'):wpList Tryz.prog ops Q (o::rest) a w:=by
 obtain⟨i0,hi,hz0,hz1,hz2⟩:=BD;obtain⟨v',w',hrun,r1,r2,_⟩:=Lib.run_append_own_string (P:=Tryz.prog) w base 75 9 o.type 5 i0 kY vW hi hz0 hz1 hz2 v xs.length (xs.map (Value.int .u8)) hO t (by unfold maxLen;omega) (by omega) hbase;refine wpList_plain hgd fun K hK=>?_;unfold Oper.wp;simp only[execOp,ho,resolve,invoke,builtin,Sem.run_bind,Sem.run_pure,Result.andThen_ok,List.map_toArray,zK,zM,hs,hx,hrun];refine hK _ _ (h v' w' ?_ r2);unfold OB;rw[List.map_append,List.length_append,fD,<-IL];exact r1
theorem OB.four{n:Int}(h:OB w base v (WN n)):∃g cap,v= .slice (some ⟨g,0,none⟩) 4 cap/\base<=g:=by
 obtain⟨g,cap, -,h1,h2, -⟩:=h.shape (by simp[WN]);exact⟨g,cap,h1,h2⟩
def sh(n:Int):Nat->Int
 |0=>n
 |k+1=>sh n k/256
def PL(n:Int):Nat->List Int
 |0=>[]
 |k+1=>PL n k++[sh n k%256]
theorem ZZ(n:Int):PL n 4=WN n:=by
 have h2:n/256/256=n/65536:=by omega
 have h3:n/65536/256=n/16777216:=by omega
 simp only[PL,sh,List.nil_append,List.cons_append,h2,h3];rfl
theorem IM(n:Int):∀k,(PL n k).length=k
 |0=>rfl
 |k+1=>by simp[PL,IM n k]
theorem IN{n:Int}(h0:0<=n)(h1:n<4294967296):∀k,0<=sh n k/\sh n k<4294967296
 |0=>⟨h0,h1⟩
 |k+1=>by
  have:=IN h0 h1 k;simp only[sh];omega
theorem lowFirst_any(n:Int)(w:World)(h0:0<=n)(h1:n<4294967296):
  Calls Tryz.prog 40 #[.int .u32 n] w fun e w'=>∃v,e= .returned v/\OB w' w.heap.size v (WN n)/\Below w.heap.size w w':=by
 obtain⟨i0,hi,hz0,hz1,hz2⟩:=BD;go_enter Tryz.func40,Tryz.ntmps40;go_wp2;go_loopw [0,3,4] (fun m v i wr=>∃k:Nat,k<=4/\i= .int .i64 k/\m= .int .u32 (sh n k)/\OB wr w.heap.size v (PL n k)/\Below w.heap.size w wr) (fun _ _ i _=>4- (intOf i).toNat)
 case atStart=>exact⟨0,by omega,rfl,rfl,OB.nil _ _,zD⟩
 case round=>
  obtain⟨k,hk,rfl,rfl,hO,hB⟩:=hrel
  have hs:=IN h0 h1 k
  have hll:=IM n k
  by_cases hlt:k<4
  ·have hlt':=hlt;go_wp2_with (at_builtin;refine Hid.out ?_);unfold Hid;refine gT rfl _ _ rfl w.heap.size _ _ rfl (hO.alloc _) wr.heap.size 1 1 [sh n k%256] rfl rfl (fun i hi=>?_) (by omega) (by have:=hB.size;simp;omega) ?_
   ·obtain rfl:i=0:=by simpa using hi
    simp[qF]
   ·intro v' w' hO' hg;have hB':=dM (hB.alloc hB.size _) hg (fun k e=>(hO.lt k e).1);go_wp2;go_roundw
    case rel=>exact⟨k+1,hlt',by go_num,rfl,hO',hB'⟩
    case measure=>simp[intOf];omega
  ·obtain rfl:k=4:=by omega
   go_wp2;go_ret;exact⟨_,rfl,by rw[<-ZZ];exact hO,hB⟩
def MK(w:World)(g:Nat)(x0 x1 x2 x3:Int):World:=
 ((((w.setCell ⟨g,0,none⟩ (.int .u8 x3)).setCell ⟨g,3,none⟩ (.int .u8 x0)).setCell ⟨g,1,none⟩ (.int .u8 x2)).setCell ⟨g,2,none⟩ (.int .u8 x1)).drew.drew
theorem T2(g cap:Nat)(x0 x1 x2 x3:Int)(w:World)(c0:w.cell? ⟨g,0,none⟩=some (.int .u8 x0))(c1:w.cell? ⟨g,1,none⟩=some (.int .u8 x1))(c2:w.cell? ⟨g,2,none⟩=some (.int .u8 x2))(c3:w.cell? ⟨g,3,none⟩=some (.int .u8 x3))
 (f0:w.frozen? ⟨g,0,none⟩=false)(f1:w.frozen? ⟨g,1,none⟩=false)(f2:w.frozen? ⟨g,2,none⟩=false)(f3:w.frozen? ⟨g,3,none⟩=false):
  Calls Tryz.prog 41 #[.slice (some ⟨g,0,none⟩) 4 cap] w fun e w'=>e= .returned (.tuple #[])/\w'=MK w g x0 x1 x2 x3:=by
 go_enter Tryz.func41,Tryz.ntmps41;go_wp2;refine wp_loop_rounds 3 ?_;rw[rounds_succ];go_wp2;go_region;go_wp2;rw[rounds_succ];go_wp2;go_region;go_wp2;rw[rounds_succ];go_wp2;go_end0;exact⟨rfl,rfl⟩
theorem IP(w:World)(g:Nat)(x0 x1 x2 x3:Int):w.grownBy (MK w g x0 x1 x2 x3) (some g):=by
 refine⟨rfl,rfl,rfl,by simp[MK],fun k _ hne=>?_⟩;have hk:k≠g:=fun e=>hne (by rw[e]);show((((w.setCell ⟨g,0,none⟩ (.int .u8 x3)).setCell ⟨g,3,none⟩ (.int .u8 x0)).setCell ⟨g,1,none⟩ (.int .u8 x2)).setCell ⟨g,2,none⟩ (.int .u8 x1)).heap[k]?=_;rw[zB hk,zB hk,zB hk,zB hk]
theorem Z0{a b c d:Value}(h:l.take 4=[a,b,c,d]):∃r,l=a::b::c::d::r:=by
 rcases l with _|⟨p,_|⟨q,_|⟨r,_|⟨s,t⟩⟩⟩⟩
 all_goals simp at h
 obtain⟨rfl,rfl,rfl,rfl⟩:=h;exact⟨t,rfl⟩
theorem PM(h:OB w base (.slice (some ⟨g,0,none⟩) 4 cap) [x0,x1,x2,x3]):OB (MK w g x0 x1 x2 x3) base (.slice (some ⟨g,0,none⟩) 4 cap) [x3,x2,x1,x0]:=by
 rcases h.2 with ⟨hv, -⟩|⟨g',cap',cur,hv,h1,h2,h3,h4,h5,h6⟩
 ·simp at hv
 ·simp only[Value.slice.injEq,Option.some.injEq,Addr.mk.injEq]at hv;obtain⟨⟨rfl, -⟩, -,rfl⟩:=hv;refine⟨rfl, .inr ⟨g,cap,(((cur.setIfInBounds 0 (.int .u8 x3)).setIfInBounds 3 (.int .u8 x0)).setIfInBounds 1 (.int .u8 x2)).setIfInBounds 2 (.int .u8 x1),rfl,h1,?_,h3,h4,by simpa using h5,?_⟩⟩
  ·have e0:=heap_setCell_same w g 0 _ 5 (.int .u8 x3) h2;have e1:=heap_setCell_same _ g 3 _ 5 (.int .u8 x0) e0;have e2:=heap_setCell_same _ g 1 _ 5 (.int .u8 x2) e1;exact heap_setCell_same _ g 2 _ 5 (.int .u8 x1) e2
  ·obtain⟨r,hr⟩:=Z0 h6;simp[hr]
theorem OB.frozen(h:OB w base (.slice (some ⟨g,0,none⟩) n cap) xs)(i:Nat):w.frozen? ⟨g,i,none⟩=false:=by
 rcases h.2 with ⟨hv, -⟩|⟨g',cap',cur,hv,h1,h2,h3,h4,h5,h6⟩
 ·simp at hv
 ·simp only[Value.slice.injEq,Option.some.injEq,Addr.mk.injEq]at hv;obtain⟨⟨rfl, -⟩, -,rfl⟩:=hv;simp[World.frozen?,h2]
theorem IQ(h:OB w base (.slice (some ⟨g,0,none⟩) 4 cap) [x0,x1,x2,x3]):
  Calls Tryz.prog 41 #[.slice (some ⟨g,0,none⟩) 4 cap] w fun e w'=>e= .returned (.tuple #[])/\OB w' base (.slice (some ⟨g,0,none⟩) 4 cap) [x3,x2,x1,x0]/\w.grownBy w' (some g):=by
 refine(T2 g cap x0 x1 x2 x3 w (h.cell 0 (by simp)) (h.cell 1 (by simp)) (h.cell 2 (by simp)) (h.cell 3 (by simp)) (h.frozen 0) (h.frozen 1) (h.frozen 2) (h.frozen 3)).mono ?_;rintro e w' ⟨rfl,rfl⟩;exact⟨rfl,PM h,IP _ _ _ _ _ _⟩
abbrev P1(c:Cm):Value:= .agg #[.int .i64 c.op, .int .i64 c.a, .int .i64 c.b, .int .i64 c.c, .int .i64 c.p, .int .i64 c.l, .int .i64 c.mn, .int .i64 c.mx, .int .i64 c.us, .int .i64 c.co]
abbrev nmV(c:Cm):Value:= .agg #[.int .i64 c.a, .int .i64 c.b, .int .i64 c.c, .int .i64 c.p, .int .i64 c.l, .int .i64 c.mn, .int .i64 c.mx, .int .i64 c.us, .int .i64 c.co]
theorem numbers_any(c:Cm)(w:World):
  Calls Tryz.prog 39 #[P1 c] w fun e w'=>e= .returned (nmV c)/\Below w.heap.size w w':=by
 go_enter Tryz.func39,Tryz.ntmps39;go_wp2;exact bodyPost_ret (v:=nmV c) (by simp[results,Tryz.results39,go_sem]) rfl ⟨rfl,bO w _ _⟩
theorem aDg(c:Cm)(k:Nat)(hk:k<9)(w:World):(Instr.index 105 (nmV c) (.int .i64 k)).run Tryz.prog w= .ok (.int .i64 (c.num k)) w:=by
 rcases k with _|_|_|_|_|_|_|_|_|k
 case succ.succ.succ.succ.succ.succ.succ.succ.succ=>omega
 all_goals kernel_rfl
def wrE(c:Cm):Int:=if okCm c=true then 0 else 3
def wrS(c:Cm):List Int:=if okCm c=true then cmdB c else[]
theorem mV{s t:ByteArray}{a b:Int}(h:s=t)(h2:a=b):Ending.returned (.tuple #[.string s, .int .i64 a])= .returned (.tuple #[.string t, .int .i64 b]):=by rw[h,h2]
theorem BG(h:okCm c=false):wrE c=3/\wrS c=[]:=by unfold wrE wrS;rw[h];exact⟨rfl,rfl⟩
theorem FM(h:okCm c=true):wrE c=0/\wrS c=cmdB c:=by unfold wrE wrS;rw[h];exact⟨rfl,rfl⟩
theorem rW(h:OB w base (.slice (some ⟨g,0,none⟩) n cap) xs)(hn:xs.length=n):(convert 75 9 (.slice (some ⟨g,0,none⟩) n cap)).run Tryz.prog w= .ok (.string (strOfNums xs)) w:=
 run_convert_bytes_arg w 75 5 kY IK g 0 n cap xs hn (fun i hi=>by rw[Nat.zero_add];exact h.cell i (by omega)) 9 vW
theorem T3(n:Int):[n%4294967296/16777216%256,n%4294967296/65536%256,n%4294967296/256%256,n%4294967296%256]=XS n:=by
 unfold XS;rw[show n%4294967296/16777216%256=n/16777216%256 by omega,show n%4294967296/65536%256=n/65536%256 by omega,show n%4294967296/256%256=n/256%256 by omega,show n%4294967296%256=n%256 by omega]
theorem DR(c:Cm)(w:World):
  Calls Tryz.prog 24 #[P1 c] w fun e w'=>e= .returned (.tuple #[.string (strOfNums (wrS c)), .int .i64 (wrE c)])/\Below w.heap.size w w':=by
 by_cases hout:c.op<0\/255<c.op
 ·obtain⟨e1,e2⟩:=BG (TY hout);rw[e1,e2];by_cases h1:c.op<0
  ·go_enter Tryz.func24,Tryz.ntmps24;go_wp2;go_ret2;exact⟨rfl,bl1 w _⟩
  ·have h2:255<c.op:=by omega
   go_enter Tryz.func24,Tryz.ntmps24;go_wp2;go_ret2;exact⟨rfl,bl1 w _⟩
 ·have h1:0<=c.op:=by omega
  have h2:c.op<=255:=by omega
  have hix:=aDg c;go_enter Tryz.func24,Tryz.ntmps24;go_wp2_with (go_at_call 39;refine(numbers_any c _).mono ?_;rintro e w1 ⟨rfl,hb1⟩);have hB0:Below w.heap.size w w1:=(bO w _ _).trans (hb1.mono (by simp;omega));have hO0:OB w1 w.heap.size (.slice (some ⟨w.heap.size+1,0,none⟩) 1 1) (lZ c 0):=by
   have e:lZ c 0=[c.op]:=by unfold lZ vP;rw[show c.op%256=c.op by omega]
   rw[e];exact(OB.one (w.alloc _) w.heap.size (w.heap.size+1) c.op (by simp) (by omega)).later hb1
  clear hb1;go_loopw [4,22] (fun v i wr=>∃k:Nat,k<=9/\i= .int .i64 k/\(∀j,j<k->FL (c.num j)=true)/\OB wr w.heap.size v (lZ c k)/\Below w.heap.size w wr) (fun _ i _=>9- (intOf i).toNat)
  case atStart=>exact⟨0,by omega,rfl,fun j hj=>by omega,hO0,hB0⟩
  case round=>
   obtain⟨k,hk,rfl,hf,hO,hB⟩:=hrel
   have hcl:(lZ c k).length<=37:=by rw[vQ];omega
   by_cases hlt:k<9
   ·have hlt':=hlt;have hixk:=hix k hlt
    cases hfk:FL (c.num k)
    ·by_cases h3:c.num k< -2147483648
     ·go_wp2;go_ret2;exact⟨mV (by rw[(BG (yD hlt' hfk)).2];rfl) (BG (yD hlt' hfk)).1.symm,hB⟩
     ·have h4:2147483647<c.num k:=by
       have:¬(-2147483648<=c.num k/\c.num k<=2147483647):=fun h=>by rw[A9.2 h]at hfk;cases hfk
       omega
      go_wp2;go_ret2;exact⟨mV (by rw[(BG (yD hlt' hfk)).2];rfl) (BG (yD hlt' hfk)).1.symm,hB⟩
    ·obtain⟨h3,h4⟩:=A9.1 hfk;go_wp2_with (first|(go_at_call 40;refine(lowFirst_any _ _ (by omega) (by omega)).mono ?_;rintro e w2 ⟨v2,rfl,hO2,hB2⟩)|(go_at_call 41;refine Hid.out ?_))
     unfold Hid;obtain⟨g2,cap2,rfl,hg2⟩:=hO2.four;refine(IQ hO2).mono ?_;rintro e w3 ⟨rfl,hO3,hg3⟩;have hB3:=dM (hB.trans (hB2.mono hB.size)) hg3 (fun j e=>by have:=hB.size;cases e;omega);have hOk:=(hO.later hB2).kept hg3 (fun j e=>by have:=(hO.lt j e).2;omega);go_wp2_with (at_builtin;refine Hid.out ?_);unfold Hid;refine gT rfl _ _ rfl w.heap.size _ _ rfl hOk g2 4 cap2 _ rfl rfl hO3.cells (by omega) hB3.size ?_;intro v' w' hO' hg;have hB':=dM hB3 hg (fun k e=>(hOk.lt k e).1);go_wp2;go_roundw
     case rel=>exact⟨k+1,hlt',by go_num,fun j hj=>by
      by_cases hj2:j<k
      ·exact hf j hj2
      ·obtain rfl:j=k:=by omega
       exact hfk,by rw[K5,<-T3];exact hO',hB'⟩
     case measure=>simp[intOf];omega
   ·obtain rfl:k=9:=by omega
    obtain⟨g,cap, -,rfl, -⟩:=hO.shape (by simp[lZ]);have hcv:=rW hO rfl;go_wp2;go_ret2;exact⟨mV (by rw[(FM (IH h1 h2 hf)).2];rfl) (FM (IH h1 h2 hf)).1.symm,hB⟩
theorem T4{k:IntKind}{a b:Int}(h:a=b):Ending.returned (.int k a)= .returned (.int k b):=by rw[h]
theorem T5{s:ByteArray}(hk:k<s.size):qF (bs s) k=(s[k].toNat:Int):=by
 unfold qF bs;have hk':k<s.data.toList.length:=by rw[Array.length_toList];exact hk
 rw[zF,List.getElem?_map,List.getElem?_eq_getElem hk'];rfl
def pre(xs:List Int):Nat->Int
 |0=>0
 |k+1=>256*pre xs k+qF xs k
theorem DS(h:BO xs):(0<=pre xs 0/\pre xs 0<1)/\(0<=pre xs 1/\pre xs 1<256)/\(0<=pre xs 2/\pre xs 2<65536)/\(0<=pre xs 3/\pre xs 3<16777216)/\(0<=pre xs 4/\pre xs 4<4294967296):=by
 have b0:=mU h 0;have b1:=mU h 1;have b2:=mU h 2;have b3:=mU h 3;simp only[pre];omega
theorem aCh(xs:List Int):pre xs 4=TZ (qF xs 0) (qF xs 1) (qF xs 2) (qF xs 3):=by
 unfold TZ;simp only[pre];omega
theorem Z1(h:BO xs)(k:Nat)(hk:k<4):0<=pre xs k/\pre xs k<16777216:=by
 obtain⟨h0,h1,h2,h3, -⟩:=DS h;rcases k with _|_|_|_|k
 ·omega
 ·simp only[Nat.zero_add];omega
 ·simp only[Nat.zero_add,Nat.reduceAdd];omega
 ·simp only[Nat.zero_add,Nat.reduceAdd];omega
 ·omega
theorem or8{p b:Int}(hp0:0<=p)(hp:p<16777216)(hb0:0<=b)(hb:b<256):bits .or .u32 (p*256) b=256*p+b:=by
 obtain⟨x,rfl⟩:=Int.eq_ofNat_of_zero_le hp0;obtain⟨y,rfl⟩:=Int.eq_ofNat_of_zero_le hb0;rw[show((x:Int)*256)=((x*256:Nat):Int) by omega,u32_or_nat _ _ (by omega) (by omega)];have h:x*256|||y=x*256+y:=by
  rw[show x*256=x<<<8 by simp[Nat.shiftLeft_eq]];exact(Nat.shiftLeft_add_eq_or_of_lt (show y<2^8 by omega) x).symm
 rw[h];omega
theorem T6{x:Int}(h0:0<=x)(h1:x<4294967296):wrap64 (wrap32 x)=sgn x:=by
 unfold wrap64 wrap32 sgn;split<;>omega
theorem K7(s:ByteArray)(w:World)(hs:4<=s.size):
  Calls Tryz.prog 74 #[.string s] w fun e w'=>e= .returned (.int .i64 (sgn (pre (bs s) 4)))/\w'=w:=by
 go_enter Tryz.func74,Tryz.ntmps74;go_wp2;go_loop [3,5] (fun n i=>∃k:Nat,k<=4/\i= .int .i64 k/\n= .int .u32 (pre (bs s) k)) (fun _ i=>4- (intOf i).toNat)
 case atStart=>exact⟨0,by omega,rfl,rfl⟩
 case round=>
  obtain⟨k,hk,rfl,rfl⟩:=hrel
  by_cases hlt:k<4
  ·have hr:=Z1 (BE s) k hlt;have hks:k<s.size:=by omega
   have hlt':=hlt;have hbt:=T5 hks;have hb:=mU (BE s) k;rw[hbt]at hb;go_wp2;go_round
   case rel=>exact⟨k+1,hlt',by go_num,by rw[or8 hr.1 hr.2 hb.1 (by omega),<-hbt];rfl⟩
   case measure=>simp[intOf];omega
  ·obtain rfl:k=4:=by omega
   have hr:=(DS (BE s)).2.2.2.2;go_wp2;go_ret;exact⟨T4 (T6 hr.1 hr.2),rfl⟩
theorem fE(s:ByteArray)(a b:Nat):bs (s.extract a b)=((bs s).drop a).take (b- a):=by
 obtain⟨⟨l⟩⟩:=s;have h:=ByteArray.extract_mk l a b;unfold bs;rw[show(ByteArray.mk (Array.mk l)).extract a b=ByteArray.mk ((l.drop a).take (b- a)).toArray from h];simp[List.map_take,List.map_drop]
theorem yE(xs:List Int)(a n i:Nat)(h:i<n):qF ((xs.drop a).take n) i=qF xs (a+i):=by
 unfold qF;rw[zF,zF,List.getElem?_take_of_lt h,List.getElem?_drop]
theorem PN(s:ByteArray)(k:Nat)(hs:s.size=37)(hk:k<9)(a b:Nat)(ha:a=4*k+1)(hb:b=37)(w:World):
  Calls Tryz.prog 74 #[.string (s.extract a b)] w fun e w'=>e= .returned (.int .i64 (fL (bs s) k))/\w'=w:=by
 subst ha hb;have hl:=fD (s.extract (4*k+1) 37);rw[fE,List.length_take,List.length_drop,fD,hs]at hl;have h:=K7 (s.extract (4*k+1) 37) w (by omega);rw[aCh,fE,yE _ _ _ _ (by omega),yE _ _ _ _ (by omega),yE _ _ _ _ (by omega),yE _ _ _ _ (by omega)]at h;exact h
theorem IR(c:Cm)(w:World):
  Calls Tryz.prog 75 #[.int .i64 c.op,nmV c] w fun e w'=>e= .returned (P1 c)/\Below w.heap.size w w':=by
 go_enter Tryz.func75,Tryz.ntmps75;go_wp2;exact bodyPost_ret (v:=P1 c) (by simp[results,Tryz.results75,go_sem]) rfl ⟨rfl,bO w _ _⟩
theorem CA(hb:Below n V.drew w2):Below n V w2:=⟨hb.os,hb.tape,hb.output,hb.size,hb.block⟩
theorem command_at(op a b c p l mn mx us co:Int)(w:World):
  Calls Tryz.prog 75 #[.int .i64 op, .agg #[.int .i64 a, .int .i64 b, .int .i64 c, .int .i64 p, .int .i64 l, .int .i64 mn, .int .i64 mx, .int .i64 us, .int .i64 co]] w fun e w'=>e= .returned (.agg #[.int .i64 op, .int .i64 a, .int .i64 b, .int .i64 c, .int .i64 p, .int .i64 l, .int .i64 mn, .int .i64 mx, .int .i64 us, .int .i64 co])/\Below w.heap.size w w':=
 IR ⟨op,a,b,c,p,l,mn,mx,us,co⟩ w
def BH:Cm:=⟨0,0,0,0,0,0,0,0,0,0⟩
theorem T7(s:ByteArray)(w:World)(hs:s.size=37):
  Calls Tryz.prog 43 #[.string s] w fun e w'=>e= .returned (.tuple #[P1 (wY (bs s)), .int .i64 0])/\Below w.heap.size w w':=by
 have hnum:=PN s;go_enter Tryz.func43,Tryz.ntmps43;go_wp2;refine wp_loop_rounds 10 ?_;rw[rounds_succ];go_wp2_with (go_at_call 74;refine(hnum 0 hs (by omega) _ _ rfl rfl _).mono ?_;rintro e w1 ⟨rfl,rfl⟩);rw[rounds_succ];go_wp2_with (go_at_call 74;refine(hnum 1 hs (by omega) _ _ rfl rfl _).mono ?_;rintro e w1 ⟨rfl,rfl⟩);rw[rounds_succ];go_wp2_with (go_at_call 74;refine(hnum 2 hs (by omega) _ _ rfl rfl _).mono ?_;rintro e w1 ⟨rfl,rfl⟩);rw[rounds_succ];go_wp2_with (go_at_call 74;refine(hnum 3 hs (by omega) _ _ rfl rfl _).mono ?_;rintro e w1 ⟨rfl,rfl⟩);rw[rounds_succ];go_wp2_with (go_at_call 74;refine(hnum 4 hs (by omega) _ _ rfl rfl _).mono ?_;rintro e w1 ⟨rfl,rfl⟩);rw[rounds_succ];go_wp2_with (go_at_call 74;refine(hnum 5 hs (by omega) _ _ rfl rfl _).mono ?_;rintro e w1 ⟨rfl,rfl⟩);rw[rounds_succ];go_wp2_with (go_at_call 74;refine(hnum 6 hs (by omega) _ _ rfl rfl _).mono ?_;rintro e w1 ⟨rfl,rfl⟩);rw[rounds_succ];go_wp2_with (go_at_call 74;refine(hnum 7 hs (by omega) _ _ rfl rfl _).mono ?_;rintro e w1 ⟨rfl,rfl⟩);rw[rounds_succ];go_wp2_with (go_at_call 74;refine(hnum 8 hs (by omega) _ _ rfl rfl _).mono ?_;rintro e w1 ⟨rfl,rfl⟩);rw[rounds_succ];go_wp2;have hbt:Hid (qF (bs s) 0=(s[0].toNat:Int)):=T5 (s:=s) (k:=0) (by omega);have hwr:Hid (IntKind.i64.wrap (s[0].toNat:Int)=(s[0].toNat:Int)):=by
  unfold Hid;have:=s[0].toNat_lt;rw[IntKind.wrap_i64];omega
 go_region_with (go_at_call 75;refine(command_at _ _ _ _ _ _ _ _ _ _ _).mono ?_;rintro e w2 ⟨rfl,hb2⟩;obtain⟨hc,hf⟩:=aC ((hb2.block w.heap.size (by simp;omega)).trans (aG _ (aB _ rfl))));all_goals go_wp2
 all_goals refine bodyPost_ret (v:= .tuple #[.agg #[.int .i64 (IntKind.i64.wrap (s[0].toNat:Int)), .int .i64 (fL (bs s) 0), .int .i64 (fL (bs s) 1), .int .i64 (fL (bs s) 2), .int .i64 (fL (bs s) 3), .int .i64 (fL (bs s) 4), .int .i64 (fL (bs s) 5), .int .i64 (fL (bs s) 6), .int .i64 (fL (bs s) 7), .int .i64 (fL (bs s) 8)], .int .i64 0]) (by simp[results,Tryz.results43,go_sem,hc]) rfl ⟨?_,?_⟩
 all_goals first|(show Ending.returned _=Ending.returned (.tuple #[.agg #[.int .i64 (qF (bs s) 0),_,_,_,_,_,_,_,_,_],_]);rw[hwr.out,hbt.out];rfl)|((repeat refine Below.setCell ?_ (by simp) _);exact(bO w _ _).trans ((CA hb2).mono (by simp;omega)))
theorem sum_any(g cap base:Nat)(xs:List Int)(w:World)(hO:OB w base (.slice (some ⟨g,0,none⟩) xs.length cap) xs)(hl:xs.length<=256)(hx:BO xs):
  Calls Tryz.prog 42 #[.slice (some ⟨g,0,none⟩) xs.length cap] w fun e w'=>e= .returned (.int .u32 (ZX xs))/\w'=w:=by
 generalize hn:xs.length=n at hl hO⊢;go_enter Tryz.func42,Tryz.ntmps42;go_wp2;go_loop [3,8] (fun t i=>∃k:Nat,k<=n/\i= .int .i64 k/\t= .int .u32 (wZ xs k)) (fun _ i=>n- (intOf i).toNat)
 case atStart=>exact⟨0,by omega,rfl,rfl⟩
 case round=>
  obtain⟨k,hk,rfl,rfl⟩:=hrel
  have hr:=pD hx k (by omega)
  by_cases hlt:k<n
  ·have hc:=hO.cell k (by omega);have hb:=mU hx k;have m0:0<=((k:Int)+1)*qF xs k:=Int.mul_nonneg (by omega) hb.1;have m1:((k:Int)+1)*qF xs k<=256*255:=Int.mul_le_mul (by omega) hb.2 hb.1 (by omega);have hlt':=hlt;go_wp2;go_round
   case rel=>exact⟨k+1,hlt',by go_num,rfl⟩
   case measure=>simp[intOf];omega
  ·obtain rfl:k=n:=by omega
   go_wp2;go_ret;exact⟨by rw[<-hn];rfl,rfl⟩
theorem OB.shape2(h:OB w base v xs)(h0:xs≠[]):∃g n cap,v= .slice (some ⟨g,0,none⟩) n cap/\base<=g/\Hid (xs.length=n):=by
 obtain⟨g,cap, -,h1,h2, -⟩:=h.shape h0;exact⟨g,xs.length,cap,h1,h2,rfl⟩
theorem DT(s:ByteArray)(w:World)(hs:s.size<=255):
  Calls Tryz.prog 25 #[.string s] w fun e w'=>e= .returned (.tuple #[.string (strOfNums (frameB (bs s))), .int .i64 0])/\Below w.heap.size w w':=by
 have hlen:=fD s;have hX:BO ((s.size:Int)::bs s):=BA (by omega) (BE s);have hXl:((s.size:Int)::bs s).length<=256:=by rw[List.length_cons,hlen];omega
 have hfr:Hid (frameB (bs s)=((s.size:Int)::bs s)++WN (ZX ((s.size:Int)::bs s))):=by unfold Hid frameB;rw[hlen]
 have hsr:=pD hX ((s.size:Int)::bs s).length hXl;clear hlen;go_enter Tryz.func25,Tryz.ntmps25;go_wp2_with (at_builtin;refine Hid.out ?_);unfold Hid;refine kZ rfl _ _ rfl w.heap.size _ [(s.size:Int)] rfl (OB.one w w.heap.size w.heap.size (s.size:Int) rfl (by omega)) s rfl (by simp;omega) (by simp) ?_;intro v1 w1 hO1 hg1;have hB1:=dM (bl1 w _) hg1 (fun k e=>((OB.one w w.heap.size w.heap.size (s.size:Int) rfl (by omega)).lt k e).1);clear hg1;obtain⟨g,cap, -,rfl,hgb, -⟩:=hO1.shape (by simp);go_wp2_with (first|(go_at_call 42;refine(sum_any g cap _ _ _ hO1 hXl hX).mono ?_;rintro e w2 ⟨rfl,rfl⟩)|(go_at_call 40;refine(lowFirst_any _ _ hsr.1 (by omega)).mono ?_;rintro e w3 ⟨v3,rfl,hO3,hB3⟩)|(at_builtin;refine Hid.out ?_))
 unfold Hid;obtain⟨g3,c3,rfl,hg3⟩:=hO3.four;refine gT rfl _ _ rfl w.heap.size _ _ rfl (hO1.later hB3) g3 4 c3 _ rfl rfl hO3.cells (by have:=hXl;simp only[List.length_append,List.length_cons,List.length_nil]at this⊢;omega) (by have:=hB1.size;have:=hB3.size;omega) ?_;intro v4 w4 hO4 hg4;have hB4:=dM (hB1.trans (hB3.mono hB1.size)) hg4 (fun k e=>(hO1.lt k e).1);clear hg4;obtain⟨g5,n5,c5,rfl, -,hn5⟩:=hO4.shape2 (by simp);have hcv:=rW hO4 hn5.out;go_wp2;go_ret2;exact⟨mV (by rw[hfr.out];rfl) rfl,hB4⟩
theorem FN(s:ByteArray):bs (s.extract 1 38)=((bs s).drop 1).take 37:=fE s 1 38
theorem BI(s:ByteArray)(a b:Nat)(h:b<=s.size)(hab:a<=b):(s.extract a b).size=b- a:=by
 rw[<-fD,fE,List.length_take,List.length_drop,fD];omega
def K8(xs:List Int):Cm:=if BP xs=true then wY ((xs.drop 1).take 37)else BH
def fiE(xs:List Int):Int:=if BP xs=true then 0 else 1
theorem T8(h:BP xs=true):K8 xs=wY ((xs.drop 1).take 37)/\fiE xs=0:=by unfold K8 fiE;rw[if_pos h,if_pos h];exact⟨rfl,rfl⟩
theorem XT(h:BP xs=false):K8 xs=BH/\fiE xs=1:=by unfold K8 fiE;rw[h];exact⟨rfl,rfl⟩
theorem PO(h:xs.length<42):BP xs=false:=by
 unfold BP;rw[decide_eq_false (by omega),Bool.false_and]
theorem Z2(a b:ByteArray):(a.toList==b.toList)=decide (a=b):=by
 rw[ByteArray.toList_eq,ByteArray.toList_eq,Bool.eq_iff_iff,beq_iff_eq,decide_eq_true_eq];constructor
 ·intro h;obtain⟨⟨a⟩⟩:=a;obtain⟨⟨b⟩⟩:=b;simp only at h;rw[h]
 ·intro h;rw[h]
theorem WR(s:ByteArray)(hs:42<=s.size):BP (bs s)=decide (strOfNums (frameB (bs (s.extract 1 38)))=s.extract 0 42):=by
 have hl:((bs s).drop 1).length=s.size- 1:=by rw[List.length_drop,fD]
 have hB:BO (frameB (bs (s.extract 1 38))):=vT (BE _) (by rw[fD,BI s 1 38 (by omega) (by omega)];omega);unfold BP;rw[fD,decide_eq_true hs,Bool.true_and,decide_eq_decide,FN];have e:(bs s).take 42=bs (s.extract 0 42):=by rw[fE];simp
 rw[e];constructor
 ·intro h;rw[h,ZY]
 ·intro h;rw[FN]at hB;rw[<-h,BF hB]
theorem K9(s:ByteArray)(w:World):
  Calls Tryz.prog 26 #[.string s] w fun e w'=>e= .returned (.tuple #[P1 (K8 (bs s)), .int .i64 (fiE (bs s))])/\Below w.heap.size w w':=by
 by_cases hs:s.size<42
 ·obtain⟨e1,e2⟩:=XT (PO (xs:=bs s) (by rw[fD];exact hs));rw[e1,e2];go_enter Tryz.func26,Tryz.ntmps26;go_wp2;exact bodyPost_ret (v:= .tuple #[P1 BH, .int .i64 1]) (by simp[results,Tryz.results26,go_sem,BH]) rfl ⟨rfl,bl1 w _⟩
 ·have hs':42<=s.size:=by omega
  have ht:=BI s 1 38 (by omega) (by omega);have hok:=WR s hs';have hfr:=DT (s.extract 1 38);have hrd:=T7 (s.extract 1 38);rw[FN]at hrd;rw[<-Z2]at hok;have hbx:∀w1,Below (w.alloc (.cells #[.int .i64 0, .int .i64 0, .int .i64 0, .int .i64 0, .int .i64 0, .int .i64 0, .int .i64 0, .int .i64 0, .int .i64 0, .int .i64 0] 34)).heap.size (w.alloc (.cells #[.int .i64 0, .int .i64 0, .int .i64 0, .int .i64 0, .int .i64 0, .int .i64 0, .int .i64 0, .int .i64 0, .int .i64 0, .int .i64 0] 34)) w1->w1.heap[w.heap.size]?=some (.cells #[.int .i64 0, .int .i64 0, .int .i64 0, .int .i64 0, .int .i64 0, .int .i64 0, .int .i64 0, .int .i64 0, .int .i64 0, .int .i64 0] 34):=
   fun w1 hb1=>(hb1.block w.heap.size (by simp)).trans (aB _ rfl)
  cases h:BP (bs s)
  ·obtain⟨e1,e2⟩:=XT h;rw[e1,e2];rw[h]at hok;have hok':=hok.symm;clear hok;go_enter Tryz.func26,Tryz.ntmps26;go_wp2_with (go_at_call 25;refine(hfr _ (by omega)).mono ?_;rintro e w1 ⟨rfl,hb1⟩;obtain⟨hc,hf⟩:=aC (hbx w1 hb1));refine bodyPost_ret (v:= .tuple #[P1 BH, .int .i64 1]) (by simp[results,Tryz.results26,go_sem,BH,hc]) rfl ⟨rfl,?_⟩;(repeat refine Below.setCell ?_ (by simp) _)
   exact(bl1 w _).trans (hb1.mono (by simp))
  ·obtain⟨e1,e2⟩:=T8 h;rw[e1,e2];rw[h]at hok;have hok':=hok.symm;clear hok;go_enter Tryz.func26,Tryz.ntmps26;go_wp2_with (first|(go_at_call 25;refine(hfr _ (by omega)).mono ?_;rintro e w1 ⟨rfl,hb1⟩;obtain⟨hc,hf⟩:=aC (hbx w1 hb1))|(go_at_call 43;refine(hrd _ ht).mono ?_;rintro e w2 ⟨rfl,hb2⟩;obtain⟨hc2,hf2⟩:=aC (aA hb2 (hbx w1 hb1))))
   refine bodyPost_ret (v:= .tuple #[P1 (wY (((bs s).drop 1).take 37)), .int .i64 0]) (by simp[results,Tryz.results26,go_sem,hc2]) rfl ⟨rfl,?_⟩;(repeat refine Below.setCell ?_ (by simp) _)
   have hB1:=(bl1 w _).trans (hb1.mono (by simp));exact hB1.trans (hb2.mono hB1.size)
def gU(cs:List Cm)(i:Nat):Cm:=cs.getD i BH
theorem BJ(h:i<cs.length):gU cs i=cs[i]:=by simp[gU,List.getD_eq_getElem?_getD,h]
structure CS(w:World)(x:Option Addr)(n:Nat)(cs:List Cm):Prop where
 len:cs.length=n
 cells:∀i,i<n->∃b o,x=some ⟨b,o,none⟩/\w.cell? ⟨b,o+i*10,none⟩=some (.int .i64 (gU cs i).op)/\w.cell? ⟨b,o+i*10+1,none⟩=some (.int .i64 (gU cs i).a)/\w.cell? ⟨b,o+i*10+2,none⟩=some (.int .i64 (gU cs i).b)/\w.cell? ⟨b,o+i*10+3,none⟩=some (.int .i64 (gU cs i).c)/\w.cell? ⟨b,o+i*10+4,none⟩=some (.int .i64 (gU cs i).p)/\w.cell? ⟨b,o+i*10+5,none⟩=some (.int .i64 (gU cs i).l)/\w.cell? ⟨b,o+i*10+6,none⟩=some (.int .i64 (gU cs i).mn)/\w.cell? ⟨b,o+i*10+7,none⟩=some (.int .i64 (gU cs i).mx)/\w.cell? ⟨b,o+i*10+8,none⟩=some (.int .i64 (gU cs i).us)/\w.cell? ⟨b,o+i*10+9,none⟩=some (.int .i64 (gU cs i).co)
theorem CS.later(h:CS w x n cs)(hb:Below w.heap.size w w'):CS w' x n cs where
 len:=h.len
 cells:=fun i hi=>by
  obtain⟨b,o,hx,c0,c1,c2,c3,c4,c5,c6,c7,c8,c9⟩:=h.cells i hi;exact⟨b,o,hx,cell_later hb c0,cell_later hb c1,cell_later hb c2,cell_later hb c3,cell_later hb c4,cell_later hb c5,cell_later hb c6,cell_later hb c7,cell_later hb c8,cell_later hb c9⟩
def WS(cs:List Cm):Int:=if cs.all okCm=true then(if 200<cs.length then 2 else 0)else 3
def P2(cs:List Cm):List Int:=if cs.all okCm=true then(if 200<cs.length then[]else gC cs)else[]
theorem T9(hk:k<cs.length)(h:okCm (gU cs k)=false):WS cs=3/\P2 cs=[]:=by
 have:cs.all okCm=false:=by
  rw[List.all_eq_false];rw[BJ hk]at h;exact⟨cs[k],List.getElem_mem hk,by simp[h]⟩
 unfold WS P2;rw[this];exact⟨rfl,rfl⟩
theorem UA(h:∀j,j<cs.length->okCm (gU cs j)=true):cs.all okCm=true:=by
 rw[List.all_eq_true];intro c hc;obtain⟨j,hj,rfl⟩:=List.getElem_of_mem hc;rw[<-BJ hj];exact h j hj
theorem WT(h:∀j,j<cs.length->okCm (gU cs j)=true)(hn:200<cs.length):WS cs=2/\P2 cs=[]:=by
 unfold WS P2;rw[UA h,if_pos rfl,if_pos rfl,if_pos hn,if_pos hn];exact⟨rfl,rfl⟩
theorem UB(h:∀j,j<cs.length->okCm (gU cs j)=true)(hn:cs.length<=200):WS cs=0/\P2 cs=gC cs:=by
 unfold WS P2;rw[UA h,if_pos rfl,if_pos rfl,if_neg (by omega),if_neg (by omega)];exact⟨rfl,rfl⟩
theorem UC(hk:k<cs.length):gC (cs.take (k+1))=gC (cs.take k)++frameB (cmdB (gU cs k)):=by
 rw[List.take_add_one,List.getElem?_eq_getElem hk,<-BJ hk];exact PJ _ _
theorem FO(hk:k<=cs.length):(gC (cs.take k)).length=42*k:=by rw[tS,List.length_take];congr 1;omega
theorem write_ok(h:okCm c=true)(w:World):
  Calls Tryz.prog 24 #[P1 c] w fun e w'=>e= .returned (.tuple #[.string (strOfNums (cmdB c)), .int .i64 0])/\Below w.heap.size w w':=by
 have:=DR c w;rw[(FM h).1,(FM h).2]at this;exact this
theorem write_bad(h:okCm c=false)(w:World):
  Calls Tryz.prog 24 #[P1 c] w fun e w'=>e= .returned (.tuple #[.string (strOfNums []), .int .i64 3])/\Below w.heap.size w w':=by
 have:=DR c w;rw[(BG h).1,(BG h).2]at this;exact this
theorem BK(c:Cm):BO (cmdB c):=PH c 9
theorem Z3(c:Cm):bs (strOfNums (cmdB c))=cmdB c:=BF (BK c)
theorem IT(c:Cm):bs (strOfNums (frameB (cmdB c)))=frameB (cmdB c):=BF (vT (BK c) (by rw[mA];omega))
theorem IU(h:OB w base v xs):(convert 75 9 v).run Tryz.prog w= .ok (.string (strOfNums xs)) w:=by
 rcases h.2 with ⟨rfl,h0⟩|⟨g,c,cur,rfl, -⟩
 ·obtain rfl:=List.eq_nil_of_length_eq_zero h0;exact run_convert_bytes_nil w 75 5 kY IK 0 0 9 vW
 ·exact rW h rfl
theorem PP(c:Cm)(w:World):
  Calls Tryz.prog 25 #[.string (strOfNums (cmdB c))] w fun e w'=>e= .returned (.tuple #[.string (strOfNums (frameB (cmdB c))), .int .i64 0])/\Below w.heap.size w w':=by
 have h:=DT (strOfNums (cmdB c)) w (by rw[strOfNums_size,mA];omega);rw[Z3]at h;exact h
theorem ML(x:Option Addr)(n cap:Nat)(cs:List Cm)(w:World)(hp:CS w x n cs)(hn:42*n<=140737488355328):
  Calls Tryz.prog 12 #[.slice x n cap] w fun e w'=>e= .returned (.tuple #[.string (strOfNums (P2 cs)), .int .i64 (WS cs)])/\Below w.heap.size w w':=by
 have hpl:Hid (cs.length=n):=hp.len;go_enter Tryz.func12,Tryz.ntmps12;go_wp2;go_loopw [4,13] (fun v i wr=>∃k:Nat,k<=n/\i= .int .i64 k/\(∀j,j<k->okCm (gU cs j)=true)/\OB wr w.heap.size v (gC (cs.take k))/\Below w.heap.size w wr) (fun _ i _=>n- (intOf i).toNat)
 case atStart=>exact⟨0,by omega,rfl,fun j hj=>by omega,OB.nil _ _,zD⟩
 case round=>
  obtain⟨k,hk,rfl,hok,hO,hB⟩:=hrel
  have hll:(gC (cs.take k)).length=42*k:=FO (by rw[hpl.out];exact hk)
  have hlx:Hid ((gC (cs.take k)).length=42*k):=hll
  clear hll
  by_cases hlt:k<n
  ·obtain⟨b,o,rfl,c0,c1,c2,c3,c4,c5,c6,c7,c8,c9⟩:=(hp.later hB).cells k hlt;have hlt':=hlt
   cases hc:okCm (gU cs k)
   ·go_wp2_with (go_at_call 24;refine(write_bad hc _).mono ?_;rintro e w1 ⟨rfl,hb1⟩);go_ret2;have hbad:=T9 (cs:=cs) (by rw[hpl.out];exact hlt') hc;exact⟨mV (by rw[hbad.2];rfl) hbad.1.symm,hB.trans (((bl1 wr _).trans (hb1.mono (by simp))).mono hB.size)⟩
   ·go_wp2_with (first|(go_at_call 24;refine(write_ok hc _).mono ?_;rintro e w1 ⟨rfl,hb1⟩)|(go_at_call 25;refine(PP (gU cs k) _).mono ?_;rintro e w2 ⟨rfl,hb2⟩)|(at_builtin;refine Hid.out ?_))
    unfold Hid;have h01:Below wr.heap.size wr w1:=(bl1 wr _).trans (hb1.mono (by simp));have h02:=h01.trans (hb2.mono h01.size);refine kZ rfl _ _ rfl w.heap.size _ _ rfl (hO.later h02) (strOfNums (frameB (cmdB (gU cs k)))) rfl (by rw[hlx.out,strOfNums_size,vU];omega) (by have:=hB.size;have:=h02.size;omega) ?_;intro v' w' hO' hg';have hB':=dM (hB.trans (h02.mono hB.size)) hg' (fun k e=>(hO.lt k e).1);rw[IT]at hO';go_wp2;go_roundw
    case rel=>exact⟨k+1,hlt',by go_num,fun j hj=>by
     by_cases hj2:j<k
     ·exact hok j hj2
     ·obtain rfl:j=k:=by omega
      exact hc,by rw[UC (by rw[hpl.out];exact hlt')];exact hO',hB'⟩
    case measure=>simp[intOf];omega
  ·obtain rfl:k=n:=by omega
   have htk:Hid (cs.take k=cs):=by unfold Hid;rw[<-hpl.out];exact List.take_length
   rw[htk.out]at hO hlx;by_cases hmany:200<k
   ·go_wp2;go_ret2;have hb:=WT (cs:=cs) (by rw[hpl.out];exact hok) (by rw[hpl.out];exact hmany);exact⟨mV (by rw[hb.2];rfl) hb.1.symm,hB⟩
   ·have hb:Hid (WS cs=0/\P2 cs=gC cs):=UB (cs:=cs) (by rw[hpl.out];exact hok) (by rw[hpl.out];omega);have hcv:=IU hO;go_wp2;go_ret2;exact⟨mV (by rw[hb.out.2]) hb.out.1.symm,hB⟩
theorem MM(xs ys:List Int):strOfNums xs++strOfNums ys=strOfNums (xs++ys):=by
 unfold strOfNums;rw[ByteArray.mk_append_mk,List.map_append]
def eU(c:Cm):List Value:=[.int .i64 c.op, .int .i64 c.a, .int .i64 c.b, .int .i64 c.c, .int .i64 c.p, .int .i64 c.l, .int .i64 c.mn, .int .i64 c.mx, .int .i64 c.us, .int .i64 c.co]
def xA(cs:List Cm):List Value:=cs.flatMap eU
theorem rX(c:Cm):(eU c).length=10:=rfl
theorem LA(cs:List Cm)(c:Cm):xA (cs++[c])=xA cs++eU c:=by simp[xA]
theorem IV:∀(cs:List Cm) (i j:Nat),i<cs.length->j<10->(xA cs)[i*10+j]?=(eU (gU cs i))[j]?
 |[],i,j,hi,_=>by simp at hi
 |c::cs,0,j,_,hj=>by
  unfold xA;rw[List.flatMap_cons,List.getElem?_append_left (by rw[rX];omega)];simp[gU]
 |c::cs,i+1,j,hi,hj=>by
  have:=IV cs i j (by simpa using hi) hj;unfold xA at this⊢;rw[List.flatMap_cons,List.getElem?_append_right (by rw[rX];omega),rX,show(i+1)*10+j- 10=i*10+j by omega,this];simp[gU]
def OC(w:World)(base:Nat)(v:Value)(cs:List Cm):Prop:=w.ownsRow base 34 10 v cs.length (xA cs)
theorem OC.nil(w:World)(base:Nat):OC w base (.slice none 0 0) []:=World.ownsRow_nil _ _ _ _
theorem OC.later{xs:List Cm}(h:OC w base v xs)(hb:Below w.heap.size w w'):OC w' base v xs:=by
 refine World.ownsRow.kept h (eI hb) ?_
 cases hv:v.ownBlock
 ·exact .inl rfl
 ·exact .inr (by simp)
theorem OC.lt{xs:List Cm}(h:OC w base v xs):∀k,v.ownBlock=some k->base<=k/\k<w.heap.size:=World.ownsRow.lt h
theorem OC.shape{xs:List Cm}(h:OC w base v xs):∃x cap,v= .slice x xs.length cap/\xs.length<=cap/\cap<=9223372036854775807/\CS w x xs.length xs:=by
 rcases h.2 with ⟨rfl,h0⟩|⟨g,cap,cur,rfl, -, -,h4,h5, -⟩
 ·exact⟨none,0,by rw[h0],by omega,by omega,⟨rfl,fun i hi=>by omega⟩⟩
 ·refine⟨some ⟨g,0,none⟩,cap,rfl,h4,by unfold maxLen at h5;omega,⟨rfl,fun i hi=>⟨g,0,rfl,?_⟩⟩⟩;have e:∀j,j<10->∀u,(eU (gU xs i))[j]?=some u->w.cell? ⟨g,0+i*10+j,none⟩=some u:=fun j hj u hu=>by
   have:=World.ownsRow.cells h (g:=g) rfl (i*10+j) u ((IV xs i j hi hj).trans hu);rw[Addr.add_lit]at this;rw[Nat.add_assoc];exact this
  exact⟨e 0 (by omega) _ rfl,e 1 (by omega) _ rfl,e 2 (by omega) _ rfl,e 3 (by omega) _ rfl,e 4 (by omega) _ rfl,e 5 (by omega) _ rfl,e 6 (by omega) _ rfl,e 7 (by omega) _ rfl,e 8 (by omega) _ rfl,e 9 (by omega) _ rfl⟩
theorem UD:(Tryz.prog.info? 34).map (fun i=>(i.zero,i.size,i.bytes))=some (some (.agg #[.int .i64 0, .int .i64 0, .int .i64 0, .int .i64 0, .int .i64 0, .int .i64 0, .int .i64 0, .int .i64 0, .int .i64 0, .int .i64 0]),10,80):=by kernel_rfl
theorem PQ:∃i,Tryz.prog.info? 34=some i/\i.zero=some (.agg #[.int .i64 0, .int .i64 0, .int .i64 0, .int .i64 0, .int .i64 0, .int .i64 0, .int .i64 0, .int .i64 0, .int .i64 0, .int .i64 0])/\i.size=10/\i.bytes=80:=by
 obtain⟨i,hi,h⟩:=Option.map_eq_some_iff.1 UD;simp only[Prod.mk.injEq]at h;exact⟨i,hi,h.1,h.2.1,h.2.2⟩
theorem LB:Tryz.prog.underlying 22=some (.slice 34):=by kernel_rfl
theorem mB{a:Act}(hgd:o.guard=none)(s x:Operand)
 (ho:o.op= .call {callee:= .builtin .append,args:=#[s,x],argTypes:=#[22,22]})(base:Nat)(v:Value)(cs:List Cm)(hs:a.eval s=v)(hO:OC w base v cs)
 (g k:Nat)(c:Cm)(hx:a.eval x= .slice (some ⟨g,0,none⟩) 1 k)(hy:∀j,w.cell? ⟨g,j,none⟩=(eU c)[j]?)
 (hlen:cs.length<=1000000)(hbase:base<=w.heap.size)
 (h:∀v' w',OC w' base v' (cs++[c])->w.grownBy w' v.ownBlock->wpList Tryz.prog ops Q rest (a.put o.dst v') w'):wpList Tryz.prog ops Q (o::rest) a w:=by
 obtain⟨i0,hi,hz0,hz1,hz2⟩:=PQ;refine wpList_append_own w hgd s x 22 ho base 34 i0 _ 10 80 LB hi hz0 hz1 hz2 rfl (by decide) v cs.length (xA cs) hs hO ⟨g,0,none⟩ 1 k (eU c) hx rfl ?_ ?_ (by unfold maxLen;omega) (by omega) hbase ?_
 ·intro j u hj;rw[Addr.add_lit,Nat.zero_add,hy j];exact hj
 ·intro u hu;simp only[eU,List.mem_cons,List.not_mem_nil,or_false]at hu;rcases hu with rfl|rfl|rfl|rfl|rfl|rfl|rfl|rfl|rfl|rfl<;>rfl
 ·intro v' w' h1 h2 _;refine h v' w' ?_ h2;unfold OC;rw[LA,List.length_append];exact h1
theorem WU(s:ByteArray)(a:Nat):bs (s.extract a s.size)=(bs s).drop a:=by
 rw[fE,List.take_of_length_le (by rw[List.length_drop,fD];omega)]
theorem first_at(s:ByteArray)(a:Nat)(t:Bool)(h:BP ((bs s).drop a)=t)(w:World):
  Calls Tryz.prog 26 #[.string (s.extract a s.size)] w fun e w'=>e= .returned (.tuple #[P1 (K8 ((bs s).drop a)), .int .i64 (if t=true then 0 else 1)])/\Below w.heap.size w w':=by
 have:=K9 (s.extract a s.size) w;rw[WU]at this;unfold fiE at this;rw[h]at this;exact this
theorem Z4(h:BP xs=true):rp (f+1) xs=K8 xs::rp f (xs.drop 42):=by
 rw[(T8 h).1];show(if BP xs=true then _ else _)=_;rw[if_pos h]
theorem XU(h:BP xs=false):rp f xs=[]:=by
 cases f with
 |zero=>rfl
 |succ f=>
  show(if BP xs=true then _ else _)=_
  rw[h]
  rfl
theorem WV(h:BP xs=true):42<=xs.length:=by
 unfold BP at h;simp only[zH,decide_eq_true_eq]at h;exact h.1
def BL(s:ByteArray)(w:World)(e:Ending)(w':World):Prop:=
 ∃x cap,e= .returned (.tuple #[.slice x (rp 200 (bs s)).length cap, .int .i64 (42*(rp 200 (bs s)).length:Nat), .int .i64 0])/\Below w.heap.size w w'/\(rp 200 (bs s)).length<=cap/\cap<=9223372036854775807/\CS w' x (rp 200 (bs s)).length (rp 200 (bs s))
theorem DU{s:ByteArray}(hk:cs.length=k)(h:rp 200 (bs s)=cs)(hb:Below w.heap.size w w')(h1:k<=cap)(h2:cap<=9223372036854775807)(hc:CS w' x k cs):
  BL s w (.returned (.tuple #[.slice x k cap, .int .i64 (42*(k:Int)), .int .i64 0])) w':=by
 subst hk;unfold BL;rw[h];exact⟨x,cap,by rw[show((42*cs.length:Nat):Int)=42*(cs.length:Int) by omega],hb,h1,h2,hc⟩
theorem XV(s:ByteArray)(w:World)(hs:16384<s.size):
  Calls Tryz.prog 13 #[.string s] w fun e w'=>e= .returned (.tuple #[.slice none 0 0, .int .i64 0, .int .i64 2])/\Below w.heap.size w w':=by
 go_enter Tryz.func13,Tryz.ntmps13;go_wp2;go_step3;go_wp2;rw[Exit.noGoto_ret];exact bodyPost_ret (v:= .tuple #[.slice none 0 0, .int .i64 0, .int .i64 2]) (by simp[results,Tryz.results13,go_sem]) rfl ⟨rfl,zD⟩
theorem BM(s:ByteArray)(w:World)(hs:s.size<=16384):
  Calls Tryz.prog 13 #[.string s] w (BL s w):=by
 have hbl:=fD s;have hbl':Hid ((bs s).length=s.size):=hbl;clear hbl;go_enter Tryz.func13,Tryz.ntmps13;go_wp2;go_step3;go_wp2;go_step3;go_wp2;go_loopw [5,6] (fun v i wr=>∃cs:List Cm,cs.length<=200/\42*cs.length<=s.size/\i= .int .i64 (42*cs.length:Nat)/\Hid (rp 200 (bs s)=cs++rp (200- cs.length) ((bs s).drop (42*cs.length)))/\OC wr w.heap.size v cs/\Below w.heap.size w wr) (fun _ i _=>10000- (intOf i).toNat)
 case atStart=>exact⟨[],by simp,by simp,rfl,by unfold Hid;simp,OC.nil _ _,zD⟩
 case round=>
  obtain⟨cs,h200,hsz,rfl,hrp,hO,hB⟩:=hrel
  obtain⟨x,cap,rfl,hcap,hcap2,hCS⟩:=hO.shape
  generalize hk:cs.length=k at h200 hsz hcap hCS⊢
  have hk':Hid (cs.length=k):=hk
  clear hk
  by_cases hlt:k<200
  ·have hlt':=hlt
   cases hf:BP ((bs s).drop (42*k))
   ·go_wp2_with (go_at_call 26;refine(first_at s (42*k) _ hf _).mono ?_;rintro e w1 ⟨rfl,hb1⟩);rw[Exit.noGoto_ret];have h01:Below wr.heap.size wr (w1.alloc _):=hb1.alloc hb1.size (.cells (eU (K8 ((bs s).drop (42*k)))).toArray 34);refine bodyPost_ret (v:= .tuple #[.slice x k cap, .int .i64 (42*(k:Int)), .int .i64 0]) (by simp[results,Tryz.results13,go_sem]) rfl ?_;exact DU hk'.out (by rw[hrp.out,hk'.out,XU hf,List.append_nil]) (hB.trans (h01.mono hB.size)) hcap hcap2 (hCS.later h01)
   ·go_wp2_with (first|(go_at_call 26;refine(first_at s (42*k) _ hf _).mono ?_;rintro e w1 ⟨rfl,hb1⟩)|(at_builtin;refine Hid.out ?_))
    unfold Hid;have hl42:=WV hf;rw[List.length_drop,hbl'.out]at hl42;have h01:Below wr.heap.size wr (w1.alloc _):=hb1.alloc hb1.size (.cells (eU (K8 ((bs s).drop (42*k)))).toArray 34);have h02:Below wr.heap.size wr ((w1.alloc _).alloc _):=h01.alloc h01.size (.cells (eU (K8 ((bs s).drop (42*k)))).toArray 34);have hO2:=hO.later h02;rw[hk'.out]at hO2;refine mB rfl _ _ rfl w.heap.size _ cs rfl hO2 (w1.heap.size+1) 1 (K8 ((bs s).drop (42*k))) rfl (fun j=>?_) (by rw[hk'.out];omega) (Nat.le_trans hB.size h02.size) ?_
    ·have hnew:((w1.alloc (.cells (eU (K8 ((bs s).drop (42*k)))).toArray 34)).alloc (.cells (eU (K8 ((bs s).drop (42*k)))).toArray 34)).heap[w1.heap.size+1]?=some (.cells (eU (K8 ((bs s).drop (42*k)))).toArray 34):=aB _ (by simp);exact((aC hnew).1 j).trans (by simp)
    ·intro v' w' hO' hg';have hB':=dM (hB.trans (h02.mono hB.size)) hg' (fun j e=>(hO2.lt j e).1);go_wp2;go_roundw
     case rel=>exact⟨cs++[K8 ((bs s).drop (42*k))],by simp;rw[hk'.out];omega,by simp;rw[hk'.out];omega,by simp;rw[hk'.out];omega,by
      unfold Hid;rw[hrp.out,hk'.out,List.length_append,hk'.out,show 200- k=(200- (k+1))+1 by omega,Z4 hf,List.drop_drop];simp;rw[show 42*k+42=42*(k+1) by omega],hO',hB'⟩
     case measure=>simp[intOf];omega
  ·obtain rfl:k=200:=by omega
   go_wp2;rw[Exit.noGoto_ret];refine bodyPost_ret (v:= .tuple #[.slice x 200 cap, .int .i64 (42*((200:Nat):Int)), .int .i64 0]) (by simp[results,Tryz.results13,go_sem]) rfl ?_;exact DU hk'.out (by rw[hrp.out,hk'.out,show 200- 200=0 from rfl];simp[rp]) hB hcap hcap2 hCS
open Go.RowKit Go.Shelf
def aL:Nat->List Le
 |0|1|2|3=>[]
 |4=>[⟨256,10,1,1,0⟩]
 |5|6|7|8=>[⟨256,10,1,1,0⟩,⟨320,12,1,2,0⟩]
 |_=>[⟨256,10,1,1,0⟩,⟨320,12,3,0,3⟩]
def aV:Nat->List Vn
 |0|1=>[]
 |2=>[⟨1,none,0,0,[],none,0,0,[]⟩]
 |3=>[⟨1,none,0,0,[],none,0,0,[]⟩,⟨2,none,0,0,[],none,0,0,[]⟩]
 |4=>[⟨1,none,1,0,[⟨256,10,7⟩],none,0,0,[]⟩,⟨2,none,0,0,[],none,0,0,[]⟩]
 |5|6=>[⟨1,none,1,0,[⟨256,10,7⟩],none,0,0,[]⟩,⟨2,none,1,0,[⟨320,12,7⟩],none,0,0,[]⟩]
 |7=>[⟨1,none,1,0,[⟨256,10,7⟩],none,1,0,[⟨4,256,14,none,0,0,[]⟩]⟩,⟨2,none,1,0,[⟨320,12,7⟩],none,0,0,[]⟩]
 |8=>[⟨1,none,1,0,[⟨256,10,7⟩],none,1,0,[⟨4,256,14,none,1,0,[⟨9,none,1,0,[257]⟩]⟩]⟩,⟨2,none,1,0,[⟨320,12,7⟩],none,0,0,[]⟩]
 |_=>[⟨1,none,1,0,[⟨256,10,7⟩],none,1,0,[⟨4,256,14,none,1,0,[⟨9,none,1,0,[257]⟩]⟩]⟩,⟨2,none,0,0,[],none,0,0,[]⟩]
def aK:Nat->List (Int×Int)
 |0|1|2|3|4|5=>[]
 |_=>[(1,2)]
def St:Nat->dP->Prop
 |0,s=>s=⟨0,[],[],[]⟩
 |j+1,s=>yC (aL (j+1)) (aV (j+1)) (aK (j+1)) s
theorem yC.re{V:List Vn}(h:yC ls V L s)(hV:V=V')(hL:L=L'):yC ls V' L' s:=hV▸hL▸h
theorem MN{r:dP}{a l n:Int}(hj:j<10)(h:St j s)(hN:tZ s (cdAt planL j) E a l n r):E=(if j=9 then 9 else 0)/\St (j+1) r:=by
 match j,hj with
 |0,_=>
  have h:s=_:=h
  rw[h]at hN
  exact WA hN
 |1,_=>
  have:=MC h (by kernel_rfl) hN
  exact⟨this.1,this.2.re (by kernel_rfl) rfl⟩
 |2,_=>
  have:=MC h (by kernel_rfl) hN
  exact⟨this.1,this.2.re (by kernel_rfl) rfl⟩
 |3,_=>
  have:=MD (ls':=[⟨256,10,1,1,0⟩]) (k:=0) (a0:=256) (l0:=10) h (fun x c=>by kernel_rfl) (fun x c=>by kernel_rfl) (by kernel_rfl) (by kernel_rfl) (fun m hm=>V9 hm) hN
  exact⟨congrArg Prod.fst this.1,this.2.re (by kernel_rfl) rfl⟩
 |4,_=>
  have:=MD (ls':=[⟨256,10,1,1,0⟩,⟨320,12,1,2,0⟩]) (k:=1) (a0:=320) (l0:=12) h (fun x c=>by kernel_rfl) (fun x c=>by kernel_rfl) (by kernel_rfl) (by kernel_rfl) (fun m hm=>WF hm) hN
  exact⟨congrArg Prod.fst this.1,this.2.re (by kernel_rfl) rfl⟩
 |5,_=>
  have:=WB h (by kernel_rfl) hN
  exact⟨this.1,this.2.re rfl (by kernel_rfl)⟩
 |6,_=>
  have:=ZQ (k:=0) (vid:=1) (rs:=[⟨256,10,7⟩]) h (by kernel_rfl) (by kernel_rfl) (by kernel_rfl) hN
  exact⟨this.1,this.2.re (by kernel_rfl) rfl⟩
 |7,_=>
  have:=WC (k:=0) (vid:=1) (c:=256) (m:=14) (y0:=257) (rs:=[⟨256,10,7⟩]) h (by kernel_rfl) (by kernel_rfl) (fun x d=>by kernel_rfl) (fun x d=>by kernel_rfl) (fun x d=>⟨by kernel_rfl,by simp[bG],fun z h1 h2=>by simp only at h1;omega⟩) hN
  exact⟨congrArg Prod.fst this.1,this.2.re (by kernel_rfl) rfl⟩
 |8,_=>
  have:=WD (ls':=[⟨256,10,1,1,0⟩,⟨320,12,3,0,3⟩]) (k:=1) (j0:=1) (vid:=2) (g:=⟨320,12,7⟩) h (by kernel_rfl) (by kernel_rfl) (by kernel_rfl) rfl (fun x d=>by kernel_rfl) (fun x d=>by kernel_rfl) (fun x d=>by kernel_rfl) hN
  exact⟨this.1,this.2.re (by kernel_rfl) rfl⟩
 |9,_=>exact WE (o:=1) h (fun x c=>by kernel_rfl) (by decide+kernel) hN
theorem FP(hj:j<=10)(h:St j s):aS s.t s.ps=0/\cW s.vs.length s.vs s.ls.length s.ls=0/\IZ (bS s.ps) (nI s.vs)=true:=by
 cases j with
 |zero=>
  have h:s=_:=h
  rw[h]
  exact⟨by kernel_rfl,by kernel_rfl,by kernel_rfl⟩
 |succ j=>
  have h:yC (aL (j+1)) (aV (j+1)) (aK (j+1)) s:=h
  obtain⟨x,c,hp⟩:=h.ps
  have hl:=dX h.vs
  rw[h.t0,hp,<-S8 s.vs,<-oW,h.vs,h.lk,hl]
  have:j=0\/j=1\/j=2\/j=3\/j=4\/j=5\/j=6\/j=7\/j=8\/j=9:=by omega
  rcases this with rfl|rfl|rfl|rfl|rfl|rfl|rfl|rfl|rfl|rfl<;>exact⟨by kernel_rfl,by kernel_rfl,by kernel_rfl⟩
theorem DV{cs:List Cd}(h:j<k):cdAt (cs.take k) j=cdAt cs j:=by
 unfold cdAt;rw[zF,zF,List.getElem?_take_of_lt h]
theorem UE(hk:k<=10):Rgt (fun j s=>j<=10/\St j s) (planL.take k) where
 zero:=⟨by omega,rfl⟩
 ok j s h:=⟨(FP h.1 h.2).1,aBk (FP h.1 h.2).2.1⟩
 step j s r E a l n hj h hN _:=by
  have hjk:j<k:=by simp at hj;omega
  rw[DV hjk]at hN;exact⟨by omega,(MN (by omega) h.2 hN).2⟩
theorem MO(hj:j<=10)(h:St j s):mS s.t s.ps s.vs.length s.vs s.ls.length s.ls=0:=by
 obtain⟨h1,h2,h3⟩:=FP hj h;unfold mS;rw[if_neg (by rw[h1];decide),if_neg (by rw[h2];decide),if_pos h3]
def cm(c:Cd):Cm:=⟨c.op,c.A,c.B,c.C,c.a,c.l,c.mn,c.mx,c.us,c.co⟩
theorem FQ:∀cs:List Cm,BO (gC cs)
 |[]=>fun x hx=>by cases hx
 |c::cs=>by
  rw[qC];exact rV (vT (BK c) (by rw[mA];decide)) (FQ cs)
theorem Z5(f:Nat):rp f []=[]:=XU rfl
theorem FR:∀c∈planL.map cm,okCm c=true:=by decide+kernel
theorem FT:∀c∈planL,tX c.A c.a c.l:=by
 intro c hc;simp only[planL,List.mem_cons,List.not_mem_nil,or_false]at hc;rcases hc with rfl|rfl|rfl|rfl|rfl|rfl|rfl|rfl|rfl|rfl<;>exact⟨by decide,by decide,by decide⟩
def lgB(k:Nat):List Int:=gC ((planL.take k).map cm)
def lgS(k:Nat):ByteArray:=strOfNums (lgB k)
theorem XW(k:Nat):bs (lgS k)=lgB k:=BF (FQ _)
theorem Z6(hk:k<=10):(lgB k).length=42*k:=by
 unfold lgB;rw[tS,List.length_map,List.length_take];have:planL.length=10:=rfl;omega
theorem MP(hk:k<=10):(lgS k).size=42*k:=by rw[<-fD,XW,Z6 hk]
theorem XX(hk:k<=10):rp 200 (bs (lgS k))=(planL.take k).map cm:=by
 rw[XW];have hl:((planL.take k).map cm).length<=200:=by rw[List.length_map,List.length_take];omega
 have h:=MJ ((planL.take k).map cm) 200 [] (fun c hc=>FR c (by
  obtain⟨d,hd,rfl⟩:=List.mem_map.1 hc;exact List.mem_map.2 ⟨d,List.mem_of_mem_take hd,rfl⟩)) hl
 rw[List.append_nil,Z5,List.append_nil]at h;exact h
theorem K0.of{cs:List Cd}(h:CS w x n (cs.map cm))(hw:∀c∈cs,tX c.A c.a c.l):K0 w x n cs:=by
 have hl:cs.length=n:=by rw[<-h.len,List.length_map]
 have e:∀i,i<n->gU (cs.map cm) i=cm (cdAt cs i):=fun i hi=>by
  unfold gU cdAt;rw[zF,zF,List.getElem?_map,List.getElem?_eq_getElem (by omega)];rfl
 refine⟨hl,fun i hi=>hw _ (gB _ (by omega)),fun i hi=>?_⟩;have h1:=h.cells i hi;rw[e i hi]at h1;exact h1
def UF(R:Nat->dP->Prop)(cs:List Cd)(k:Nat)(w:World)(e:Ending)(w':World):Prop:=
 ∃f g vB vV vK,e= .returned (.tuple #[AV (dP.t (f k)) vB vV vK, .int .i64 k, .int .i64 0])/\Below w.heap.size w w'/\SO w' w.heap.size (f k).ps (f k).vs (f k).ls vB vV vK/\tP R cs f g k
theorem iG{R:Nat->dP->Prop}{S:ByteArray}{cs:List Cd}(hz:S.size<=16384)(hk:cs.length=k)(hrp:rp 200 (bs S)=cs.map cm)(hw:∀c∈cs,tX c.A c.a c.l)(hR:Rgt R cs)(w:World):Calls Tryz.prog 6 #[.string S] w (UF R cs k w):=by
 have hk2:k<=200:=by
  have:=T0 200 (bs S);rw[hrp,List.length_map]at this;omega
 have hre:=fun W=>BM S W hz;unfold BL at hre;rw[hrp]at hre;have hkl:Hid ((cs.map cm).length=k):=by unfold Hid;rw[List.length_map];exact hk
 rw[hkl.out]at hre;clear hk hrp;go_enter Tryz.func6,Tryz.ntmps6;go_upto_region 1 with fail
 obtain⟨w0,hw0⟩:∃w0,w0=w.alloc (iI 0 (.slice none 0 0) (.slice none 0 0) (.slice none 0 0)):=⟨_,rfl⟩;have hB0:Below w.heap.size w w0:=by rw[hw0];exact bl1 w _
 have hq0:w0.heap[w.heap.size]?=some (iI 0 (.slice none 0 0) (.slice none 0 0) (.slice none 0 0)):=by rw[hw0];exact aB _ rfl
 rw[<-hw0];clear hw0;go_wp2_with fail;refine(hre w0).mono ?_;rintro _ w1 ⟨x,cap,rfl,hb1,hkc,hc63,hCS⟩;have hB1:=hB0.trans (hb1.mono hB0.size);have hq1:=aA hb1 hq0;have hpl:=A0 (R:=R) x k cap cs w1 (K0.of hCS hw) (by omega) hR;clear hre hCS hb1 hq0;go_wp2_with fail;refine hpl.mono ?_;rintro _ w2 ⟨-,hpy⟩;obtain⟨f,g,vB,vV,vK,ba,rfl,hb2,hSO, -,hPl⟩:=hpy (by omega);have hSt:Hid (tP R cs f g k):=hPl;clear hPl hpl hpy hR hw;obtain⟨x3,c3,X3,C3,Y3,D3,rfl,rfl,rfl⟩:=hSO.slices;go_upto_region 5 with fail
 have hq2:=aA hb2 hq1;have hB2:=hB1.trans (hb2.mono hB1.size);obtain⟨w3,hw3⟩:∃w3,w3=w2.alloc (iI (f k).t (.slice x3 (f k).ps.length c3) (.slice X3 (f k).vs.length C3) (.slice Y3 (f k).ls.length D3)):=⟨_,rfl⟩;have hb3:Below w2.heap.size w2 w3:=by rw[hw3];exact bl1 w2 _
 have hS3:kN w3 w.heap.size w2.heap.size (f k).t (f k).ps (f k).vs (f k).ls (.slice x3 (f k).ps.length c3) (.slice X3 (f k).vs.length C3) (.slice Y3 (f k).ls.length D3):=⟨by rw[hw3];exact aB _ rfl,hB2.size,(hSO.low hB1.size).later hb3⟩;rw[<-hw3];clear hw3 hSO;have hq3:=aA hb3 hq2;have hB3:=hB2.trans (hb3.mono hB2.size);have hne:w2.heap.size≠w.heap.size:=by have:=(zG hq2);omega
 obtain⟨g0,g1,g2,g3⟩:=dL hS3.box rfl rfl rfl rfl;obtain⟨c0,c1,c2⟩:=bI hq3 rfl rfl rfl;have c3':=(aC hq3).1 3;obtain⟨z0,z1,z2,z3⟩:=iY hq3;simp only[List.getElem?_toArray,List.getElem?_cons_zero,List.getElem?_cons_succ]at c3';have hS4:=kN.all (t':=(f k).t) (w:=w3) (base:=w.heap.size) (bs:=w.heap.size) ⟨hq3,zE,MB _ _⟩ hS3.own;have hB4:Below w.heap.size w ((((w3.setCell ⟨w.heap.size,0,none⟩ (.int .i64 (f k).t)).setCell ⟨w.heap.size,1,none⟩ (.slice x3 (f k).ps.length c3)).setCell ⟨w.heap.size,2,none⟩ (.slice X3 (f k).vs.length C3)).setCell ⟨w.heap.size,3,none⟩ (.slice Y3 (f k).ls.length D3)):=
  (((hB3.setCell (p:=⟨w.heap.size,0,none⟩) (zE) _).setCell (p:=⟨w.heap.size,1,none⟩) (zE) _).setCell (p:=⟨w.heap.size,2,none⟩) (zE) _).setCell (p:=⟨w.heap.size,3,none⟩) (zE) _
 go_wp2;refine bodyPost_ret (v:= .tuple #[AV (f k).t (.slice x3 (f k).ps.length c3) (.slice X3 (f k).vs.length C3) (.slice Y3 (f k).ls.length D3), .int .i64 k, .int .i64 0]) (by simp[results,Tryz.results6,go_sem,c0,c1,c2,c3']) rfl ?_;exact⟨f,g,_,_,_,rfl,hB4,hS4.own,hSt.out⟩
theorem FU(hk:k<=10)(w:World):Calls Tryz.prog 6 #[.string (lgS k)] w (UF (fun j s=>j<=10/\St j s) (planL.take k) k w):=
 iG (by rw[MP hk];omega) (by rw[List.length_take];have:planL.length=10:=rfl;omega) (XX hk) (fun c hc=>FT c (List.mem_of_mem_take hc)) (UE hk) w
theorem PR(s:ByteArray)(w:World)(h:s.size<=16384):Calls Tryz.prog 15 #[.string s] w fun e w'=>e= .returned (.string s)/\Below w.heap.size w w':=by
 go_enter Tryz.func15,Tryz.ntmps15;go_wp2_with (go_at_call 27;refine(stringslite_Clone s _ (by omega)).mono ?_;rintro e w1 ⟨rfl,hb1⟩);go_ret;exact⟨rfl,hb1⟩
theorem WW(hj:j<10):lgS (j+1)=lgS j++strOfNums (P2 [cm (cdAt planL j)]):=by
 have hl:j<planL.length:=hj;have h1:planL.take (j+1)=planL.take j++[cdAt planL j]:=by
  unfold cdAt;rw[List.take_add_one,zF,List.getElem?_eq_getElem hl];rfl
 have hok:okCm (cm (cdAt planL j))=true:=FR _ (List.mem_map.2 ⟨_,gB _ hl,rfl⟩);have h2:P2 [cm (cdAt planL j)]=gC [cm (cdAt planL j)]:=(UB (fun i hi=>by
  obtain rfl:i=0:=by simp at hi;omega
  exact hok) (by simp)).2
 rw[h2];unfold lgS lgB;rw[h1,List.map_append,MM];simp[gC]
def Z7(R:Nat->dP->Prop)(k:Nat)(S F:ByteArray)(C:Cd)(w:World)(e:Ending)(w':World):Prop:=
 ∃s E a l n,R k s/\e= .returned (.tuple #[.string (if E=0 then S++F else S),L8 E a l n, .int .i64 0])/\Below w.heap.size w w'/\(mS s.t s.ps s.vs.length s.vs s.ls.length s.ls=0->∃r,tZ s C E a l n r)
theorem UG(h:okCm (cm C)=true):WS [cm C]=0/\P2 [cm C]=gC [cm C]:=UB (fun i hi=>by
  obtain rfl:i=0:=by simp at hi;omega
  exact h) (by simp)
theorem DW{R:Nat->dP->Prop}{S:ByteArray}{cs:List Cd}(hz:S.size=42*j)(hk:cs.length=j)(hj:j<200)(hrp:rp 200 (bs S)=cs.map cm)(hw:∀c∈cs,tX c.A c.a c.l)(hR:Rgt R cs)(hC:okCm (cm C)=true)(hwf:tX C.A C.a C.l)(w:World):
  Calls Tryz.prog 5 #[.string S,L5 C] w (Z7 R j S (strOfNums (frameB (cmdB (cm C)))) C w):=by
 have hre:=fun W=>BM S W (by omega);unfold BL at hre;rw[hrp]at hre;have hkl:Hid ((cs.map cm).length=j):=by unfold Hid;rw[List.length_map];exact hk
 rw[hkl.out]at hre;have hrc:=fun W=>iG (R:=R) (S:=S) (by omega) hk hrp hw hR W;obtain⟨hlo,hlo2⟩:=UG hC;clear hk hrp hw;go_enter Tryz.func5,Tryz.ntmps5;go_upto_region 1 with fail
 obtain⟨w0,hw0⟩:∃w0,w0=(w.alloc (rT C)).alloc (.cells #[.int .i64 0, .int .i64 0, .int .i64 0, .int .i64 0] 28):=⟨_,rfl⟩;have hB0:Below w.heap.size w w0:=by rw[hw0];exact bO w _ _
 have hq0:w0.heap[w.heap.size]?=some (rT C):=by rw[hw0];exact aG _ (aB _ rfl)
 have hp0:w0.heap[w.heap.size+1]?=some (.cells #[.int .i64 0, .int .i64 0, .int .i64 0, .int .i64 0] 28):=by rw[hw0];exact aB _ (by simp)
 rw[<-hw0];clear hw0;go_wp2_with fail;refine(hrc w0).mono ?_;rintro _ w1 ⟨f,g,vB,vV,vK,rfl,hb1,hSO,hPl⟩;have hSt:Hid (R j (f j)):=hPl.right j (zE);obtain⟨hcB,hcN⟩:=hR.ok _ _ hSt.out;clear hPl hR;generalize f j=s at*;obtain⟨x3,c3,X3,C3,Y3,D3,rfl,rfl,rfl⟩:=hSO.slices;have hB1:=hB0.trans (hb1.mono hB0.size);go_upto_region 4 with fail
 obtain⟨w2,hw2⟩:∃w2,w2=w1.alloc (iI s.t (.slice x3 s.ps.length c3) (.slice X3 s.vs.length C3) (.slice Y3 s.ls.length D3)):=⟨_,rfl⟩;have hb2:Below w1.heap.size w1 w2:=by rw[hw2];exact bl1 w1 _
 have hS2:kN w2 w0.heap.size w1.heap.size s.t s.ps s.vs s.ls (.slice x3 s.ps.length c3) (.slice X3 s.vs.length C3) (.slice Y3 s.ls.length D3):=⟨by rw[hw2];exact aB _ rfl,hb1.size,hSO.later hb2⟩;rw[<-hw2];clear hw2 hSO;have hB2:=hB1.trans (hb2.mono hB1.size);have hb02:=hb1.trans (hb2.mono hb1.size);have hq2:=aA hb02 hq0;obtain⟨k0,k1,k2,k3,k4,k5,k6,k7,k8,k9⟩:w2.cell? ⟨w.heap.size,0,none⟩=some (.int .i64 C.op)/\w2.cell? ⟨w.heap.size,1,none⟩=some (.int .i64 C.A)/\w2.cell? ⟨w.heap.size,2,none⟩=some (.int .i64 C.B)/\w2.cell? ⟨w.heap.size,3,none⟩=some (.int .i64 C.C)/\w2.cell? ⟨w.heap.size,4,none⟩=some (.int .i64 C.a)/\w2.cell? ⟨w.heap.size,5,none⟩=some (.int .i64 C.l)/\w2.cell? ⟨w.heap.size,6,none⟩=some (.int .i64 C.mn)/\w2.cell? ⟨w.heap.size,7,none⟩=some (.int .i64 C.mx)/\w2.cell? ⟨w.heap.size,8,none⟩=some (.int .i64 C.us)/\w2.cell? ⟨w.heap.size,9,none⟩=some (.int .i64 C.co):=
  ⟨(aC hq2).1 0,(aC hq2).1 1,(aC hq2).1 2,(aC hq2).1 3,(aC hq2).1 4,(aC hq2).1 5,(aC hq2).1 6,(aC hq2).1 7,(aC hq2).1 8,(aC hq2).1 9⟩
 have hlg:=fun(W:World) (b:Nat) (hb:W.heap[b]?=some (rT C))=>ML (some ⟨b,0,none⟩) 1 1 [cm C] W ⟨rfl,fun i hi=>by
  obtain rfl:i=0:=by omega
  exact⟨b,0,rfl,(aC hb).1 0,(aC hb).1 1,(aC hb).1 2,(aC hb).1 3,(aC hb).1 4,(aC hb).1 5,(aC hb).1 6,(aC hb).1 7,(aC hb).1 8,(aC hb).1 9⟩⟩ (by omega)
 rw[hlo]at hlg;obtain⟨F,hF⟩:∃F,Hid (F=strOfNums (P2 [cm C])):=⟨_,rfl⟩;rw[<-hF.out]at hlg;have hFr:Hid (F=strOfNums (frameB (cmdB (cm C)))):=by
  unfold Hid;rw[hF.out,hlo2];simp[gC]
 have hFs:F.size=42:=by rw[hFr.out,<-fD,IT,vU]
 go_wp2_with fail;refine(hlg _ w2.heap.size (aB _ rfl)).mono ?_;rintro _ w3 ⟨rfl,hb3⟩;have hb23:Below w2.heap.size w2 w3:=(bl1 w2 (rT C)).trans (hb3.mono (by simp));clear hb3 hlg k0 k1 k2 k3 k4 k5 k6 k7 k8 k9;have hB3:=hB2.trans (hb23.mono hB2.size);have hS3:=hS2.later hb23;have hj200:((j:Int)==200)=false:=by simp;omega
 go_wp2_with fail;refine(hre w3).mono ?_;rintro _ w4 ⟨x,cap,rfl,hb4, -, -, -⟩;have hB4:=hB3.trans (hb4.mono hB3.size);have hS4:=hS3.later hb4;have hb04:=hb02.trans ((hb23.trans (hb4.mono hb23.size)).mono hb02.size);have hq4:=aA hb04 hq0;have hp4:=aA hb04 hp0;clear hre hrc hS3 hS2 hb4 hb23 hq2;obtain⟨x',c',X',C',Y',D',e1,e2,e3,hbk,hvs,hvc,hv63,hps,hl63⟩:=hS4.see hcB;simp only[Value.slice.injEq]at e1 e2 e3;obtain⟨rfl, -,rfl⟩:=e1;obtain⟨rfl, -,rfl⟩:=e2;obtain⟨rfl, -,rfl⟩:=e3;have hdo:=WI s.t x3 s.ps.length c3 s.ps X3 s.vs.length C3 s.vs Y3 s.ls.length D3 s.ls C w4 ⟨hbk,hvs,hvc,hv63,hps,hl63⟩ hcB hcN hwf;obtain⟨k0,k1,k2,k3,k4,k5,k6,k7,k8,k9⟩:w4.cell? ⟨w.heap.size,0,none⟩=some (.int .i64 C.op)/\w4.cell? ⟨w.heap.size,1,none⟩=some (.int .i64 C.A)/\w4.cell? ⟨w.heap.size,2,none⟩=some (.int .i64 C.B)/\w4.cell? ⟨w.heap.size,3,none⟩=some (.int .i64 C.C)/\w4.cell? ⟨w.heap.size,4,none⟩=some (.int .i64 C.a)/\w4.cell? ⟨w.heap.size,5,none⟩=some (.int .i64 C.l)/\w4.cell? ⟨w.heap.size,6,none⟩=some (.int .i64 C.mn)/\w4.cell? ⟨w.heap.size,7,none⟩=some (.int .i64 C.mx)/\w4.cell? ⟨w.heap.size,8,none⟩=some (.int .i64 C.us)/\w4.cell? ⟨w.heap.size,9,none⟩=some (.int .i64 C.co):=
  ⟨(aC hq4).1 0,(aC hq4).1 1,(aC hq4).1 2,(aC hq4).1 3,(aC hq4).1 4,(aC hq4).1 5,(aC hq4).1 6,(aC hq4).1 7,(aC hq4).1 8,(aC hq4).1 9⟩
 obtain⟨s0,s1,s2,s3⟩:=dL hS4.box rfl rfl rfl rfl;go_wp2_with fail;refine hdo.mono ?_;rintro _ w5 ⟨E,a,l,n',t5,x5,n5,c5,X5,N5,C5,Y5,M5,D5,e3,rfl,hb5,hN5⟩;have hNx:Hid (mS s.t s.ps s.vs.length s.vs s.ls.length s.ls=0->∃r,tZ s C E a l n' r):=hN5;have hB5:=hB4.trans (hb5.mono hB4.size);have hp5:=aA hb5 hp4;clear k0 k1 k2 k3 k4 k5 k6 k7 k8 k9 s0 s1 s2 s3 hdo hN5 hbk hvs hvc hv63 hps hl63 hS4 hcB hcN hq4 hp4;go_upto_region 11 with fail
 obtain⟨w6,hw6⟩:∃w6,w6=(w5.alloc (iI t5 (.slice x5 n5 c5) (.slice X5 N5 C5) (.slice Y5 M5 D5))).alloc (.cells #[.int .i64 E, .int .i64 a, .int .i64 l, .int .i64 n'] 28):=⟨_,rfl⟩;have hb6:Below w5.heap.size w5 w6:=by rw[hw6];exact bO w5 _ _
 have hq6:w6.heap[w5.heap.size+1]?=some (.cells #[.int .i64 E, .int .i64 a, .int .i64 l, .int .i64 n'] 28):=by rw[hw6];exact aB _ (by simp)
 rw[<-hw6];clear hw6;have hB6:=hB5.trans (hb6.mono hB5.size);have hp6:=aA hb6 hp5;have c0:=aP hq6 0 rfl;have hex:S.extract 0 (42*j)=S:=by rw[<-hz];exact ByteArray.extract_zero_size
 have hws:((42*j:Nat):Int)<=(S.size:Int):=by omega
 by_cases h9:E=0;rotate_left
 ·have hEz:(E==0)=false:=by simpa using h9
  have hnn:Hid ((if E=0 then S++F else S)=S):=if_neg h9;clear h9;go_upto_region 12 with fail
  have t0:=Ws.here c0;have t1:=Ws.here (aP hq6 1 rfl);have t2:=Ws.here (aP hq6 2 rfl);have t3:=Ws.here (aP hq6 3 rfl);refine bK [0,1,2] [4] [3,5] [6,7] (by kernel_rfl) (by kernel_rfl) (fun d _ _ _ _ h=>by cases d<;>exact h) ?_;simp only[zK,zM,zI,zJ];repeat(go_big_quiet_step (fail))
  refine wpQuiet_nil ?_;repeat(go_big_quiet_step (fail))
  refine wpQuiet_nil ?_;clear t0 t1 t2 t3 c0 hq6;have hBd:Below w6.heap.size w6 w6.drew:=(zD).drew;refine aU fun K hK=>?_;go_wp2_with fail;refine(PR S _ (by omega)).mono ?_;rintro _ w7 ⟨rfl,hb7⟩;have hC7:=hBd.trans (hb7.mono hBd.size);go_wp2_with fail;refine aD (hK.out _ _ hC7 ?_);clear hK K;refine aU fun K hK=>?_;go_wp2_with fail;refine aD (hK.out _ _ hC7 ?_);clear hK K;refine dY ?_;have hp7:=aA hC7 hp6;have hB7:=hB6.trans (hC7.mono hB6.size);obtain⟨p0,p1,p2,p3⟩:=dL hp7 rfl rfl rfl rfl;obtain⟨z0,z1,z2,z3⟩:=iY hp7;have hB8:Below w.heap.size w ((((w7.setCell ⟨w.heap.size+1,0,none⟩ (.int .i64 E)).setCell ⟨w.heap.size+1,1,none⟩ (.int .i64 a)).setCell ⟨w.heap.size+1,2,none⟩ (.int .i64 l)).setCell ⟨w.heap.size+1,3,none⟩ (.int .i64 n')):=
   (((hB7.setCell (p:=⟨w.heap.size+1,0,none⟩) (Nat.le_succ _) _).setCell (p:=⟨w.heap.size+1,1,none⟩) (Nat.le_succ _) _).setCell (p:=⟨w.heap.size+1,2,none⟩) (Nat.le_succ _) _).setCell (p:=⟨w.heap.size+1,3,none⟩) (Nat.le_succ _) _
  go_wp2;refine bodyPost_ret (v:= .tuple #[.string S, .agg #[.int .i64 E, .int .i64 a, .int .i64 l, .int .i64 n'], .int .i64 0]) (by simp[results,Tryz.results5,go_sem,p0,p1,p2,p3]) rfl ?_;exact⟨s,E,a,l,n',hSt.out,by rw[<-hFr.out,hnn.out],hB8,hNx.out⟩
 ·subst h9;go_upto_region 13 with fail
  have t0:=Ws.here c0;have t1:=Ws.here (aP hq6 1 rfl);have t2:=Ws.here (aP hq6 2 rfl);have t3:=Ws.here (aP hq6 3 rfl);refine bK [0,1,2,3,4,6] [5] [] [7,8] (by kernel_rfl) (by kernel_rfl) (fun d _ _ _ _ h=>by cases d<;>exact h) ?_;simp only[zK,zM,zI,zJ];repeat(go_big_quiet_step (fail))
  refine wpQuiet_nil ?_;repeat(go_big_quiet_step (fail))
  refine wpQuiet_nil ?_;clear t0 t1 t2 t3 c0 hq6;have hBd:Below w6.heap.size w6 w6.drew:=(zD).drew;refine dY ?_;have hp7:=aA hBd hp6;have hB7:=hB6.trans (hBd.mono hB6.size);generalize w6.drew=w7 at*;obtain⟨p0,p1,p2,p3⟩:=dL hp7 rfl rfl rfl rfl;obtain⟨z0,z1,z2,z3⟩:=iY hp7;have hB8:Below w.heap.size w ((((w7.setCell ⟨w.heap.size+1,0,none⟩ (.int .i64 0)).setCell ⟨w.heap.size+1,1,none⟩ (.int .i64 a)).setCell ⟨w.heap.size+1,2,none⟩ (.int .i64 l)).setCell ⟨w.heap.size+1,3,none⟩ (.int .i64 n')):=
   (((hB7.setCell (p:=⟨w.heap.size+1,0,none⟩) (Nat.le_succ _) _).setCell (p:=⟨w.heap.size+1,1,none⟩) (Nat.le_succ _) _).setCell (p:=⟨w.heap.size+1,2,none⟩) (Nat.le_succ _) _).setCell (p:=⟨w.heap.size+1,3,none⟩) (Nat.le_succ _) _
  go_wp2;refine bodyPost_ret (v:= .tuple #[.string (S++F), .agg #[.int .i64 0, .int .i64 a, .int .i64 l, .int .i64 n'], .int .i64 0]) (by simp[results,Tryz.results5,go_sem,p0,p1,p2,p3]) rfl ?_;exact⟨s,0,a,l,n',hSt.out,by rw[if_pos rfl,<-hFr.out],hB8,hNx.out⟩
theorem PT{R:Nat->dP->Prop}{S:ByteArray}{cs:List Cd}(hz:S.size=42*j)(hk:cs.length=j)(hj:j<200)(hrp:rp 200 (bs S)=cs.map cm)(hw:∀c∈cs,tX c.A c.a c.l)(hR:Rgt R cs)(hC:okCm (cm C)=false)(w:World):
  Calls Tryz.prog 5 #[.string S,L5 C] w fun e w'=>e= .returned (.tuple #[.string ⟨#[]⟩,L8 0 0 0 0, .int .i64 3])/\Below w.heap.size w w':=by
 have hrc:=fun W=>iG (R:=R) (S:=S) (by omega) hk hrp hw hR W;obtain⟨hlo,hlo2⟩:=T9 (cs:=[cm C]) (k:=0) (by simp) hC;clear hk hrp hw;go_enter Tryz.func5,Tryz.ntmps5;go_upto_region 1 with fail
 obtain⟨w0,hw0⟩:∃w0,w0=(w.alloc (rT C)).alloc (.cells #[.int .i64 0, .int .i64 0, .int .i64 0, .int .i64 0] 28):=⟨_,rfl⟩;have hB0:Below w.heap.size w w0:=by rw[hw0];exact bO w _ _
 have hq0:w0.heap[w.heap.size]?=some (rT C):=by rw[hw0];exact aG _ (aB _ rfl)
 have hp0:w0.heap[w.heap.size+1]?=some (.cells #[.int .i64 0, .int .i64 0, .int .i64 0, .int .i64 0] 28):=by rw[hw0];exact aB _ (by simp)
 rw[<-hw0];clear hw0;go_wp2_with fail;refine(hrc w0).mono ?_;rintro _ w1 ⟨f,g,vB,vV,vK,rfl,hb1,hSO,hPl⟩;have hSt:Hid (R j (f j)):=hPl.right j (zE);obtain⟨hcB,hcN⟩:=hR.ok _ _ hSt.out;clear hPl hR;generalize f j=s at*;obtain⟨x3,c3,X3,C3,Y3,D3,rfl,rfl,rfl⟩:=hSO.slices;have hB1:=hB0.trans (hb1.mono hB0.size);go_upto_region 4 with fail
 obtain⟨w2,hw2⟩:∃w2,w2=w1.alloc (iI s.t (.slice x3 s.ps.length c3) (.slice X3 s.vs.length C3) (.slice Y3 s.ls.length D3)):=⟨_,rfl⟩;have hb2:Below w1.heap.size w1 w2:=by rw[hw2];exact bl1 w1 _
 have hS2:kN w2 w0.heap.size w1.heap.size s.t s.ps s.vs s.ls (.slice x3 s.ps.length c3) (.slice X3 s.vs.length C3) (.slice Y3 s.ls.length D3):=⟨by rw[hw2];exact aB _ rfl,hb1.size,hSO.later hb2⟩;rw[<-hw2];clear hw2 hSO;have hB2:=hB1.trans (hb2.mono hB1.size);have hb02:=hb1.trans (hb2.mono hb1.size);have hq2:=aA hb02 hq0;obtain⟨k0,k1,k2,k3,k4,k5,k6,k7,k8,k9⟩:w2.cell? ⟨w.heap.size,0,none⟩=some (.int .i64 C.op)/\w2.cell? ⟨w.heap.size,1,none⟩=some (.int .i64 C.A)/\w2.cell? ⟨w.heap.size,2,none⟩=some (.int .i64 C.B)/\w2.cell? ⟨w.heap.size,3,none⟩=some (.int .i64 C.C)/\w2.cell? ⟨w.heap.size,4,none⟩=some (.int .i64 C.a)/\w2.cell? ⟨w.heap.size,5,none⟩=some (.int .i64 C.l)/\w2.cell? ⟨w.heap.size,6,none⟩=some (.int .i64 C.mn)/\w2.cell? ⟨w.heap.size,7,none⟩=some (.int .i64 C.mx)/\w2.cell? ⟨w.heap.size,8,none⟩=some (.int .i64 C.us)/\w2.cell? ⟨w.heap.size,9,none⟩=some (.int .i64 C.co):=
  ⟨(aC hq2).1 0,(aC hq2).1 1,(aC hq2).1 2,(aC hq2).1 3,(aC hq2).1 4,(aC hq2).1 5,(aC hq2).1 6,(aC hq2).1 7,(aC hq2).1 8,(aC hq2).1 9⟩
 have hlg:=fun(W:World) (b:Nat) (hb:W.heap[b]?=some (rT C))=>ML (some ⟨b,0,none⟩) 1 1 [cm C] W ⟨rfl,fun i hi=>by
  obtain rfl:i=0:=by omega
  exact⟨b,0,rfl,(aC hb).1 0,(aC hb).1 1,(aC hb).1 2,(aC hb).1 3,(aC hb).1 4,(aC hb).1 5,(aC hb).1 6,(aC hb).1 7,(aC hb).1 8,(aC hb).1 9⟩⟩ (by omega)
 rw[hlo,hlo2]at hlg;go_wp2_with fail;refine(hlg _ w2.heap.size (aB _ rfl)).mono ?_;rintro _ w3 ⟨rfl,hb3⟩;have hb23:Below w2.heap.size w2 w3:=(bl1 w2 (rT C)).trans (hb3.mono (by simp));clear hb3 hlg k0 k1 k2 k3 k4 k5 k6 k7 k8 k9;have hB3:=hB2.trans (hb23.mono hB2.size);have hp3:=aA (hb02.trans (hb23.mono hb02.size)) hp0;obtain⟨p0,p1,p2,p3⟩:=dL hp3 rfl rfl rfl rfl;obtain⟨z0,z1,z2,z3⟩:=iY hp3;go_wp2;refine bodyPost_ret (v:= .tuple #[.string ⟨#[]⟩,L8 0 0 0 0, .int .i64 3]) (by simp[results,Tryz.results5,go_sem,p0,p1,p2,p3]) rfl ?_;exact⟨rfl,(((hB3.setCell (p:=⟨w.heap.size+1,0,none⟩) (Nat.le_succ _) _).setCell (p:=⟨w.heap.size+1,1,none⟩) (Nat.le_succ _) _).setCell (p:=⟨w.heap.size+1,2,none⟩) (Nat.le_succ _) _).setCell (p:=⟨w.heap.size+1,3,none⟩) (Nat.le_succ _) _⟩
def nxt(j:Nat):Nat:=if j=9 then 9 else j+1
theorem LD(hj:j<10)(w:World):Calls Tryz.prog 5 #[.string (lgS j),L5 (cdAt planL j)] w fun e w'=>∃a,e= .returned (.tuple #[.string (lgS (nxt j)),a, .int .i64 0])/\Below w.heap.size w w':=by
 have hl:cdAt planL j∈planL:=gB _ (show j<planL.length from hj);have hok:okCm (cm (cdAt planL j))=true:=FR _ (List.mem_map.2 ⟨_,hl,rfl⟩);refine(DW (MP (by omega)) (by rw[List.length_take];have:planL.length=10:=rfl;omega) (by omega) (XX (by omega)) (fun c hc=>FT c (List.mem_of_mem_take hc)) (UE (by omega)) hok (FT _ hl) w).mono ?_;rintro e w' ⟨s,E,a,l,n,hs,rfl,hb,hN⟩;obtain⟨r,hr⟩:=hN (MO hs.1 hs.2);refine⟨L8 E a l n,?_,hb⟩;have hE:=(MN hj hs.2 hr).1;have hnx:=WW hj;rw[(UG hok).2]at hnx;have:lgS (nxt j)=if E=0 then lgS j++strOfNums (frameB (cmdB (cm (cdAt planL j))))else lgS j:=by
  unfold nxt;rw[hE];by_cases h9:j=9
  ·subst h9;rfl
  ·rw[if_neg h9,if_neg h9,if_pos rfl,hnx];simp[gC]
 rw[this]
theorem Z8:Lib.decDigits 257=[50,53,55]:=by
 simp[Lib.decDigits]
theorem aCj:Lib.decDigits 64=[54,52]:=by simp[Lib.decDigits]
theorem aCk:Lib.decDigits 10=[49,48]:=by simp[Lib.decDigits]
theorem aCl:Lib.decDigits 12=[49,50]:=by simp[Lib.decDigits]
theorem aCm:Lib.decDigits 14=[49,52]:=by simp[Lib.decDigits]
theorem aDh:Lib.decDigits 0=[48]:=by simp[Lib.decDigits]
theorem aDi:Lib.decDigits 1=[49]:=by simp[Lib.decDigits]
theorem aDj:Lib.decDigits 2=[50]:=by simp[Lib.decDigits]
theorem aDk:Lib.decDigits 3=[51]:=by simp[Lib.decDigits]
theorem aDl:Lib.decDigits 4=[52]:=by simp[Lib.decDigits]
theorem aDm:Lib.decDigits 7=[55]:=by simp[Lib.decDigits]
theorem aDn:Lib.decDigits 8=[56]:=by simp[Lib.decDigits]
theorem aDo:Lib.decDigits 9=[57]:=by simp[Lib.decDigits]
theorem vX{E F:Type}{f g:E->List F}:∀l:List E,(∀x∈l,f x=g x)->l.flatMap f=l.flatMap g
 |[],_=>rfl
 |e::l,h=>by rw[List.flatMap_cons,List.flatMap_cons,h e (by simp),vX l fun x hx=>h x (by simp[hx])]
theorem WX(v:Vn):B9 (bA v)=B9 v:=by
 have hf:∀f:Fc,UU (dV f)=UU f:=fun f=>rfl;have hs:∀s:Sb,I1 (cH s)=I1 s:=fun s=>by
  unfold I1 cH;simp only[List.map_map];congr 1
 unfold B9 bA;simp only[List.flatMap_map];congr 2;exact vX _ fun s _=>hs s
def UH:ByteArray:=⟨#[116,105,99,107,32,48,10,112,111,111,108,32,55,32,117,112,32,48,32,49,46,48,47,56,10,117,115,101,114,32,49,32,49,46,48,47,49,48,10,99,111,111,108,32,51,32,49,46,54,52,47,49,50,10,110,101,116,32,49,10,114,97,110,103,101,32,49,46,48,47,49,48,32,55,10,115,117,98,32,52,32,49,46,48,47,49,52,10,102,97,99,101,32,57,32,50,53,55,10,110,101,116,32,50,10,108,105,110,107,32,49,32,50,10]⟩
theorem PU(h:St 9 s):txB (ZT s.t s.ps s.vs s.ls)=UH:=by
 have h:yC (aL 9) (aV 9) (aK 9) s:=h;obtain⟨x,c,hp⟩:=h.ps;have hv:s.vs.flatMap B9=(aV 9).flatMap B9:=by
  rw[<-h.vs,List.flatMap_map];exact(vX _ fun v _=>WX v).symm
 unfold ZT bkL ntL;rw[h.t0,hp,hv,h.lk];unfold txB UH;simp[aL,aV,aK,PD,K4,B9,WL,I1,UU,XR,A8,cC,A6,MF,Lib.join,List.intercalate,Z8,aCj,aCk,aCl,aCm,aDh,aDi,aDj,aDk,aDl,aDm,aDn,aDo]
theorem aDp:lgS 0=⟨#[]⟩:=rfl
theorem CB(w:World)(hE:BN w):Calls Tryz.prog 4 #[] w fun e w'=>e= .returned (.bool true)/\Below w.heap.size w w':=by
 go_enter Tryz.func4,Tryz.ntmps4;go_wp2;go_loopw [1,2] (fun s i wr=>∃j:Nat,i= .int .i64 j/\j<=10/\s= .string (lgS (if j=10 then 9 else j))/\Below w.heap.size w wr) (fun _ i _=>10- (intOf i).toNat)
 case atStart=>exact⟨0,rfl,by omega,by rw[if_neg (by omega),aDp],zD⟩
 case round=>
  obtain⟨j,rfl,hj,rfl,hBr⟩:=hrel
  by_cases hlt:j<10
  ·have hlt':Hid (j<10):=hlt;rw[if_neg (show¬j=10 by omega)];have hst:=fun W=>LD (j:=j) hlt W;have hnx:Hid (lgS (nxt j)=lgS (if j+1=10 then 9 else j+1)):=by
    unfold Hid nxt;congr 1;by_cases h9:j=9
    ·subst h9;rfl
    ·rw[if_neg h9,if_neg (by omega)]
   generalize lgS j=S at*;go_wp2_with fail;refine(A5 wr).mono ?_;rintro _ w1 ⟨b1,rfl, -,hb1⟩;have hB1:=hBr.trans (hb1.mono hBr.size);go_wp2_with fail;refine(A5 w1).mono ?_;rintro _ w2 ⟨b2,rfl,hc,hb2⟩;have hB2:=hB1.trans (hb2.mono hB1.size);obtain⟨b,o,hx,d0,d1,d2,d3,d4,d5,d6,d7,d8,d9⟩:=hc.cells j hlt
   cases hx;simp only[Nat.zero_add]at d0 d1 d2 d3 d4 d5 d6 d7 d8 d9;have hi1:(j:Int)<10:=by omega
   have hi2:(0:Int)<=j:=by omega
   clear hc;generalize cdAt planL j=C at*;go_wp2_with fail;refine(hst w2).mono ?_;rintro _ w3 ⟨a,rfl,hb3⟩;have hB3:=hB2.trans (hb3.mono hB2.size);clear d0 d1 d2 d3 d4 d5 d6 d7 d8 d9 hst;go_wp2;go_roundw
   case rel=>exact⟨j+1,by go_num,hlt'.out,by rw[<-hnx.out],hB3⟩
   case measure=>simp[intOf];have:=hlt'.out;omega
  ·obtain rfl:j=10:=by omega
   rw[if_pos rfl];have hrc:=fun W=>FU (k:=9) (by omega) W;generalize lgS 9=S at*;go_wp2_with fail;refine(A5 wr).mono ?_;rintro _ w1 ⟨b1,rfl, -,hb1⟩;have hB1:=hBr.trans (hb1.mono hBr.size);go_wp2_with fail;refine(hrc w1).mono ?_;rintro _ w2 ⟨f,g,vB,vV,vK,rfl,hb2,hSO,hPl⟩;have hSt:St 9 (f 9):=(hPl.right 9 (zE)).2;clear hPl;generalize f 9=s at*;obtain⟨x3,c3,X3,C3,Y3,D3,rfl,rfl,rfl⟩:=hSO.slices;have hB2:=hB1.trans (hb2.mono hB1.size);go_upto_region 10 with fail
   obtain⟨w3,hw3⟩:∃w3,w3=w2.alloc (iI s.t (.slice x3 s.ps.length c3) (.slice X3 s.vs.length C3) (.slice Y3 s.ls.length D3)):=⟨_,rfl⟩;have hb3:Below w2.heap.size w2 w3:=by rw[hw3];exact bl1 w2 _
   have hS3:kN w3 w1.heap.size w2.heap.size s.t s.ps s.vs s.ls (.slice x3 s.ps.length c3) (.slice X3 s.vs.length C3) (.slice Y3 s.ls.length D3):=⟨by rw[hw3];exact aB _ rfl,hb2.size,hSO.later hb3⟩;rw[<-hw3];clear hw3 hSO;have hB3:=hB2.trans (hb3.mono hB2.size);obtain⟨hcB,hcN, -⟩:=FP (by omega) hSt;have hcT:=MO (by omega) hSt;obtain⟨x',c',X',C',Y',D',e1,e2,e3,hbk,hvs,hvc,hv63,hps,hl63⟩:=hS3.see hcB;simp only[Value.slice.injEq]at e1 e2 e3;obtain⟨rfl, -,rfl⟩:=e1;obtain⟨rfl, -,rfl⟩:=e2;obtain⟨rfl, -,rfl⟩:=e3;have hSi:Si w3 x3 s.ps.length c3 s.ps X3 s.vs.length C3 s.vs Y3 s.ls.length s.ls:=⟨hbk,hvs,hvc,hv63,hps,hl63⟩;have hsh:=TW s.t x3 s.ps.length c3 s.ps X3 s.vs.length C3 s.vs Y3 s.ls.length D3 s.ls w3 hSi (hE.later hB3) (SiN.of hSi);have hte:shE s.t s.ps s.vs.length s.vs s.ls.length s.ls=UH:=by unfold shE;rw[if_pos hcT,PU hSt]
   rw[hte,hcT]at hsh;obtain⟨s0,s1,s2,s3⟩:=dL hS3.box rfl rfl rfl rfl;clear hte hcT hcB hcN hbk hvs hvc hv63 hps hl63 hSi;go_wp2_with fail;refine hsh.mono ?_;rintro _ w4 ⟨rfl,hb4⟩;have hB4:=hB3.trans (hb4.mono hB3.size);clear s0 s1 s2 s3 hsh;go_wp2;go_ret;refine⟨?_,hB4⟩;refine aM ?_;rw[ByteArray.toList_eq];rfl
def lI(p:Po):Po:=⟨p.id,p.up,p.a,p.l,p.mn,p.mx,p.us,p.co,none,p.n,0,p.ls⟩
theorem jK(ps:List Po)(i:Nat):poAt (ps.map lI) i=lI (poAt ps i):=by
 unfold poAt;rw[zF,zF,List.getElem?_map]
 cases ps[i]?<;>rfl
theorem nA.canP(h:nA p q):lI p=lI q:=by
 obtain⟨h1,h2,h3,h4,h5,h6,h7,h8,h9,h10⟩:=h;unfold lI;rw[h1,h2,h3,h4,h5,h6,h7,h8,h9,h10]
theorem UI(h:lI p=lI q):nA p q:=by
 unfold lI at h;simp only[Po.mk.injEq]at h;obtain⟨h1,h2,h3,h4,h5,h6,h7,h8, -,h9, -,h10⟩:=h;exact⟨h1,h2,h3,h4,h5,h6,h7,h8,h9,h10⟩
theorem UJ{α:Type}{f:List α->Nat->α}{d:α}(hf:∀l i,f l i=l.getD i d){xs ys:List α}(hl:xs.length=ys.length)(h:∀i,i<xs.length->f xs i=f ys i):xs=ys:=by
 apply List.ext_getElem hl;intro i h1 h2;have:=h i h1;rw[hf,hf,zF,zF,List.getElem?_eq_getElem h1,List.getElem?_eq_getElem h2]at this;exact this
theorem cB.canP(h:cB ps qs):ps.map lI=qs.map lI:=
 UJ (f:=poAt) (fun _ _=>rfl) (by rw[List.length_map,List.length_map];exact h.1) fun i hi=>by
  rw[List.length_map]at hi;rw[jK,jK];exact(h.2 i hi).canP
def gD(ps qs:List Po):Prop:=ps.map lI=qs.map lI
theorem gD.len(h:gD ps qs):ps.length=qs.length:=by
 have:=congrArg List.length h;rwa[List.length_map,List.length_map]at this
theorem gD.at_(h:gD ps qs)(i:Nat):lI (poAt ps i)=lI (poAt qs i):=by rw[<-jK,h,jK]
theorem gD.same(h:gD ps qs):cB ps qs:=⟨h.len,fun i _=>UI (h.at_ i)⟩
theorem gD.id_(h:gD ps qs)(id:Int):aO ps id=aO qs id:=(uP h.same id).symm
theorem gD.of{α:Type}{ps qs:List Po}(h:gD ps qs)(i:Nat)(f:Po->α)(hf:∀p,f (lI p)=f p):f (poAt ps i)=f (poAt qs i):=by rw[<-hf (poAt ps i),h.at_,hf]
theorem gD.ls_(h:gD ps qs)(i:Nat):(poAt ps i).ls=(poAt qs i).ls:=h.of i Po.ls fun _=>rfl
theorem gD.n_(h:gD ps qs)(i:Nat):(poAt ps i).n=(poAt qs i).n:=h.of i Po.n fun _=>rfl
theorem gD.fitE(h:gD ps qs)(i:Nat)(z:Int):dR (poAt ps i) z=dR (poAt qs i) z:=h.of i (fun p=>dR p z) fun _=>rfl
theorem gD.fitO(h:gD ps qs)(i:Nat)(z:Int):dS (poAt ps i) z=dS (poAt qs i) z:=h.of i (fun p=>dS p z) fun _=>rfl
theorem gD.size(h:gD ps qs)(i:Nat)(z:Int):jR (poAt ps i) z=jR (poAt qs i) z:=h.of i (fun p=>jR p z) fun _=>rfl
theorem gD.held(h:gD ps qs):bS ps=bS qs:=by
 have e:∀ps:List Po,bS ps=bS (ps.map lI):=fun ps=>by
  unfold bS;rw[<-List.map_reverse,List.flatMap_map];rfl
 rw[e ps,e qs,h]
section
variable {t : Int} {ps qs : List Po} (h : gD ps qs) (hp : aS t ps = 0) (hq : aS t qs = 0)
include h hp hq
theorem gD.takeE(id z ow:Int):cE t ps id z ow=cE t qs id z ow:=by
 unfold cE;rw[hp,hq,h.id_,h.size,h.fitE]
theorem gD.giveE(id a l:Int):iQ t ps id a l=iQ t qs id a l:=by
 unfold iQ;rw[hp,hq,h.id_,h.n_,h.ls_]
theorem gD.closeE(id:Int):gO t ps id=gO t qs id:=by
 unfold gO;rw[hp,hq,h.id_,h.n_,h.ls_]
theorem gD.openE(id a l mn mx us co:Int):eV t ps id a l mn mx us co=eV t qs id a l mn mx us co:=by
 have e:iX ps a l=iX qs a l:=by
  funext i;exact h.of i (fun p:Po=>(p.up==0)&&kL p.a p.l a l) fun _=>rfl
 unfold eV lT;rw[hp,hq,h.id_,h.len,e]
theorem gD.nestRE(id up z:Int):bX t ps id up z=bX t qs id up z:=by
 unfold bX;rw[hp,hq,h.id_,h.id_,h.fitE]
theorem gD.nestRO(id up z:Int):eQ t ps id up z=eQ t qs id up z:=by
 unfold eQ;rw[h.nestRE hp hq,h.id_,h.fitO]
theorem gD.nestE(id up z mn mx us co:Int):jV t ps id up z mn mx us co=jV t qs id up z mn mx us co:=by
 unfold jV lT;rw[h.nestRE hp hq,h.nestRO hp hq,h.len]
end
theorem tT{f f':Nat->Int}(hf:∀j,j<n->f j=f' j)(h1:i<=n)(h2:∀j,j<i->¬e<f j)(h3:i<n->e<f i)(g1:i'<=n)(g2:∀j,j<i'->¬e<f' j)(g3:i'<n->e<f' i'):i=i':=by
 rcases Nat.lt_trichotomy i i' with h|h|h
 ·exact absurd (hf i (by omega)▸h3 (by omega)) (g2 i h)
 ·exact h
 ·exact absurd ((hf i' (by omega)).symm▸g3 (by omega)) (h2 i' h)
theorem gG.det{e:Le}{a b:List Le}(h:gG e ls a)(g:gG e ls b):a=b:=by
 obtain⟨i,h1,h2,h3,rfl⟩:=h;obtain⟨j,g1,g2,g3,rfl⟩:=g;rw[tT (fun _ _=>rfl) h1 h2 h3 g1 g2 g3]
theorem gZ.det{e:Po}(hs:gD ps qs)(h:gZ e ps a)(g:gZ e qs b):gD a b:=by
 obtain⟨i,h1,h2,h3,rfl⟩:=h;obtain⟨j,g1,g2,g3,rfl⟩:=g;rw[<-hs.len]at g1 g3;rw[tT (fun k _=>hs.of k Po.id fun _=>rfl) h1 h2 h3 g1 g2 g3];unfold gD;simp only[List.map_append,List.map_take,List.map_drop];rw[show ps.map lI=qs.map lI from hs]
theorem mW{α:Type}{f:α->α}{xs ys:List α}{i:Nat}{x y:α}(h:xs.map f=ys.map f)(e:f x=f y):(xs.set i x).map f=(ys.set i y).map f:=by
 rw[List.map_set,List.map_set,h,e]
theorem gD.withL(h:gD ps qs)(i:Nat){x y:Option Addr}{c d:Nat}(ls:List Le):gD (ps.set i (aW (poAt ps i) x ls.length c ls)) (qs.set i (aW (poAt qs i) y ls.length d ls)):=
 mW h (by
  have:=h.at_ i;unfold lI at this⊢;simp only[Po.mk.injEq]at this;obtain⟨h1,h2,h3,h4,h5,h6,h7,h8, -, -, -, -⟩:=this;unfold aW;rw[h1,h2,h3,h4,h5,h6,h7,h8])
theorem gD.to(h:gD ps qs)(h1:cB ps a)(h2:cB qs b):gD a b:=h1.canP.symm.trans (h.trans h2.canP)
theorem kJ.det{id z ow c l c' l':Int}(h:gD ps qs)(h1:kJ ps id z ow c l a)(h2:kJ qs id z ow c' l' b):(c,l)=(c',l')/\gD a b:=by
 obtain⟨e1,q1,x1,d1,m1,s1,p1,rfl⟩:=h1;obtain⟨e2,q2,x2,d2,m2,s2,p2,rfl⟩:=h2;rw[h.id_,h.size,h.fitO]at e1;have e:=e1.trans e2.symm;simp only[Prod.mk.injEq]at e;obtain⟨rfl,rfl⟩:=e;rw[h.id_,h.ls_]at p1;rw[h.id_,p1.det p2];exact⟨rfl,(h.to s1 s2).withL _ _⟩
theorem rD.det(h:gD ps qs)(h1:rD ps i j t a)(h2:rD qs i j t b):gD a b:=by
 obtain⟨q1,x1,d1,s1,rfl⟩:=h1;obtain⟨q2,x2,d2,s2,rfl⟩:=h2;rw[show cI (poAt ps i) j t=cI (poAt qs i) j t from h.of i (fun p=>cI p j t) fun _=>rfl];exact(h.to s1 s2).withL _ _
theorem oE.det{id c l u:Int}(h:gD ps qs)(h1:oE t ps id c l u a)(h2:oE t qs id c l u' b):u=u'/\gD a b:=by
 obtain⟨rfl,h1⟩:=h1;obtain⟨rfl,h2⟩:=h2;rw[h.id_,h.n_,h.ls_]at h1;exact⟨rfl,h1.det h h2⟩
theorem oH.det{e:Po}(h:gD ps qs)(h1:oH ps e up a)(h2:oH qs e up b):gD a b:=by
 obtain⟨q1,r1,x1,d1,m1,s1,t1,p1,rfl⟩:=h1;obtain⟨q2,r2,x2,d2,m2,s2,t2,p2,rfl⟩:=h2;have hr:=t1.det (h.to s1 s2) t2;rw[hr.id_,hr.ls_]at p1;rw[hr.id_,p1.det p2];exact hr.withL _ _
theorem lE.det{id u:Int}(h:gD ps qs)(h1:lE t ps id u a)(h2:lE t qs id u' b):u=u'/\gD a b:=by
 obtain⟨rfl,q1,s1,c1,rfl⟩:=h1;obtain⟨rfl,q2,s2,c2,rfl⟩:=h2;have hup:(poAt ps (aO ps id).toNat).up=(poAt qs (aO qs id).toNat).up:=by rw[h.id_];exact h.of _ Po.up fun _=>rfl
 have hid:(poAt ps (aO ps id).toNat).id=(poAt qs (aO qs id).toNat).id:=by rw[h.id_];exact h.of _ Po.id fun _=>rfl
 rw[hup,h.id_]at s1;rw[hid,hup]at c1;have hq:gD q1 q2:=by
  by_cases hn:aO qs (poAt qs (aO qs id).toNat).up<0
  ·exact h.to (s1 hn) (s2 hn)
  ·obtain⟨k,hk⟩:=Int.eq_ofNat_of_zero_le (Int.not_lt.1 hn);have g1:=c1 k ((h.id_ _).trans hk);rw[h.n_,h.ls_]at g1;exact g1.det h (c2 k hk)
 refine⟨rfl,?_⟩;rw[h.id_];unfold gD;simp only[List.map_append,List.map_take,List.map_drop];rw[show q1.map lI=q2.map lI from hq]
theorem CR.det{m u:Int}(h:gD ps qs)(h1:CR t ps m u a)(h2:CR t qs m u' b):u=u'/\gD a b:=by
 obtain⟨rfl,q1,s1,l1,p1⟩:=h1;obtain⟨rfl,q2,s2,l2,p2⟩:=h2;have hq:=h.to s1 s2;refine⟨rfl,UJ (f:=poAt) (fun _ _=>rfl) (by rw[List.length_map,List.length_map,l1,l2,hq.len]) fun i hi=>?_⟩;rw[List.length_map,l1]at hi;obtain⟨x,c,e1⟩:=(p1 i hi).1 hi;obtain⟨y,d,e2⟩:=(p2 i (by rw[<-hq.len];exact hi)).1 (by rw[<-hq.len];exact hi);rw[jK,jK,e1,e2,hq.ls_];have:=hq.at_ i;unfold lI at this⊢;simp only[Po.mk.injEq]at this;obtain⟨h1,h2,h3,h4,h5,h6,h7,h8, -, -, -, -⟩:=this;unfold aW;rw[h1,h2,h3,h4,h5,h6,h7,h8]
section
variable {α : Type} {ss ts : List Sb} (h : ss.map cH = ts.map cH)
include h
theorem qQ(i:Nat)(f:Sb->α)(hf:∀s,f (cH s)=f s):f (sbAt ss i)=f (sbAt ts i):=by
 rw[<-hf (sbAt ss i),<-eW,h,eW,hf]
end
theorem PV(fs:List Fc):(fs.map dV).map dV=fs.map dV:=by
 rw[List.map_map];rfl
theorem DX{α:Type}{fs gs:List Fc}(h:fs.map dV=gs.map dV)(i:Nat)(f:Fc->α)(hf:∀s,f (dV s)=f s):f (fcAt fs i)=f (fcAt gs i):=by
 rw[<-hf (fcAt fs i),<-kF,h,kF,hf]
section
variable {ss ts : List Sb} (h : ss.map cH = ts.map cH)
include h
theorem Z9:ss.length=ts.length:=by
 have:=congrArg List.length h;rwa[List.length_map,List.length_map]at this
theorem xB(i:Nat):(sbAt ss i).id=(sbAt ts i).id:=qQ h i Sb.id fun _=>rfl
theorem tU(i:Nat):(sbAt ss i).fs.map dV=(sbAt ts i).fs.map dV:=qQ h i (fun s=>s.fs.map dV) fun _=>PV _
theorem tV(vid:Int)(rn:Nat)(rs:List Rg)(sn:Nat):bD vid rn rs sn ss=bD vid rn rs sn ts:=by rw[<-tM vid rn rs sn ss,h,tM]
theorem LE(id:Int):(fun i=>(sbAt ss i).id==id)=fun i=>(sbAt ts i).id==id:=by
 funext i;rw[xB h]
theorem WY(vid:Int)(rn:Nat)(rs:List Rg)(sn:Nat)(id c m:Int):oR vid rn rs sn ss id c m=oR vid rn rs sn ts id c m:=by
 have e2:C4 ss c m=C4 ts c m:=by
  funext i;exact qQ h i (fun s=>kL s.a s.l c m) fun _=>rfl
 unfold oR;rw[tV h,LE h,e2]
theorem PW(vid:Int)(rn:Nat)(rs:List Rg)(sn:Nat)(id:Int):gR vid rn rs sn ss id=gR vid rn rs sn ts id:=by
 unfold gR;rw[tV h,LE h,qQ h _ Sb.n fun _=>rfl]
theorem UK(vid:Int)(rn:Nat)(rs:List Rg)(sn:Nat)(c m:Int):fJ vid rn rs sn ss c m=fJ vid rn rs sn ts c m:=by
 have e2:XI ss c m=XI ts c m:=by
  funext i;exact qQ h i (fun s=>iH s.a s.l c m) fun _=>rfl
 unfold fJ;rw[tV h,e2]
theorem MQ(i:Nat)(id:Int):(fun j=>(fcAt (sbAt ss i).fs j).id==id)=fun j=>(fcAt (sbAt ts i).fs j).id==id:=by
 funext j;rw[DX (tU h i) j Fc.id fun _=>rfl]
theorem UL(vid:Int)(rn:Nat)(rs:List Rg)(sn:Nat)(sub id:Int):tH vid rn rs sn ss sub id=tH vid rn rs sn ts sub id:=by
 unfold tH;rw[tV h,LE h,qQ h _ Sb.n fun _=>rfl,MQ h]
theorem oT.det(h1:oT sn ss sub i)(h2:oT sn ts sub j):i=j:=by
 rcases Nat.lt_trichotomy i j with e|e|e
 ·exact absurd ((xB h i).symm.trans h1.sid) (h2.sno i e)
 ·exact e
 ·exact absurd ((xB h j).trans h2.sid) (h1.sno j e)
theorem fY.det{id:Int}{j':Nat}(h1:fY sn ss sub id i j)(h2:fY sn ts sub id i' j'):i=i'/\j=j':=by
 obtain rfl:=oT.det h ⟨h1.isn,h1.sid,h1.sno⟩ ⟨h2.isn,h2.sid,h2.sno⟩;have e:=fun k=>DX (tU h i) k Fc.id fun _=>rfl;refine⟨rfl,?_⟩;rcases Nat.lt_trichotomy j j' with g|g|g
 ·exact absurd ((e j).symm.trans h1.fid) (h2.fno j g)
 ·exact g
 ·exact absurd ((e j').trans h2.fid) (h1.fno j' g)
theorem MR(i:Nat):bG (sbAt ss i).fs=bG (sbAt ts i).fs:=by
 have e:∀fs:List Fc,bG fs=bG (fs.map dV):=fun fs=>by
  unfold bG;rw[List.flatMap_map];rfl
 rw[e,tU h,<-e]
theorem iN.det(i:Nat){E y E' y':Int}(h1:iN (sbAt ss i) E y)(h2:iN (sbAt ts i) E' y'):E=E'/\y=y':=by
 have ea:(sbAt ss i).a=(sbAt ts i).a:=qQ h i Sb.a fun _=>rfl;have el:(sbAt ss i).l=(sbAt ts i).l:=qQ h i Sb.l fun _=>rfl;unfold iN at h1 h2;rcases h1 with ⟨rfl,g1⟩|⟨rfl,rfl,g1⟩
 ·have hu:=g1.use;rcases h2 with ⟨rfl,g2⟩|⟨rfl,rfl,g2⟩
  ·refine⟨rfl,?_⟩;have hv:=g2.use;unfold rL at hu hv;simp only[zH,decide_eq_true_eq]at hu hv;rcases Int.lt_trichotomy y y' with e|e|e
   ·exact absurd (g2.first y (by omega) e) (by rw[<-MR h];exact g1.free)
   ·exact e
   ·exact absurd (g1.first y' (by omega) e) (by rw[MR h];exact g2.free)
  ·exact absurd (g2 y (by rw[<-ea,<-el];exact hu)) (by rw[<-MR h];exact g1.free)
 ·rcases h2 with ⟨rfl,g2⟩|⟨rfl,rfl,g2⟩
  ·exact absurd (g1 y' (by rw[ea,el];exact g2.use)) (by rw[MR h];exact g2.free)
  ·exact⟨rfl,rfl⟩
theorem kC.det{id:Int}(h1:kC vid rn rs sn ss sub id E y)(h2:kC vid rn rs sn ts sub id E' y'):E=E'/\y=y':=by
 unfold kC at h1 h2;rw[<-tV h]at h2;split at h1
 ·rw[if_pos (by assumption)]at h2;exact⟨h1.1.trans h2.1.symm,h1.2.trans h2.2.symm⟩
 ·rw[if_neg (by assumption)]at h2;rcases h1 with ⟨n1,rfl,rfl⟩|⟨i,s1,f1⟩
  ·rcases h2 with ⟨n2,rfl,rfl⟩|⟨j,s2,f2⟩
   ·exact⟨rfl,rfl⟩
   ·exact absurd ((xB h j).trans s2.sid) (n1 j s2.isn)
  ·rcases h2 with ⟨n2,rfl,rfl⟩|⟨j,s2,f2⟩
   ·exact absurd ((xB h i).symm.trans s1.sid) (n2 i s1.isn)
   ·obtain rfl:=oT.det h s1 s2;have e0:lF (sbAt ss i) id=lF (sbAt ts i) id:=by
     unfold lF;rw[qQ h i Sb.n fun _=>rfl,MQ h]
    obtain⟨a1,a2⟩:=f1;obtain⟨b1,b2⟩:=f2;rw[<-e0]at b1 b2;by_cases hz:lF (sbAt ss i) id=0
    ·exact iN.det h i (a2 hz) (b2 hz)
    ·exact⟨(a1 hz).1.trans (b1 hz).1.symm,(a1 hz).2.trans (b1 hz).2.symm⟩
theorem oU.det{id:Int}(h1:oU vid rn rs sn ss sub id E y)(h2:oU vid rn rs sn ts sub id E' y'):E=E'/\y=y':=by
 obtain⟨a1,a2⟩:=h1;obtain⟨b1,b2⟩:=h2;rw[<-UL h]at b1 b2;by_cases hz:tH vid rn rs sn ss sub id=0
 ·obtain⟨i,j,s1,m1⟩:=a2 hz;obtain⟨i',j',s2,m2⟩:=b2 hz;obtain⟨rfl,rfl⟩:=fY.det h s1 s2;unfold tL at m1 m2;rw[<-DX (tU h i) j Fc.n fun _=>rfl]at m2;split at m1
  ·rw[if_pos (by assumption)]at m2;exact⟨m1.1.trans m2.1.symm,m1.2.trans m2.2.symm⟩
  ·rw[if_neg (by assumption)]at m2;exact iN.det h i m1 m2
 ·exact⟨(a1 hz).1.trans (b1 hz).1.symm,(a1 hz).2.trans (b1 hz).2.symm⟩
theorem DE.det{e:Sb}{a b:List Sb}(h1:DE e ss a)(h2:DE e ts b):a.map cH=b.map cH:=by
 obtain⟨i,g1,g2,g3,rfl⟩:=h1;obtain⟨j,k1,k2,k3,rfl⟩:=h2;rw[<-Z9 h]at k1 k3;rw[tT (fun k _=>xB h k) g1 g2 g3 k1 k2 k3];simp only[List.map_append,List.map_take,List.map_drop,h]
end
theorem wR.det{e e':Fc}{fs gs a b:List Fc}(h:fs.map dV=gs.map dV)(he:dV e=dV e')(h1:wR e fs a)(h2:wR e' gs b):a.map dV=b.map dV:=by
 obtain⟨i,g1,g2,g3,rfl⟩:=h1;obtain⟨j,k1,k2,k3,rfl⟩:=h2;have hl:fs.length=gs.length:=by
  have:=congrArg List.length h;rwa[List.length_map,List.length_map]at this
 rw[<-show e.id=e'.id from show(dV e).id=(dV e').id by rw[he]]at k2 k3;rw[<-hl]at k1 k3;rw[tT (fun k _=>DX h k Fc.id fun _=>rfl) g1 g2 g3 k1 k2 k3];simp only[List.map_append,List.map_take,List.map_drop,zK,zM,h,he]
theorem DH.det{l a b:List Int}(h:DH e l a)(g:DH e l b):a=b:=by
 obtain⟨i,h1,h2,h3,rfl⟩:=h;obtain⟨j,g1,g2,g3,rfl⟩:=g;rw[tT (fun _ _=>rfl) h1 h2 h3 g1 g2 g3]
theorem vY{s u:Sb}(h:cH s=cH u){x y:Option Addr}{c d:Nat}{n:Nat}{fs gs:List Fc}(hf:fs.map dV=gs.map dV):cH (cX s x n c fs)=cH (cX u y n d gs):=by
 have e:s.id=u.id/\s.a=u.a/\s.l=u.l:=⟨show(cH s).id=(cH u).id by rw[h],show(cH s).a=(cH u).a by rw[h],show(cH s).l=(cH u).l by rw[h]⟩;unfold cH cX;simp only[e.1,e.2.1,e.2.2,hf]
structure UV(v u:Vn):Prop where
 id:v.id=u.id
 rn:v.rn=u.rn
 rs:v.rs=u.rs
 sn:v.sn=u.sn
 ss:v.ss.map cH=u.ss.map cH
theorem aAa{v:Vn}(h:bA v=bA u):UV v u:=⟨show(bA v).id=(bA u).id by rw[h],show(bA v).rn=(bA u).rn by rw[h],show(bA v).rs=(bA u).rs by rw[h],show(bA v).sn=(bA u).sn by rw[h],show(bA v).ss=(bA u).ss by rw[h]⟩
theorem UV.can{v:Vn}(h:UV v u):bA v=bA u:=by
 unfold bA;rw[h.id,h.rn,h.rs,h.sn,h.ss]
theorem tY.det{v:Vn}{n n':Int}(h:UV v u)(h1:tY v cd E n)(h2:tY u cd E' n'):E=E'/\n=n':=by
 unfold tY at h1 h2;rw[<-h.id,<-h.rn,<-h.rs,<-h.sn]at h2;split at h1
 ·rw[if_pos (by assumption),<-WY h.ss]at h2;exact⟨h1.1.trans h2.1.symm,h1.2.trans h2.2.symm⟩
 rw[if_neg (by assumption)]at h2;split at h1
 ·rw[if_pos (by assumption),<-PW h.ss]at h2;exact⟨h1.1.trans h2.1.symm,h1.2.trans h2.2.symm⟩
 rw[if_neg (by assumption)]at h2;split at h1
 ·rw[if_pos (by assumption)]at h2;exact kC.det h.ss h1 h2
 rw[if_neg (by assumption)]at h2;split at h1
 ·rw[if_pos (by assumption)]at h2;exact oU.det h.ss h1 h2
 ·rw[if_neg (by assumption),<-UL h.ss]at h2;exact⟨h1.1.trans h2.1.symm,h1.2.trans h2.2.symm⟩
theorem LF(h:ss.map cH=ts.map cH)(i:Nat):cH (sbAt ss i)=cH (sbAt ts i):=by rw[<-eW,h,eW]
theorem L7.det{v:Vn}{a b:List Sb}(h:UV v u)(h1:L7 v cd y a)(h2:L7 u cd y b):a.map cH=b.map cH:=by
 unfold L7 at h1 h2;rw[<-h.sn]at h2;split at h1
 ·rw[if_pos (by assumption)]at h2;obtain⟨t1,s1,p1⟩:=h1;obtain⟨t2,s2,p2⟩:=h2;exact DE.det (s1.can.symm.trans (h.ss.trans s2.can)) p1 p2
 rw[if_neg (by assumption)]at h2;split at h1
 ·rw[if_pos (by assumption)]at h2;obtain⟨t1,i,s1,i1,d1,n1,rfl⟩:=h1;obtain⟨t2,j,s2,i2,d2,n2,rfl⟩:=h2;have e:=s1.can.symm.trans (h.ss.trans s2.can);obtain rfl:i=j:=by
   rcases Nat.lt_trichotomy i j with g|g|g
   ·exact absurd ((xB h.ss i).symm.trans d1) (n2 i g)
   ·exact g
   ·exact absurd ((xB h.ss j).trans d2) (n1 j g)
  simp only[List.map_append,List.map_take,List.map_drop,e]
 rw[if_neg (by assumption)]at h2;split at h1
 ·rw[if_pos (by assumption)]at h2;obtain⟨t1,i,x1,m1,c1,f1,g1,a1, -,s1,p1,e1,rfl⟩:=h1;obtain⟨t2,j,x2,m2,c2,f2,g2,a2, -,s2,p2,e2,rfl⟩:=h2;obtain rfl:=oT.det h.ss a1 a2;have e:=s1.can.symm.trans (h.ss.trans s2.can);have hg:=wR.det (tU e i) (by rfl) p1 p2;have hl:g1.length=g2.length:=by
   have:=congrArg List.length hg;rwa[List.length_map,List.length_map]at this
  rw[e1,e2,hl];exact mW e (vY (LF e i) hg)
 rw[if_neg (by assumption)]at h2;split at h1
 ·rw[if_pos (by assumption)]at h2;obtain⟨t1,i,j,x1,c1,n1,a1, -,s1,p1,rfl⟩:=h1;obtain⟨t2,i',j',x2,c2,n2,a2, -,s2,p2,rfl⟩:=h2;obtain⟨rfl,rfl⟩:=fY.det h.ss a1 a2;have e:=s1.can.symm.trans (h.ss.trans s2.can);have en:(fcAt (sbAt t1 i).fs j).ns=(fcAt (sbAt t2 i).fs j).ns:=DX (tU e i) j Fc.ns fun _=>rfl;rw[en]at p1;obtain rfl:=p1.det p2;rw[qQ e i Sb.n fun _=>rfl];refine mW e (vY (LF e i) (mW (tU e i) ?_));unfold dV withA;rw[DX (tU e i) j Fc.id fun _=>rfl]
 ·rw[if_neg (by assumption)]at h2;obtain⟨t1,i,j,x1,n1,c1,a1,s1,e1,rfl⟩:=h1;obtain⟨t2,i',j',x2,n2,c2,a2,s2,e2,rfl⟩:=h2;obtain⟨rfl,rfl⟩:=fY.det h.ss a1 a2;have e:=s1.can.symm.trans (h.ss.trans s2.can);have hg:((sbAt t1 i).fs.take j++(sbAt t1 i).fs.drop (j+1)).map dV=((sbAt t2 i).fs.take j++(sbAt t2 i).fs.drop (j+1)).map dV:=by
   simp only[List.map_append,List.map_take,List.map_drop,tU e i]
  have hl:=congrArg List.length hg;rw[List.length_map,List.length_map]at hl;rw[e1,e2,hl];exact mW e (vY (LF e i) hg)
theorem UT.det{v a b:Vn}(h:UV v u)(h1:UT v cd y a)(h2:UT u cd y b):bA a=bA b:=by
 obtain⟨d1,r1,n1,w1,l1⟩:=h1;obtain⟨d2,r2,n2,w2,l2⟩:=h2;have e:=w1.det h w2;have hl:=congrArg List.length e;rw[List.length_map,List.length_map]at hl;exact UV.can ⟨by rw[d1,d2,h.id],by rw[n1,n2,h.rs],by rw[r1,r2,h.rs],by rw[l1,l2,hl],e⟩
end Go.Proofs.YtjphnaccgfjnjaaGreatDoor
