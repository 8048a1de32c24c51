/- DeskShows answers true for every site of bulk at most 1048576, in every world that holds the listed variables; its card closes by the given tie. -/
import Derived.Test.YtkgeoeglidnnnaaGreatDoorMD15
set_option maxRecDepth 100000
set_option maxHeartbeats 20000000
namespace Go.Proofs.YtkgeoeglidnnnaaGreatDoor
variable {w V w' w2 W : World} {V' : List Vn} {r : Option Nat} {base g n cap k i f j b0 : Nat} {v : Value} {xs : List Int} {ops : Array Oper} {rest : List Oper} {o : Oper} {a : Act} {Q : Exit → Act → World → Prop} {l : List Value} {b x0 x1 x2 x3 p : Int} {c : Cm} {x : Option Addr} {cs : List Cm} {ls : List Le} {L L' : List (Int × Int)} {s : fQ}
open Go.RowKit
theorem dZ{V':World}(h:Below w.heap.size w V)(g:V.grownBy V' r)(hr:∀k,r=some k->w.heap.size<=k):Below w.heap.size w V':=
 ⟨g.os.trans h.os,g.tape.trans h.tape,g.output.trans h.output,Nat.le_trans h.size g.size,fun j hj=>(g.block j (Nat.lt_of_lt_of_le hj h.size) (fun e=>by have:=hr j e.symm;omega)).trans (h.block j hj)⟩
theorem XH:(Tryz.prog.info? 5).map (fun i=>(i.zero,i.size,i.bytes))=some (some (.int .u8 0),1,1):=by kernel_rfl
theorem AN:∃i,Tryz.prog.info? 5=some i/\i.zero=some (.int .u8 0)/\i.size=1/\i.bytes=1:=by
 obtain⟨i,hi,h⟩:=Option.map_eq_some_iff.1 XH;simp only[Prod.mk.injEq]at h;exact⟨i,hi,h.1,h.2.1,h.2.2⟩
theorem kE:Tryz.prog.underlying 108=some (.slice 5):=by kernel_rfl
theorem H2:Tryz.prog.underlying 5=some (.int .u8):=by kernel_rfl
theorem uP:Tryz.prog.underlying 9=some .string:=by kernel_rfl
def OB(w:World)(base:Nat)(v:Value)(xs:List Int):Prop:=w.ownsRow base 5 1 v xs.length (xs.map (Value.int .u8))
theorem OB.nil(w:World)(base:Nat):OB w base (.slice none 0 0) []:=World.ownsRow_nil _ _ _ _
theorem OB.later(h:OB w base v xs)(hb:Below w.heap.size w w'):OB w' base v xs:=by
 refine World.ownsRow.kept h (dS hb) ?_
 cases hv:v.ownBlock
 ·exact .inl rfl
 ·exact .inr (by simp)
theorem OB.kept(h:OB w base v xs)(hg:w.grownBy w' (some g))(hne:∀k,v.ownBlock=some k->k≠g):OB w' base v xs:=by
 refine World.ownsRow.kept h hg ?_
 cases hv:v.ownBlock
 ·exact .inl rfl
 ·rename_i k;exact .inr fun e=>hne k hv (Option.some.inj e)
theorem OB.alloc(h:OB w base v xs)(o:Obj):OB (w.alloc o) base v xs:=World.ownsRow.alloc h o
theorem OB.one(w:World)(base k:Nat)(x:Int)(hk:k=w.heap.size)(hb:base<=k):OB (w.alloc (.cells #[.int .u8 x] 5)) base (.slice (some ⟨k,0,none⟩) 1 1) [x]:=by
 subst hk;exact⟨by simp, .inr ⟨w.heap.size,1,#[.int .u8 x],rfl,hb,heap_alloc_new w _,by simp,by unfold maxLen;simp,by simp,by simp⟩⟩
theorem OB.shape(h:OB w base v xs)(h0:xs≠[]):∃g cap cur,v= .slice (some ⟨g,0,none⟩) xs.length cap/\base<=g/\w.heap[g]?=some (.cells cur 5 (0,0))/\xs.length<=cap/\cur.size=cap/\cur.toList.take xs.length=xs.map (Value.int .u8):=by
 rcases h.2 with ⟨_,h1⟩|⟨g,cap,cur,h1,h2,h3,h4,_,h6,h7⟩
 ·exact absurd (List.eq_nil_of_length_eq_zero h1) h0
 ·exact⟨g,cap,cur,h1,h2,h3,h4,by simpa using h6,by simpa using h7⟩
theorem OB.cell(h:OB w base (.slice (some ⟨g,0,none⟩) n cap) xs)(i:Nat)(hi:i<xs.length):w.cell? ⟨g,i,none⟩=some (.int .u8 (pE xs i)):=by
 have:=World.ownsRow.cells h (g:=g) rfl i (.int .u8 (pE xs i)) (by simp[pE,hi]);rw[Addr.add_lit]at this;simpa using this
theorem OB.lt(h:OB w base v xs):∀k,v.ownBlock=some k->base<=k/\k<w.heap.size:=World.ownsRow.lt h
theorem OB.cells(h:OB w base (.slice (some ⟨g,0,none⟩) n cap) xs):∀i,i<xs.length->w.cell? ⟨g,i,none⟩=some (.int .u8 (pE xs i)):=fun i hi=>h.cell i hi
theorem gF(hgd:o.guard=none)(s x:Operand)
 (ho:o.op= .call {callee:= .builtin .append,args:=#[s,x],argTypes:=#[108,108]})(base:Nat)(v:Value)(xs:List Int)(hs:a.eval s=v)(hO:OB w base v xs)
 (g m c:Nat)(ys:List Int)(hx:a.eval x= .slice (some ⟨g,0,none⟩) m c)(hm:ys.length=m)(hy:∀i,i<ys.length->w.cell? ⟨g,i,none⟩=some (.int .u8 (pE ys i)))
 (hlen:xs.length+m<=140737488355328)(hbase:base<=w.heap.size)
 (h:∀v' w',OB w' base v' (xs++ys)->w.grownBy w' v.ownBlock->wpList Tryz.prog ops Q rest (a.put o.dst v') w'):wpList Tryz.prog ops Q (o::rest) a w:=by
 obtain⟨i0,hi,hz0,hz1,hz2⟩:=AN;subst hm;refine wpList_append_own w hgd s x 108 ho base 5 i0 (.int .u8 0) 1 1 kE hi hz0 hz1 hz2 rfl (by decide) v xs.length (xs.map (Value.int .u8)) hs hO ⟨g,0,none⟩ ys.length c (ys.map (Value.int .u8)) hx (by simp) ?_ ?_ (by unfold maxLen;omega) (by omega) hbase ?_
 ·intro j u hj;have hjl:j<ys.length:=by
   by_cases h:j<ys.length
   ·exact h
   ·rw[List.getElem?_eq_none (by simpa using h)]at hj;cases hj
  rw[Addr.add_lit,Nat.zero_add,hy j hjl];rw[List.getElem?_map,List.getElem?_eq_getElem hjl]at hj;simp only[Option.map_some,Option.some.injEq]at hj;rw[<-hj];simp[pE,hjl]
 ·intro u hu;obtain⟨_,_,rfl⟩:=List.mem_map.1 hu;rfl
 ·intro v' w' h1 h2 _;refine h v' w' ?_ h2;unfold OB;rw[List.map_append,List.length_append];exact h1
def bs(s:ByteArray):List Int:=s.data.toList.map fun b=>(b.toNat:Int)
theorem gG(s:ByteArray):(bs s).length=s.size:=by unfold bs;rw[List.length_map,Array.length_toList];rfl
theorem AO(s:ByteArray):A1 (bs s):=fun x hx=>by
 obtain⟨b,_,rfl⟩:=List.mem_map.1 hx;have:=b.toNat_lt;omega
theorem H3(s:ByteArray):Lib.strCells s=(bs s).map (Value.int .u8):=by unfold Lib.strCells bs;rw[List.map_map];rfl
theorem aAo(s:ByteArray):strOfNums (bs s)=s:=by
 unfold strOfNums bs;rw[List.map_map];have:(s.data.toList.map ((fun n:Int=>UInt8.ofNat n.toNat)∘fun b:UInt8=>(b.toNat:Int)))=s.data.toList:=by
  rw[List.map_congr_left (g:=id) (fun b _=>by simp),List.map_id]
 rw[this]
theorem EZ(h:A1 xs):bs (strOfNums xs)=xs:=by
 unfold bs;rw[strOfNums_data,List.map_map];rw[List.map_congr_left (g:=id) (fun x hx=>?_),List.map_id];have:=h x hx;simp only[Function.comp,id];have e:(UInt8.ofNat x.toNat).toNat=x.toNat:=by rw[UInt8.toNat_ofNat'];omega
 rw[e];omega
theorem kF(hgd:o.guard=none)(s x:Operand)
 (ho:o.op= .call {callee:= .builtin .append,args:=#[s,x],argTypes:=#[108,9]})(base:Nat)(v:Value)(xs:List Int)(hs:a.eval s=v)(hO:OB w base v xs)
 (t:ByteArray)(hx:a.eval x= .string t)(hlen:xs.length+t.size<=140737488355328)(hbase:base<=w.heap.size)
 (h:∀v' w',OB w' base v' (xs++bs t)->w.grownBy w' v.ownBlock->wpList Tryz.prog ops Q rest (a.put o.dst v') w'):wpList Tryz.prog ops Q (o::rest) a w:=by
 obtain⟨i0,hi,hz0,hz1,hz2⟩:=AN;obtain⟨v',w',hrun,r1,r2,_⟩:=Lib.run_append_own_string (P:=Tryz.prog) w base 108 9 o.type 5 i0 kE uP hi hz0 hz1 hz2 v xs.length (xs.map (Value.int .u8)) hO t (by unfold maxLen;omega) (by omega) hbase;refine wpList_plain hgd fun K hK=>?_;unfold Oper.wp;simp only[execOp,ho,resolve,invoke,builtin,Sem.run_bind,Sem.run_pure,Result.andThen_ok,List.map_toArray,zK,zM,hs,hx,hrun];refine hK _ _ (h v' w' ?_ r2);unfold OB;rw[List.map_append,List.length_append,gG,<-H3];exact r1
theorem OB.four{n:Int}(h:OB w base v (XE n)):∃g cap,v= .slice (some ⟨g,0,none⟩) 4 cap/\base<=g:=by
 obtain⟨g,cap, -,h1,h2, -⟩:=h.shape (by simp[XE]);exact⟨g,cap,h1,h2⟩
def sh(n:Int):Nat->Int
 |0=>n
 |k+1=>sh n k/256
def PH(n:Int):Nat->List Int
 |0=>[]
 |k+1=>PH n k++[sh n k%256]
theorem aAp(n:Int):PH n 4=XE n:=by
 have h2:n/256/256=n/65536:=by omega
 have h3:n/65536/256=n/16777216:=by omega
 simp only[PH,sh,List.nil_append,List.cons_append,h2,h3];rfl
theorem H4(n:Int):∀k,(PH n k).length=k
 |0=>rfl
 |k+1=>by simp[PH,H4 n k]
theorem H5{n:Int}(h0:0<=n)(h1:n<4294967296):∀k,0<=sh n k/\sh n k<4294967296
 |0=>⟨h0,h1⟩
 |k+1=>by
  have:=H5 h0 h1 k;simp only[sh];omega
theorem lowFirst_any(n:Int)(w:World)(h0:0<=n)(h1:n<4294967296):
  Calls Tryz.prog 109 #[.int .u32 n] w fun e w'=>∃v,e= .returned v/\OB w' w.heap.size v (XE n)/\Below w.heap.size w w':=by
 obtain⟨i0,hi,hz0,hz1,hz2⟩:=AN;go_enter Tryz.func109,Tryz.ntmps109;go_wp2;go_loopw [0,3,4] (fun m v i wr=>∃k:Nat,k<=4/\i= .int .i64 k/\m= .int .u32 (sh n k)/\OB wr w.heap.size v (PH n k)/\Below w.heap.size w wr) (fun _ _ i _=>4- (intOf i).toNat)
 case atStart=>exact⟨0,by omega,rfl,rfl,OB.nil _ _,zD⟩
 case round=>
  obtain⟨k,hk,rfl,rfl,hO,hB⟩:=hrel
  have hs:=H5 h0 h1 k
  have hll:=H4 n k
  by_cases hlt:k<4
  ·have hlt':=hlt;go_wp2_with (at_builtin;refine Hid.out ?_);unfold Hid;refine gF rfl _ _ rfl w.heap.size _ _ rfl (hO.alloc _) wr.heap.size 1 1 [sh n k%256] rfl rfl (fun i hi=>?_) (by omega) (by have:=hB.size;simp;omega) ?_
   ·obtain rfl:i=0:=by simpa using hi
    simp[pE]
   ·intro v' w' hO' hg;have hB':=dZ (hB.alloc hB.size _) hg (fun k e=>(hO.lt k e).1);go_wp2;go_roundw
    case rel=>exact⟨k+1,hlt',by go_num,rfl,hO',hB'⟩
    case measure=>simp[intOf];omega
  ·obtain rfl:k=4:=by omega
   go_wp2;go_ret;exact⟨_,rfl,by rw[<-aAp];exact hO,hB⟩
def L7(w:World)(g:Nat)(x0 x1 x2 x3:Int):World:=
 ((((w.setCell ⟨g,0,none⟩ (.int .u8 x3)).setCell ⟨g,3,none⟩ (.int .u8 x0)).setCell ⟨g,1,none⟩ (.int .u8 x2)).setCell ⟨g,2,none⟩ (.int .u8 x1)).drew.drew
theorem T7(g cap:Nat)(x0 x1 x2 x3:Int)(w:World)(c0:w.cell? ⟨g,0,none⟩=some (.int .u8 x0))(c1:w.cell? ⟨g,1,none⟩=some (.int .u8 x1))(c2:w.cell? ⟨g,2,none⟩=some (.int .u8 x2))(c3:w.cell? ⟨g,3,none⟩=some (.int .u8 x3))
 (f0:w.frozen? ⟨g,0,none⟩=false)(f1:w.frozen? ⟨g,1,none⟩=false)(f2:w.frozen? ⟨g,2,none⟩=false)(f3:w.frozen? ⟨g,3,none⟩=false):
  Calls Tryz.prog 110 #[.slice (some ⟨g,0,none⟩) 4 cap] w fun e w'=>e= .returned (.tuple #[])/\w'=L7 w g x0 x1 x2 x3:=by
 go_enter Tryz.func110,Tryz.ntmps110;go_wp2;refine wp_loop_rounds 3 ?_;rw[rounds_succ];go_wp2;go_region;go_wp2;rw[rounds_succ];go_wp2;go_region;go_wp2;rw[rounds_succ];go_wp2;go_end0;exact⟨rfl,rfl⟩
theorem H6(w:World)(g:Nat)(x0 x1 x2 x3:Int):w.grownBy (L7 w g x0 x1 x2 x3) (some g):=by
 refine⟨rfl,rfl,rfl,by simp[L7],fun k _ hne=>?_⟩;have hk:k≠g:=fun e=>hne (by rw[e]);show((((w.setCell ⟨g,0,none⟩ (.int .u8 x3)).setCell ⟨g,3,none⟩ (.int .u8 x0)).setCell ⟨g,1,none⟩ (.int .u8 x2)).setCell ⟨g,2,none⟩ (.int .u8 x1)).heap[k]?=_;rw[zB hk,zB hk,zB hk,zB hk]
theorem aAq{a b c d:Value}(h:l.take 4=[a,b,c,d]):∃r,l=a::b::c::d::r:=by
 rcases l with _|⟨p,_|⟨q,_|⟨r,_|⟨s,t⟩⟩⟩⟩
 all_goals simp at h
 obtain⟨rfl,rfl,rfl,rfl⟩:=h;exact⟨t,rfl⟩
theorem PI(h:OB w base (.slice (some ⟨g,0,none⟩) 4 cap) [x0,x1,x2,x3]):OB (L7 w g x0 x1 x2 x3) base (.slice (some ⟨g,0,none⟩) 4 cap) [x3,x2,x1,x0]:=by
 rcases h.2 with ⟨hv, -⟩|⟨g',cap',cur,hv,h1,h2,h3,h4,h5,h6⟩
 ·simp at hv
 ·simp only[Value.slice.injEq,Option.some.injEq,Addr.mk.injEq]at hv;obtain⟨⟨rfl, -⟩, -,rfl⟩:=hv;refine⟨rfl, .inr ⟨g,cap,(((cur.setIfInBounds 0 (.int .u8 x3)).setIfInBounds 3 (.int .u8 x0)).setIfInBounds 1 (.int .u8 x2)).setIfInBounds 2 (.int .u8 x1),rfl,h1,?_,h3,h4,by simpa using h5,?_⟩⟩
  ·have e0:=heap_setCell_same w g 0 _ 5 (.int .u8 x3) h2;have e1:=heap_setCell_same _ g 3 _ 5 (.int .u8 x0) e0;have e2:=heap_setCell_same _ g 1 _ 5 (.int .u8 x2) e1;exact heap_setCell_same _ g 2 _ 5 (.int .u8 x1) e2
  ·obtain⟨r,hr⟩:=aAq h6;simp[hr]
theorem OB.frozen(h:OB w base (.slice (some ⟨g,0,none⟩) n cap) xs)(i:Nat):w.frozen? ⟨g,i,none⟩=false:=by
 rcases h.2 with ⟨hv, -⟩|⟨g',cap',cur,hv,h1,h2,h3,h4,h5,h6⟩
 ·simp at hv
 ·simp only[Value.slice.injEq,Option.some.injEq,Addr.mk.injEq]at hv;obtain⟨⟨rfl, -⟩, -,rfl⟩:=hv;simp[World.frozen?,h2]
theorem H7(h:OB w base (.slice (some ⟨g,0,none⟩) 4 cap) [x0,x1,x2,x3]):
  Calls Tryz.prog 110 #[.slice (some ⟨g,0,none⟩) 4 cap] w fun e w'=>e= .returned (.tuple #[])/\OB w' base (.slice (some ⟨g,0,none⟩) 4 cap) [x3,x2,x1,x0]/\w.grownBy w' (some g):=by
 refine(T7 g cap x0 x1 x2 x3 w (h.cell 0 (by simp)) (h.cell 1 (by simp)) (h.cell 2 (by simp)) (h.cell 3 (by simp)) (h.frozen 0) (h.frozen 1) (h.frozen 2) (h.frozen 3)).mono ?_;rintro e w' ⟨rfl,rfl⟩;exact⟨rfl,PI h,H6 _ _ _ _ _ _⟩
abbrev PW(c:Cm):Value:= .agg #[.int .i64 c.op, .int .i64 c.a, .int .i64 c.b, .int .i64 c.c, .int .i64 c.p, .int .i64 c.l, .int .i64 c.mn, .int .i64 c.mx, .int .i64 c.us, .int .i64 c.co]
abbrev nmV(c:Cm):Value:= .agg #[.int .i64 c.a, .int .i64 c.b, .int .i64 c.c, .int .i64 c.p, .int .i64 c.l, .int .i64 c.mn, .int .i64 c.mx, .int .i64 c.us, .int .i64 c.co]
theorem numbers_any(c:Cm)(w:World):
  Calls Tryz.prog 108 #[PW c] w fun e w'=>e= .returned (nmV c)/\Below w.heap.size w w':=by
 go_enter Tryz.func108,Tryz.ntmps108;go_wp2;exact bodyPost_ret (v:=nmV c) (by simp[results,Tryz.results108,go_sem]) rfl ⟨rfl,bP w _ _⟩
theorem aEz(c:Cm)(k:Nat)(hk:k<9)(w:World):(Instr.index 173 (nmV c) (.int .i64 k)).run Tryz.prog w= .ok (.int .i64 (c.num k)) w:=by
 rcases k with _|_|_|_|_|_|_|_|_|k
 case succ.succ.succ.succ.succ.succ.succ.succ.succ=>omega
 all_goals kernel_rfl
def wrE(c:Cm):Int:=if okCm c=true then 0 else 3
def wrS(c:Cm):List Int:=if okCm c=true then fV c else[]
theorem mO{s t:ByteArray}{a:Int}(h:s=t)(h2:a=b):Ending.returned (.tuple #[.string s, .int .i64 a])= .returned (.tuple #[.string t, .int .i64 b]):=by rw[h,h2]
theorem AP(h:okCm c=false):wrE c=3/\wrS c=[]:=by unfold wrE wrS;rw[h];exact⟨rfl,rfl⟩
theorem E0(h:okCm c=true):wrE c=0/\wrS c=fV c:=by unfold wrE wrS;rw[h];exact⟨rfl,rfl⟩
theorem qR(h:OB w base (.slice (some ⟨g,0,none⟩) n cap) xs)(hn:xs.length=n):(convert 108 9 (.slice (some ⟨g,0,none⟩) n cap)).run Tryz.prog w= .ok (.string (strOfNums xs)) w:=
 run_convert_bytes_arg w 108 5 kE H2 g 0 n cap xs hn (fun i hi=>by rw[Nat.zero_add];exact h.cell i (by omega)) 9 uP
theorem T8(n:Int):[n%4294967296/16777216%256,n%4294967296/65536%256,n%4294967296/256%256,n%4294967296%256]=YJ n:=by
 unfold YJ;rw[show n%4294967296/16777216%256=n/16777216%256 by omega,show n%4294967296/65536%256=n/65536%256 by omega,show n%4294967296/256%256=n/256%256 by omega,show n%4294967296%256=n%256 by omega]
theorem CY(c:Cm)(w:World):
  Calls Tryz.prog 70 #[PW c] w fun e w'=>e= .returned (.tuple #[.string (strOfNums (wrS c)), .int .i64 (wrE c)])/\Below w.heap.size w w':=by
 by_cases hout:c.op<0\/255<c.op
 ·obtain⟨e1,e2⟩:=AP (T4 hout);rw[e1,e2];by_cases h1:c.op<0
  ·go_enter Tryz.func70,Tryz.ntmps70;go_wp2;go_ret2;exact⟨rfl,bl1 w _⟩
  ·have h2:255<c.op:=by omega
   go_enter Tryz.func70,Tryz.ntmps70;go_wp2;go_ret2;exact⟨rfl,bl1 w _⟩
 ·have h1:0<=c.op:=by omega
  have h2:c.op<=255:=by omega
  have hix:=aEz c;go_enter Tryz.func70,Tryz.ntmps70;go_wp2_with (go_at_call 108;refine(numbers_any c _).mono ?_;rintro e w1 ⟨rfl,hb1⟩);have hB0:Below w.heap.size w w1:=(bP w _ _).trans (hb1.mono (by simp;omega));have hO0:OB w1 w.heap.size (.slice (some ⟨w.heap.size+1,0,none⟩) 1 1) (lM c 0):=by
   have e:lM c 0=[c.op]:=by unfold lM uL;rw[show c.op%256=c.op by omega]
   rw[e];exact(OB.one (w.alloc _) w.heap.size (w.heap.size+1) c.op (by simp) (by omega)).later hb1
  clear hb1;go_loopw [4,22] (fun v i wr=>∃k:Nat,k<=9/\i= .int .i64 k/\(∀j,j<k->EX (c.num j)=true)/\OB wr w.heap.size v (lM c k)/\Below w.heap.size w wr) (fun _ i _=>9- (intOf i).toNat)
  case atStart=>exact⟨0,by omega,rfl,fun j hj=>by omega,hO0,hB0⟩
  case round=>
   obtain⟨k,hk,rfl,hf,hO,hB⟩:=hrel
   have hcl:(lM c k).length<=37:=by rw[uM];omega
   by_cases hlt:k<9
   ·have hlt':=hlt;have hixk:=hix k hlt
    cases hfk:EX (c.num k)
    ·by_cases h3:c.num k< -2147483648
     ·go_wp2;go_ret2;exact⟨mO (by rw[(AP (xB hlt' hfk)).2];rfl) (AP (xB hlt' hfk)).1.symm,hB⟩
     ·have h4:2147483647<c.num k:=by
       have:¬(-2147483648<=c.num k/\c.num k<=2147483647):=fun h=>by rw[AI.2 h]at hfk;cases hfk
       omega
      go_wp2;go_ret2;exact⟨mO (by rw[(AP (xB hlt' hfk)).2];rfl) (AP (xB hlt' hfk)).1.symm,hB⟩
    ·obtain⟨h3,h4⟩:=AI.1 hfk;go_wp2_with (first|(go_at_call 109;refine(lowFirst_any _ _ (by omega) (by omega)).mono ?_;rintro e w2 ⟨v2,rfl,hO2,hB2⟩)|(go_at_call 110;refine Hid.out ?_))
     unfold Hid;obtain⟨g2,cap2,rfl,hg2⟩:=hO2.four;refine(H7 hO2).mono ?_;rintro e w3 ⟨rfl,hO3,hg3⟩;have hB3:=dZ (hB.trans (hB2.mono hB.size)) hg3 (fun j e=>by have:=hB.size;cases e;omega);have hOk:=(hO.later hB2).kept hg3 (fun j e=>by have:=(hO.lt j e).2;omega);go_wp2_with (at_builtin;refine Hid.out ?_);unfold Hid;refine gF rfl _ _ rfl w.heap.size _ _ rfl hOk g2 4 cap2 _ rfl rfl hO3.cells (by omega) hB3.size ?_;intro v' w' hO' hg;have hB':=dZ hB3 hg (fun k e=>(hOk.lt k e).1);go_wp2;go_roundw
     case rel=>exact⟨k+1,hlt',by go_num,fun j hj=>by
      by_cases hj2:j<k
      ·exact hf j hj2
      ·obtain rfl:j=k:=by omega
       exact hfk,by rw[KN,<-T8];exact hO',hB'⟩
     case measure=>simp[intOf];omega
   ·obtain rfl:k=9:=by omega
    obtain⟨g,cap, -,rfl, -⟩:=hO.shape (by simp[lM]);have hcv:=qR hO rfl;go_wp2;go_ret2;exact⟨mO (by rw[(E0 (HZ h1 h2 hf)).2];rfl) (E0 (HZ h1 h2 hf)).1.symm,hB⟩
theorem T9{k:IntKind}{a:Int}(h:a=b):Ending.returned (.int k a)= .returned (.int k b):=by rw[h]
theorem UA{s:ByteArray}(hk:k<s.size):pE (bs s) k=(s[k].toNat:Int):=by
 unfold pE bs;have hk':k<s.data.toList.length:=by rw[Array.length_toList];exact hk
 rw[zF,List.getElem?_map,List.getElem?_eq_getElem hk'];rfl
def pre(xs:List Int):Nat->Int
 |0=>0
 |k+1=>256*pre xs k+pE xs k
theorem CZ(h:A1 xs):(0<=pre xs 0/\pre xs 0<1)/\(0<=pre xs 1/\pre xs 1<256)/\(0<=pre xs 2/\pre xs 2<65536)/\(0<=pre xs 3/\pre xs 3<16777216)/\(0<=pre xs 4/\pre xs 4<4294967296):=by
 have b0:=mN h 0;have b1:=mN h 1;have b2:=mN h 2;have b3:=mN h 3;simp only[pre];omega
theorem aDx(xs:List Int):pre xs 4=T5 (pE xs 0) (pE xs 1) (pE xs 2) (pE xs 3):=by
 unfold T5;simp only[pre];omega
theorem aAr(h:A1 xs)(k:Nat)(hk:k<4):0<=pre xs k/\pre xs k<16777216:=by
 obtain⟨h0,h1,h2,h3, -⟩:=CZ h;rcases k with _|_|_|_|k
 ·omega
 ·simp only[Nat.zero_add];omega
 ·simp only[Nat.zero_add,Nat.reduceAdd];omega
 ·simp only[Nat.zero_add,Nat.reduceAdd];omega
 ·omega
theorem or8(hp0:0<=p)(hp:p<16777216)(hb0:0<=b)(hb:b<256):bits .or .u32 (p*256) b=256*p+b:=by
 obtain⟨x,rfl⟩:=Int.eq_ofNat_of_zero_le hp0;obtain⟨y,rfl⟩:=Int.eq_ofNat_of_zero_le hb0;rw[show((x:Int)*256)=((x*256:Nat):Int) by omega,u32_or_nat _ _ (by omega) (by omega)];have h:x*256|||y=x*256+y:=by
  rw[show x*256=x<<<8 by simp[Nat.shiftLeft_eq]];exact(Nat.shiftLeft_add_eq_or_of_lt (show y<2^8 by omega) x).symm
 rw[h];omega
theorem UB{x:Int}(h0:0<=x)(h1:x<4294967296):wrap64 (wrap32 x)=sgn x:=by
 unfold wrap64 wrap32 sgn;split<;>omega
theorem KP(s:ByteArray)(w:World)(hs:4<=s.size):
  Calls Tryz.prog 137 #[.string s] w fun e w'=>e= .returned (.int .i64 (sgn (pre (bs s) 4)))/\w'=w:=by
 go_enter Tryz.func137,Tryz.ntmps137;go_wp2;go_loop [3,5] (fun n i=>∃k:Nat,k<=4/\i= .int .i64 k/\n= .int .u32 (pre (bs s) k)) (fun _ i=>4- (intOf i).toNat)
 case atStart=>exact⟨0,by omega,rfl,rfl⟩
 case round=>
  obtain⟨k,hk,rfl,rfl⟩:=hrel
  by_cases hlt:k<4
  ·have hr:=aAr (AO s) k hlt;have hks:k<s.size:=by omega
   have hlt':=hlt;have hbt:=UA hks;have hb:=mN (AO s) k;rw[hbt]at hb;go_wp2;go_round
   case rel=>exact⟨k+1,hlt',by go_num,by rw[or8 hr.1 hr.2 hb.1 (by omega),<-hbt];rfl⟩
   case measure=>simp[intOf];omega
  ·obtain rfl:k=4:=by omega
   have hr:=(CZ (AO s)).2.2.2.2;go_wp2;go_ret;exact⟨T9 (UB hr.1 hr.2),rfl⟩
theorem gH(s:ByteArray)(a b:Nat):bs (s.extract a b)=((bs s).drop a).take (b- a):=by
 obtain⟨⟨l⟩⟩:=s;have h:=ByteArray.extract_mk l a b;unfold bs;rw[show(ByteArray.mk (Array.mk l)).extract a b=ByteArray.mk ((l.drop a).take (b- a)).toArray from h];simp[List.map_take,List.map_drop]
theorem xC(xs:List Int)(a n i:Nat)(h:i<n):pE ((xs.drop a).take n) i=pE xs (a+i):=by
 unfold pE;rw[zF,zF,List.getElem?_take_of_lt h,List.getElem?_drop]
theorem PJ(s:ByteArray)(k:Nat)(hs:s.size=37)(hk:k<9)(a b:Nat)(ha:a=4*k+1)(hb:b=37)(w:World):
  Calls Tryz.prog 137 #[.string (s.extract a b)] w fun e w'=>e= .returned (.int .i64 (fA (bs s) k))/\w'=w:=by
 subst ha hb;have hl:=gG (s.extract (4*k+1) 37);rw[gH,List.length_take,List.length_drop,gG,hs]at hl;have h:=KP (s.extract (4*k+1) 37) w (by omega);rw[aDx,gH,xC _ _ _ _ (by omega),xC _ _ _ _ (by omega),xC _ _ _ _ (by omega),xC _ _ _ _ (by omega)]at h;exact h
theorem H8(c:Cm)(w:World):
  Calls Tryz.prog 138 #[.int .i64 c.op,nmV c] w fun e w'=>e= .returned (PW c)/\Below w.heap.size w w':=by
 go_enter Tryz.func138,Tryz.ntmps138;go_wp2;exact bodyPost_ret (v:=PW c) (by simp[results,Tryz.results138,go_sem]) rfl ⟨rfl,bP w _ _⟩
theorem BS(hb:Below n V.drew w2):Below n V w2:=⟨hb.os,hb.tape,hb.output,hb.size,hb.block⟩
theorem command_at(op a b c p l mn mx us co:Int)(w:World):
  Calls Tryz.prog 138 #[.int .i64 op, .agg #[.int .i64 a, .int .i64 b, .int .i64 c, .int .i64 p, .int .i64 l, .int .i64 mn, .int .i64 mx, .int .i64 us, .int .i64 co]] w fun e w'=>e= .returned (.agg #[.int .i64 op, .int .i64 a, .int .i64 b, .int .i64 c, .int .i64 p, .int .i64 l, .int .i64 mn, .int .i64 mx, .int .i64 us, .int .i64 co])/\Below w.heap.size w w':=
 H8 ⟨op,a,b,c,p,l,mn,mx,us,co⟩ w
def AQ:Cm:=⟨0,0,0,0,0,0,0,0,0,0⟩
theorem UC(s:ByteArray)(w:World)(hs:s.size=37):
  Calls Tryz.prog 112 #[.string s] w fun e w'=>e= .returned (.tuple #[PW (vW (bs s)), .int .i64 0])/\Below w.heap.size w w':=by
 have hnum:=PJ s;go_enter Tryz.func112,Tryz.ntmps112;go_wp2;refine wp_loop_rounds 10 ?_;rw[rounds_succ];go_wp2_with (go_at_call 137;refine(hnum 0 hs (by omega) _ _ rfl rfl _).mono ?_;rintro e w1 ⟨rfl,rfl⟩);rw[rounds_succ];go_wp2_with (go_at_call 137;refine(hnum 1 hs (by omega) _ _ rfl rfl _).mono ?_;rintro e w1 ⟨rfl,rfl⟩);rw[rounds_succ];go_wp2_with (go_at_call 137;refine(hnum 2 hs (by omega) _ _ rfl rfl _).mono ?_;rintro e w1 ⟨rfl,rfl⟩);rw[rounds_succ];go_wp2_with (go_at_call 137;refine(hnum 3 hs (by omega) _ _ rfl rfl _).mono ?_;rintro e w1 ⟨rfl,rfl⟩);rw[rounds_succ];go_wp2_with (go_at_call 137;refine(hnum 4 hs (by omega) _ _ rfl rfl _).mono ?_;rintro e w1 ⟨rfl,rfl⟩);rw[rounds_succ];go_wp2_with (go_at_call 137;refine(hnum 5 hs (by omega) _ _ rfl rfl _).mono ?_;rintro e w1 ⟨rfl,rfl⟩);rw[rounds_succ];go_wp2_with (go_at_call 137;refine(hnum 6 hs (by omega) _ _ rfl rfl _).mono ?_;rintro e w1 ⟨rfl,rfl⟩);rw[rounds_succ];go_wp2_with (go_at_call 137;refine(hnum 7 hs (by omega) _ _ rfl rfl _).mono ?_;rintro e w1 ⟨rfl,rfl⟩);rw[rounds_succ];go_wp2_with (go_at_call 137;refine(hnum 8 hs (by omega) _ _ rfl rfl _).mono ?_;rintro e w1 ⟨rfl,rfl⟩);rw[rounds_succ];go_wp2;have hbt:Hid (pE (bs s) 0=(s[0].toNat:Int)):=UA (s:=s) (k:=0) (by omega);have hwr:Hid (IntKind.i64.wrap (s[0].toNat:Int)=(s[0].toNat:Int)):=by
  unfold Hid;have:=s[0].toNat_lt;rw[IntKind.wrap_i64];omega
 go_region_with (go_at_call 138;refine(command_at _ _ _ _ _ _ _ _ _ _ _).mono ?_;rintro e w2 ⟨rfl,hb2⟩;obtain⟨hc,hf⟩:=aD ((hb2.block w.heap.size (by simp;omega)).trans (aH _ (aB _ rfl))));all_goals go_wp2
 all_goals refine bodyPost_ret (v:= .tuple #[.agg #[.int .i64 (IntKind.i64.wrap (s[0].toNat:Int)), .int .i64 (fA (bs s) 0), .int .i64 (fA (bs s) 1), .int .i64 (fA (bs s) 2), .int .i64 (fA (bs s) 3), .int .i64 (fA (bs s) 4), .int .i64 (fA (bs s) 5), .int .i64 (fA (bs s) 6), .int .i64 (fA (bs s) 7), .int .i64 (fA (bs s) 8)], .int .i64 0]) (by simp[results,Tryz.results112,go_sem,hc]) rfl ⟨?_,?_⟩
 all_goals first|(show Ending.returned _=Ending.returned (.tuple #[.agg #[.int .i64 (pE (bs s) 0),_,_,_,_,_,_,_,_,_],_]);rw[hwr.out,hbt.out];rfl)|((repeat refine Below.setCell ?_ (by simp) _);exact(bP w _ _).trans ((BS hb2).mono (by simp;omega)))
theorem sum_any(g cap base:Nat)(xs:List Int)(w:World)(hO:OB w base (.slice (some ⟨g,0,none⟩) xs.length cap) xs)(hl:xs.length<=256)(hx:A1 xs):
  Calls Tryz.prog 111 #[.slice (some ⟨g,0,none⟩) xs.length cap] w fun e w'=>e= .returned (.int .u32 (aAn xs))/\w'=w:=by
 generalize hn:xs.length=n at hl hO⊢;go_enter Tryz.func111,Tryz.ntmps111;go_wp2;go_loop [3,8] (fun t i=>∃k:Nat,k<=n/\i= .int .i64 k/\t= .int .u32 (vX xs k)) (fun _ i=>n- (intOf i).toNat)
 case atStart=>exact⟨0,by omega,rfl,rfl⟩
 case round=>
  obtain⟨k,hk,rfl,rfl⟩:=hrel
  have hr:=oG hx k (by omega)
  by_cases hlt:k<n
  ·have hc:=hO.cell k (by omega);have hb:=mN hx k;have m0:0<=((k:Int)+1)*pE xs k:=Int.mul_nonneg (by omega) hb.1;have m1:((k:Int)+1)*pE xs k<=256*255:=Int.mul_le_mul (by omega) hb.2 hb.1 (by omega);have hlt':=hlt;go_wp2;go_round
   case rel=>exact⟨k+1,hlt',by go_num,rfl⟩
   case measure=>simp[intOf];omega
  ·obtain rfl:k=n:=by omega
   go_wp2;go_ret;exact⟨by rw[<-hn];rfl,rfl⟩
theorem OB.shape2(h:OB w base v xs)(h0:xs≠[]):∃g n cap,v= .slice (some ⟨g,0,none⟩) n cap/\base<=g/\Hid (xs.length=n):=by
 obtain⟨g,cap, -,h1,h2, -⟩:=h.shape h0;exact⟨g,xs.length,cap,h1,h2,rfl⟩
theorem C4(s:ByteArray)(w:World)(hs:s.size<=255):
  Calls Tryz.prog 71 #[.string s] w fun e w'=>e= .returned (.tuple #[.string (strOfNums (cC (bs s))), .int .i64 0])/\Below w.heap.size w w':=by
 have hlen:=gG s;have hX:A1 ((s.size:Int)::bs s):=AJ (by omega) (AO s);have hXl:((s.size:Int)::bs s).length<=256:=by rw[List.length_cons,hlen];omega
 have hfr:Hid (cC (bs s)=((s.size:Int)::bs s)++XE (aAn ((s.size:Int)::bs s))):=by unfold Hid cC;rw[hlen]
 have hsr:=oG hX ((s.size:Int)::bs s).length hXl;clear hlen;go_enter Tryz.func71,Tryz.ntmps71;go_wp2_with (at_builtin;refine Hid.out ?_);unfold Hid;refine kF rfl _ _ rfl w.heap.size _ [(s.size:Int)] rfl (OB.one w w.heap.size w.heap.size (s.size:Int) rfl (by omega)) s rfl (by simp;omega) (by simp) ?_;intro v1 w1 hO1 hg1;have hB1:=dZ (bl1 w _) hg1 (fun k e=>((OB.one w w.heap.size w.heap.size (s.size:Int) rfl (by omega)).lt k e).1);clear hg1;obtain⟨g,cap, -,rfl,hgb, -⟩:=hO1.shape (by simp);go_wp2_with (first|(go_at_call 111;refine(sum_any g cap _ _ _ hO1 hXl hX).mono ?_;rintro e w2 ⟨rfl,rfl⟩)|(go_at_call 109;refine(lowFirst_any _ _ hsr.1 (by omega)).mono ?_;rintro e w3 ⟨v3,rfl,hO3,hB3⟩)|(at_builtin;refine Hid.out ?_))
 unfold Hid;obtain⟨g3,c3,rfl,hg3⟩:=hO3.four;refine gF rfl _ _ rfl w.heap.size _ _ rfl (hO1.later hB3) g3 4 c3 _ rfl rfl hO3.cells (by have:=hXl;simp only[List.length_append,List.length_cons,List.length_nil]at this⊢;omega) (by have:=hB1.size;have:=hB3.size;omega) ?_;intro v4 w4 hO4 hg4;have hB4:=dZ (hB1.trans (hB3.mono hB1.size)) hg4 (fun k e=>(hO1.lt k e).1);clear hg4;obtain⟨g5,n5,c5,rfl, -,hn5⟩:=hO4.shape2 (by simp);have hcv:=qR hO4 hn5.out;go_wp2;go_ret2;exact⟨mO (by rw[hfr.out];rfl) rfl,hB4⟩
theorem E1(s:ByteArray):bs (s.extract 1 38)=((bs s).drop 1).take 37:=gH s 1 38
theorem H9(s:ByteArray)(a b:Nat)(h:b<=s.size)(hab:a<=b):(s.extract a b).size=b- a:=by
 rw[<-gG,gH,List.length_take,List.length_drop,gG];omega
def KQ(xs:List Int):Cm:=if BR xs=true then vW ((xs.drop 1).take 37)else AQ
def fiE(xs:List Int):Int:=if BR xs=true then 0 else 1
theorem UD(h:BR xs=true):KQ xs=vW ((xs.drop 1).take 37)/\fiE xs=0:=by unfold KQ fiE;rw[if_pos h,if_pos h];exact⟨rfl,rfl⟩
theorem YK(h:BR xs=false):KQ xs=AQ/\fiE xs=1:=by unfold KQ fiE;rw[h];exact⟨rfl,rfl⟩
theorem PK(h:xs.length<42):BR xs=false:=by
 unfold BR;rw[decide_eq_false (by omega),Bool.false_and]
theorem aAs(a b:ByteArray):(a.toList==b.toList)=decide (a=b):=by
 rw[ByteArray.toList_eq,ByteArray.toList_eq,Bool.eq_iff_iff,beq_iff_eq,decide_eq_true_eq];constructor
 ·intro h;obtain⟨⟨a⟩⟩:=a;obtain⟨⟨b⟩⟩:=b;simp only at h;rw[h]
 ·intro h;rw[h]
theorem XI(s:ByteArray)(hs:42<=s.size):BR (bs s)=decide (strOfNums (cC (bs (s.extract 1 38)))=s.extract 0 42):=by
 have hl:((bs s).drop 1).length=s.size- 1:=by rw[List.length_drop,gG]
 have hB:A1 (cC (bs (s.extract 1 38))):=uN (AO _) (by rw[gG,H9 s 1 38 (by omega) (by omega)];omega);unfold BR;rw[gG,decide_eq_true hs,Bool.true_and,decide_eq_decide,E1];have e:(bs s).take 42=bs (s.extract 0 42):=by rw[gH];simp
 rw[e];constructor
 ·intro h;rw[h,aAo]
 ·intro h;rw[E1]at hB;rw[<-h,EZ hB]
theorem KR(s:ByteArray)(w:World):
  Calls Tryz.prog 72 #[.string s] w fun e w'=>e= .returned (.tuple #[PW (KQ (bs s)), .int .i64 (fiE (bs s))])/\Below w.heap.size w w':=by
 by_cases hs:s.size<42
 ·obtain⟨e1,e2⟩:=YK (PK (xs:=bs s) (by rw[gG];exact hs));rw[e1,e2];go_enter Tryz.func72,Tryz.ntmps72;go_wp2;exact bodyPost_ret (v:= .tuple #[PW AQ, .int .i64 1]) (by simp[results,Tryz.results72,go_sem,AQ]) rfl ⟨rfl,bl1 w _⟩
 ·have hs':42<=s.size:=by omega
  have ht:=H9 s 1 38 (by omega) (by omega);have hok:=XI s hs';have hfr:=C4 (s.extract 1 38);have hrd:=UC (s.extract 1 38);rw[E1]at hrd;rw[<-aAs]at hok;have hbx:∀w1,Below (w.alloc (.cells #[.int .i64 0, .int .i64 0, .int .i64 0, .int .i64 0, .int .i64 0, .int .i64 0, .int .i64 0, .int .i64 0, .int .i64 0, .int .i64 0] 85)).heap.size (w.alloc (.cells #[.int .i64 0, .int .i64 0, .int .i64 0, .int .i64 0, .int .i64 0, .int .i64 0, .int .i64 0, .int .i64 0, .int .i64 0, .int .i64 0] 85)) w1->w1.heap[w.heap.size]?=some (.cells #[.int .i64 0, .int .i64 0, .int .i64 0, .int .i64 0, .int .i64 0, .int .i64 0, .int .i64 0, .int .i64 0, .int .i64 0, .int .i64 0] 85):=
   fun w1 hb1=>(hb1.block w.heap.size (by simp)).trans (aB _ rfl)
  cases h:BR (bs s)
  ·obtain⟨e1,e2⟩:=YK h;rw[e1,e2];rw[h]at hok;have hok':=hok.symm;clear hok;go_enter Tryz.func72,Tryz.ntmps72;go_wp2_with (go_at_call 71;refine(hfr _ (by omega)).mono ?_;rintro e w1 ⟨rfl,hb1⟩;obtain⟨hc,hf⟩:=aD (hbx w1 hb1));refine bodyPost_ret (v:= .tuple #[PW AQ, .int .i64 1]) (by simp[results,Tryz.results72,go_sem,AQ,hc]) rfl ⟨rfl,?_⟩;(repeat refine Below.setCell ?_ (by simp) _)
   exact(bl1 w _).trans (hb1.mono (by simp))
  ·obtain⟨e1,e2⟩:=UD h;rw[e1,e2];rw[h]at hok;have hok':=hok.symm;clear hok;go_enter Tryz.func72,Tryz.ntmps72;go_wp2_with (first|(go_at_call 71;refine(hfr _ (by omega)).mono ?_;rintro e w1 ⟨rfl,hb1⟩;obtain⟨hc,hf⟩:=aD (hbx w1 hb1))|(go_at_call 112;refine(hrd _ ht).mono ?_;rintro e w2 ⟨rfl,hb2⟩;obtain⟨hc2,hf2⟩:=aD (aA hb2 (hbx w1 hb1))))
   refine bodyPost_ret (v:= .tuple #[PW (vW (((bs s).drop 1).take 37)), .int .i64 0]) (by simp[results,Tryz.results72,go_sem,hc2]) rfl ⟨rfl,?_⟩;(repeat refine Below.setCell ?_ (by simp) _)
   have hB1:=(bl1 w _).trans (hb1.mono (by simp));exact hB1.trans (hb2.mono hB1.size)
def gI(cs:List Cm)(i:Nat):Cm:=cs.getD i AQ
theorem AR(h:i<cs.length):gI cs i=cs[i]:=by simp[gI,List.getD_eq_getElem?_getD,h]
structure CS(w:World)(x:Option Addr)(n:Nat)(cs:List Cm):Prop where
 len:cs.length=n
 cells:∀i,i<n->∃b o,x=some ⟨b,o,none⟩/\w.cell? ⟨b,o+i*10,none⟩=some (.int .i64 (gI cs i).op)/\w.cell? ⟨b,o+i*10+1,none⟩=some (.int .i64 (gI cs i).a)/\w.cell? ⟨b,o+i*10+2,none⟩=some (.int .i64 (gI cs i).b)/\w.cell? ⟨b,o+i*10+3,none⟩=some (.int .i64 (gI cs i).c)/\w.cell? ⟨b,o+i*10+4,none⟩=some (.int .i64 (gI cs i).p)/\w.cell? ⟨b,o+i*10+5,none⟩=some (.int .i64 (gI cs i).l)/\w.cell? ⟨b,o+i*10+6,none⟩=some (.int .i64 (gI cs i).mn)/\w.cell? ⟨b,o+i*10+7,none⟩=some (.int .i64 (gI cs i).mx)/\w.cell? ⟨b,o+i*10+8,none⟩=some (.int .i64 (gI cs i).us)/\w.cell? ⟨b,o+i*10+9,none⟩=some (.int .i64 (gI cs i).co)
theorem CS.later(h:CS w x n cs)(hb:Below w.heap.size w w'):CS w' x n cs where
 len:=h.len
 cells:=fun i hi=>by
  obtain⟨b,o,hx,c0,c1,c2,c3,c4,c5,c6,c7,c8,c9⟩:=h.cells i hi;exact⟨b,o,hx,cell_later hb c0,cell_later hb c1,cell_later hb c2,cell_later hb c3,cell_later hb c4,cell_later hb c5,cell_later hb c6,cell_later hb c7,cell_later hb c8,cell_later hb c9⟩
def XJ(cs:List Cm):Int:=if cs.all okCm=true then(if 200<cs.length then 2 else 0)else 3
def PX(cs:List Cm):List Int:=if cs.all okCm=true then(if 200<cs.length then[]else jS cs)else[]
theorem aAt(hk:k<cs.length)(h:okCm (gI cs k)=false):XJ cs=3/\PX cs=[]:=by
 have:cs.all okCm=false:=by
  rw[List.all_eq_false];rw[AR hk]at h;exact⟨cs[k],List.getElem_mem hk,by simp[h]⟩
 unfold XJ PX;rw[this];exact⟨rfl,rfl⟩
theorem UE(h:∀j,j<cs.length->okCm (gI cs j)=true):cs.all okCm=true:=by
 rw[List.all_eq_true];intro c hc;obtain⟨j,hj,rfl⟩:=List.getElem_of_mem hc;rw[<-AR hj];exact h j hj
theorem XK(h:∀j,j<cs.length->okCm (gI cs j)=true)(hn:200<cs.length):XJ cs=2/\PX cs=[]:=by
 unfold XJ PX;rw[UE h,if_pos rfl,if_pos rfl,if_pos hn,if_pos hn];exact⟨rfl,rfl⟩
theorem UF(h:∀j,j<cs.length->okCm (gI cs j)=true)(hn:cs.length<=200):XJ cs=0/\PX cs=jS cs:=by
 unfold XJ PX;rw[UE h,if_pos rfl,if_pos rfl,if_neg (by omega),if_neg (by omega)];exact⟨rfl,rfl⟩
theorem UG(hk:k<cs.length):jS (cs.take (k+1))=jS (cs.take k)++cC (fV (gI cs k)):=by
 rw[List.take_add_one,List.getElem?_eq_getElem hk,<-AR hk];exact PF _ _
theorem E2(hk:k<=cs.length):(jS (cs.take k)).length=42*k:=by rw[AM,List.length_take];congr 1;omega
theorem write_ok(h:okCm c=true)(w:World):
  Calls Tryz.prog 70 #[PW c] w fun e w'=>e= .returned (.tuple #[.string (strOfNums (fV c)), .int .i64 0])/\Below w.heap.size w w':=by
 have:=CY c w;rw[(E0 h).1,(E0 h).2]at this;exact this
theorem write_bad(h:okCm c=false)(w:World):
  Calls Tryz.prog 70 #[PW c] w fun e w'=>e= .returned (.tuple #[.string (strOfNums []), .int .i64 3])/\Below w.heap.size w w':=by
 have:=CY c w;rw[(AP h).1,(AP h).2]at this;exact this
theorem AS(c:Cm):A1 (fV c):=PD c 9
theorem aAu(c:Cm):bs (strOfNums (fV c))=fV c:=EZ (AS c)
theorem UH(c:Cm):bs (strOfNums (cC (fV c)))=cC (fV c):=EZ (uN (AS c) (by rw[lN];omega))
theorem IA(h:OB w base v xs):(convert 108 9 v).run Tryz.prog w= .ok (.string (strOfNums xs)) w:=by
 rcases h.2 with ⟨rfl,h0⟩|⟨g,c,cur,rfl, -⟩
 ·obtain rfl:=List.eq_nil_of_length_eq_zero h0;exact run_convert_bytes_nil w 108 5 kE H2 0 0 9 uP
 ·exact qR h rfl
theorem PL(c:Cm)(w:World):
  Calls Tryz.prog 71 #[.string (strOfNums (fV c))] w fun e w'=>e= .returned (.tuple #[.string (strOfNums (cC (fV c))), .int .i64 0])/\Below w.heap.size w w':=by
 have h:=C4 (strOfNums (fV c)) w (by rw[strOfNums_size,lN];omega);rw[aAu]at h;exact h
theorem XL(x:Option Addr)(n cap:Nat)(cs:List Cm)(w:World)(hp:CS w x n cs)(hn:42*n<=140737488355328):
  Calls Tryz.prog 43 #[.slice x n cap] w fun e w'=>e= .returned (.tuple #[.string (strOfNums (PX cs)), .int .i64 (XJ cs)])/\Below w.heap.size w w':=by
 have hpl:Hid (cs.length=n):=hp.len;go_enter Tryz.func43,Tryz.ntmps43;go_wp2;go_loopw [4,13] (fun v i wr=>∃k:Nat,k<=n/\i= .int .i64 k/\(∀j,j<k->okCm (gI cs j)=true)/\OB wr w.heap.size v (jS (cs.take k))/\Below w.heap.size w wr) (fun _ i _=>n- (intOf i).toNat)
 case atStart=>exact⟨0,by omega,rfl,fun j hj=>by omega,OB.nil _ _,zD⟩
 case round=>
  obtain⟨k,hk,rfl,hok,hO,hB⟩:=hrel
  have hll:(jS (cs.take k)).length=42*k:=E2 (by rw[hpl.out];exact hk)
  have hlx:Hid ((jS (cs.take k)).length=42*k):=hll
  clear hll
  by_cases hlt:k<n
  ·obtain⟨b,o,rfl,c0,c1,c2,c3,c4,c5,c6,c7,c8,c9⟩:=(hp.later hB).cells k hlt;have hlt':=hlt
   cases hc:okCm (gI cs k)
   ·go_wp2_with (go_at_call 70;refine(write_bad hc _).mono ?_;rintro e w1 ⟨rfl,hb1⟩);go_ret2;have hbad:=aAt (cs:=cs) (by rw[hpl.out];exact hlt') hc;exact⟨mO (by rw[hbad.2];rfl) hbad.1.symm,hB.trans (((bl1 wr _).trans (hb1.mono (by simp))).mono hB.size)⟩
   ·go_wp2_with (first|(go_at_call 70;refine(write_ok hc _).mono ?_;rintro e w1 ⟨rfl,hb1⟩)|(go_at_call 71;refine(PL (gI cs k) _).mono ?_;rintro e w2 ⟨rfl,hb2⟩)|(at_builtin;refine Hid.out ?_))
    unfold Hid;have h01:Below wr.heap.size wr w1:=(bl1 wr _).trans (hb1.mono (by simp));have h02:=h01.trans (hb2.mono h01.size);refine kF rfl _ _ rfl w.heap.size _ _ rfl (hO.later h02) (strOfNums (cC (fV (gI cs k)))) rfl (by rw[hlx.out,strOfNums_size,EY];omega) (by have:=hB.size;have:=h02.size;omega) ?_;intro v' w' hO' hg';have hB':=dZ (hB.trans (h02.mono hB.size)) hg' (fun k e=>(hO.lt k e).1);rw[UH]at hO';go_wp2;go_roundw
    case rel=>exact⟨k+1,hlt',by go_num,fun j hj=>by
     by_cases hj2:j<k
     ·exact hok j hj2
     ·obtain rfl:j=k:=by omega
      exact hc,by rw[UG (by rw[hpl.out];exact hlt')];exact hO',hB'⟩
    case measure=>simp[intOf];omega
  ·obtain rfl:k=n:=by omega
   have htk:Hid (cs.take k=cs):=by unfold Hid;rw[<-hpl.out];exact List.take_length
   rw[htk.out]at hO hlx;by_cases hmany:200<k
   ·go_wp2;go_ret2;have hb:=XK (cs:=cs) (by rw[hpl.out];exact hok) (by rw[hpl.out];exact hmany);exact⟨mO (by rw[hb.2];rfl) hb.1.symm,hB⟩
   ·have hb:Hid (XJ cs=0/\PX cs=jS cs):=UF (cs:=cs) (by rw[hpl.out];exact hok) (by rw[hpl.out];omega);have hcv:=IA hO;go_wp2;go_ret2;exact⟨mO (by rw[hb.out.2]) hb.out.1.symm,hB⟩
theorem XM(xs ys:List Int):strOfNums xs++strOfNums ys=strOfNums (xs++ys):=by
 unfold strOfNums;rw[ByteArray.mk_append_mk,List.map_append]
def fT(c:Cm):List Value:=[.int .i64 c.op, .int .i64 c.a, .int .i64 c.b, .int .i64 c.c, .int .i64 c.p, .int .i64 c.l, .int .i64 c.mn, .int .i64 c.mx, .int .i64 c.us, .int .i64 c.co]
def vY(cs:List Cm):List Value:=cs.flatMap fT
theorem qS(c:Cm):(fT c).length=10:=rfl
theorem KS(cs:List Cm)(c:Cm):vY (cs++[c])=vY cs++fT c:=by simp[vY]
theorem IB:∀(cs:List Cm) (i j:Nat),i<cs.length->j<10->(vY cs)[i*10+j]?=(fT (gI cs i))[j]?
 |[],i,j,hi,_=>by simp at hi
 |c::cs,0,j,_,hj=>by
  unfold vY;rw[List.flatMap_cons,List.getElem?_append_left (by rw[qS];omega)];simp[gI]
 |c::cs,i+1,j,hi,hj=>by
  have:=IB cs i j (by simpa using hi) hj;unfold vY at this⊢;rw[List.flatMap_cons,List.getElem?_append_right (by rw[qS];omega),qS,show(i+1)*10+j- 10=i*10+j by omega,this];simp[gI]
def OC(w:World)(base:Nat)(v:Value)(cs:List Cm):Prop:=w.ownsRow base 85 10 v cs.length (vY cs)
theorem OC.nil(w:World)(base:Nat):OC w base (.slice none 0 0) []:=World.ownsRow_nil _ _ _ _
theorem OC.later{xs:List Cm}(h:OC w base v xs)(hb:Below w.heap.size w w'):OC w' base v xs:=by
 refine World.ownsRow.kept h (dS hb) ?_
 cases hv:v.ownBlock
 ·exact .inl rfl
 ·exact .inr (by simp)
theorem OC.lt{xs:List Cm}(h:OC w base v xs):∀k,v.ownBlock=some k->base<=k/\k<w.heap.size:=World.ownsRow.lt h
theorem OC.shape{xs:List Cm}(h:OC w base v xs):∃x cap,v= .slice x xs.length cap/\xs.length<=cap/\cap<=9223372036854775807/\CS w x xs.length xs:=by
 rcases h.2 with ⟨rfl,h0⟩|⟨g,cap,cur,rfl, -, -,h4,h5, -⟩
 ·exact⟨none,0,by rw[h0],by omega,by omega,⟨rfl,fun i hi=>by omega⟩⟩
 ·refine⟨some ⟨g,0,none⟩,cap,rfl,h4,by unfold maxLen at h5;omega,⟨rfl,fun i hi=>⟨g,0,rfl,?_⟩⟩⟩;have e:∀j,j<10->∀u,(fT (gI xs i))[j]?=some u->w.cell? ⟨g,0+i*10+j,none⟩=some u:=fun j hj u hu=>by
   have:=World.ownsRow.cells h (g:=g) rfl (i*10+j) u ((IB xs i j hi hj).trans hu);rw[Addr.add_lit]at this;rw[Nat.add_assoc];exact this
  exact⟨e 0 (by omega) _ rfl,e 1 (by omega) _ rfl,e 2 (by omega) _ rfl,e 3 (by omega) _ rfl,e 4 (by omega) _ rfl,e 5 (by omega) _ rfl,e 6 (by omega) _ rfl,e 7 (by omega) _ rfl,e 8 (by omega) _ rfl,e 9 (by omega) _ rfl⟩
theorem UI:(Tryz.prog.info? 85).map (fun i=>(i.zero,i.size,i.bytes))=some (some (.agg #[.int .i64 0, .int .i64 0, .int .i64 0, .int .i64 0, .int .i64 0, .int .i64 0, .int .i64 0, .int .i64 0, .int .i64 0, .int .i64 0]),10,80):=by kernel_rfl
theorem PM:∃i,Tryz.prog.info? 85=some i/\i.zero=some (.agg #[.int .i64 0, .int .i64 0, .int .i64 0, .int .i64 0, .int .i64 0, .int .i64 0, .int .i64 0, .int .i64 0, .int .i64 0, .int .i64 0])/\i.size=10/\i.bytes=80:=by
 obtain⟨i,hi,h⟩:=Option.map_eq_some_iff.1 UI;simp only[Prod.mk.injEq]at h;exact⟨i,hi,h.1,h.2.1,h.2.2⟩
theorem KT:Tryz.prog.underlying 78=some (.slice 85):=by kernel_rfl
theorem uQ(hgd:o.guard=none)(s x:Operand)
 (ho:o.op= .call {callee:= .builtin .append,args:=#[s,x],argTypes:=#[78,78]})(base:Nat)(v:Value)(cs:List Cm)(hs:a.eval s=v)(hO:OC w base v cs)
 (g k:Nat)(c:Cm)(hx:a.eval x= .slice (some ⟨g,0,none⟩) 1 k)(hy:∀j,w.cell? ⟨g,j,none⟩=(fT c)[j]?)
 (hlen:cs.length<=1000000)(hbase:base<=w.heap.size)
 (h:∀v' w',OC w' base v' (cs++[c])->w.grownBy w' v.ownBlock->wpList Tryz.prog ops Q rest (a.put o.dst v') w'):wpList Tryz.prog ops Q (o::rest) a w:=by
 obtain⟨i0,hi,hz0,hz1,hz2⟩:=PM;refine wpList_append_own w hgd s x 78 ho base 85 i0 _ 10 80 KT hi hz0 hz1 hz2 rfl (by decide) v cs.length (vY cs) hs hO ⟨g,0,none⟩ 1 k (fT c) hx rfl ?_ ?_ (by unfold maxLen;omega) (by omega) hbase ?_
 ·intro j u hj;rw[Addr.add_lit,Nat.zero_add,hy j];exact hj
 ·intro u hu;simp only[fT,List.mem_cons,List.not_mem_nil,or_false]at hu;rcases hu with rfl|rfl|rfl|rfl|rfl|rfl|rfl|rfl|rfl|rfl<;>rfl
 ·intro v' w' h1 h2 _;refine h v' w' ?_ h2;unfold OC;rw[KS,List.length_append];exact h1
theorem XN(s:ByteArray)(a:Nat):bs (s.extract a s.size)=(bs s).drop a:=by
 rw[gH,List.take_of_length_le (by rw[List.length_drop,gG];omega)]
theorem first_at(s:ByteArray)(a:Nat)(t:Bool)(h:BR ((bs s).drop a)=t)(w:World):
  Calls Tryz.prog 72 #[.string (s.extract a s.size)] w fun e w'=>e= .returned (.tuple #[PW (KQ ((bs s).drop a)), .int .i64 (if t=true then 0 else 1)])/\Below w.heap.size w w':=by
 have:=KR (s.extract a s.size) w;rw[XN]at this;unfold fiE at this;rw[h]at this;exact this
theorem aAv(h:BR xs=true):rp (f+1) xs=KQ xs::rp f (xs.drop 42):=by
 rw[(UD h).1];show(if BR xs=true then _ else _)=_;rw[if_pos h]
theorem YL(h:BR xs=false):rp f xs=[]:=by
 cases f with
 |zero=>rfl
 |succ f=>
  show(if BR xs=true then _ else _)=_
  rw[h]
  rfl
theorem XO(h:BR xs=true):42<=xs.length:=by
 unfold BR at h;simp only[zH,decide_eq_true_eq]at h;exact h.1
def AT(s:ByteArray)(w:World)(e:Ending)(w':World):Prop:=
 ∃x cap,e= .returned (.tuple #[.slice x (rp 200 (bs s)).length cap, .int .i64 (42*(rp 200 (bs s)).length:Nat), .int .i64 0])/\Below w.heap.size w w'/\(rp 200 (bs s)).length<=cap/\cap<=9223372036854775807/\CS w' x (rp 200 (bs s)).length (rp 200 (bs s))
theorem C7{s:ByteArray}(hk:cs.length=k)(h:rp 200 (bs s)=cs)(hb:Below w.heap.size w w')(h1:k<=cap)(h2:cap<=9223372036854775807)(hc:CS w' x k cs):
  AT s w (.returned (.tuple #[.slice x k cap, .int .i64 (42*(k:Int)), .int .i64 0])) w':=by
 subst hk;unfold AT;rw[h];exact⟨x,cap,by rw[show((42*cs.length:Nat):Int)=42*(cs.length:Int) by omega],hb,h1,h2,hc⟩
theorem YM(s:ByteArray)(w:World)(hs:16384<s.size):
  Calls Tryz.prog 44 #[.string s] w fun e w'=>e= .returned (.tuple #[.slice none 0 0, .int .i64 0, .int .i64 2])/\Below w.heap.size w w':=by
 go_enter Tryz.func44,Tryz.ntmps44;go_wp2;go_step3;go_wp2;rw[Exit.noGoto_ret];exact bodyPost_ret (v:= .tuple #[.slice none 0 0, .int .i64 0, .int .i64 2]) (by simp[results,Tryz.results44,go_sem]) rfl ⟨rfl,zD⟩
theorem AU(s:ByteArray)(w:World)(hs:s.size<=16384):
  Calls Tryz.prog 44 #[.string s] w (AT s w):=by
 have hbl:=gG s;have hbl':Hid ((bs s).length=s.size):=hbl;clear hbl;go_enter Tryz.func44,Tryz.ntmps44;go_wp2;go_step3;go_wp2;go_step3;go_wp2;go_loopw [5,6] (fun v i wr=>∃cs:List Cm,cs.length<=200/\42*cs.length<=s.size/\i= .int .i64 (42*cs.length:Nat)/\Hid (rp 200 (bs s)=cs++rp (200- cs.length) ((bs s).drop (42*cs.length)))/\OC wr w.heap.size v cs/\Below w.heap.size w wr) (fun _ i _=>10000- (intOf i).toNat)
 case atStart=>exact⟨[],by simp,by simp,rfl,by unfold Hid;simp,OC.nil _ _,zD⟩
 case round=>
  obtain⟨cs,h200,hsz,rfl,hrp,hO,hB⟩:=hrel
  obtain⟨x,cap,rfl,hcap,hcap2,hCS⟩:=hO.shape
  generalize hk:cs.length=k at h200 hsz hcap hCS⊢
  have hk':Hid (cs.length=k):=hk
  clear hk
  by_cases hlt:k<200
  ·have hlt':=hlt
   cases hf:BR ((bs s).drop (42*k))
   ·go_wp2_with (go_at_call 72;refine(first_at s (42*k) _ hf _).mono ?_;rintro e w1 ⟨rfl,hb1⟩);rw[Exit.noGoto_ret];have h01:Below wr.heap.size wr (w1.alloc _):=hb1.alloc hb1.size (.cells (fT (KQ ((bs s).drop (42*k)))).toArray 85);refine bodyPost_ret (v:= .tuple #[.slice x k cap, .int .i64 (42*(k:Int)), .int .i64 0]) (by simp[results,Tryz.results44,go_sem]) rfl ?_;exact C7 hk'.out (by rw[hrp.out,hk'.out,YL hf,List.append_nil]) (hB.trans (h01.mono hB.size)) hcap hcap2 (hCS.later h01)
   ·go_wp2_with (first|(go_at_call 72;refine(first_at s (42*k) _ hf _).mono ?_;rintro e w1 ⟨rfl,hb1⟩)|(at_builtin;refine Hid.out ?_))
    unfold Hid;have hl42:=XO hf;rw[List.length_drop,hbl'.out]at hl42;have h01:Below wr.heap.size wr (w1.alloc _):=hb1.alloc hb1.size (.cells (fT (KQ ((bs s).drop (42*k)))).toArray 85);have h02:Below wr.heap.size wr ((w1.alloc _).alloc _):=h01.alloc h01.size (.cells (fT (KQ ((bs s).drop (42*k)))).toArray 85);have hO2:=hO.later h02;rw[hk'.out]at hO2;refine uQ rfl _ _ rfl w.heap.size _ cs rfl hO2 (w1.heap.size+1) 1 (KQ ((bs s).drop (42*k))) rfl (fun j=>?_) (by rw[hk'.out];omega) (Nat.le_trans hB.size h02.size) ?_
    ·have hnew:((w1.alloc (.cells (fT (KQ ((bs s).drop (42*k)))).toArray 85)).alloc (.cells (fT (KQ ((bs s).drop (42*k)))).toArray 85)).heap[w1.heap.size+1]?=some (.cells (fT (KQ ((bs s).drop (42*k)))).toArray 85):=aB _ (by simp);exact((aD hnew).1 j).trans (by simp)
    ·intro v' w' hO' hg';have hB':=dZ (hB.trans (h02.mono hB.size)) hg' (fun j e=>(hO2.lt j e).1);go_wp2;go_roundw
     case rel=>exact⟨cs++[KQ ((bs s).drop (42*k))],by simp;rw[hk'.out];omega,by simp;rw[hk'.out];omega,by simp;rw[hk'.out];omega,by
      unfold Hid;rw[hrp.out,hk'.out,List.length_append,hk'.out,show 200- k=(200- (k+1))+1 by omega,aAv hf,List.drop_drop];simp;rw[show 42*k+42=42*(k+1) by omega],hO',hB'⟩
     case measure=>simp[intOf];omega
  ·obtain rfl:k=200:=by omega
   go_wp2;rw[Exit.noGoto_ret];refine bodyPost_ret (v:= .tuple #[.slice x 200 cap, .int .i64 (42*((200:Nat):Int)), .int .i64 0]) (by simp[results,Tryz.results44,go_sem]) rfl ?_;exact C7 hk'.out (by rw[hrp.out,hk'.out,show 200- 200=0 from rfl];simp[rp]) hB hcap hcap2 hCS
open Go.RowKit Go.Shelf
def aL:Nat->List Le
 |0|1|2|3=>[]
 |4=>[⟨256,10,1,1,0⟩]
 |5|6|7|8=>[⟨256,10,1,1,0⟩,⟨320,12,1,2,0⟩]
 |_=>[⟨256,10,1,1,0⟩,⟨320,12,3,0,3⟩]
def aV:Nat->List Vn
 |0|1=>[]
 |2=>[⟨1,none,0,0,[],none,0,0,[]⟩]
 |3=>[⟨1,none,0,0,[],none,0,0,[]⟩,⟨2,none,0,0,[],none,0,0,[]⟩]
 |4=>[⟨1,none,1,0,[⟨256,10,7⟩],none,0,0,[]⟩,⟨2,none,0,0,[],none,0,0,[]⟩]
 |5|6=>[⟨1,none,1,0,[⟨256,10,7⟩],none,0,0,[]⟩,⟨2,none,1,0,[⟨320,12,7⟩],none,0,0,[]⟩]
 |7=>[⟨1,none,1,0,[⟨256,10,7⟩],none,1,0,[⟨4,256,14,none,0,0,[]⟩]⟩,⟨2,none,1,0,[⟨320,12,7⟩],none,0,0,[]⟩]
 |8=>[⟨1,none,1,0,[⟨256,10,7⟩],none,1,0,[⟨4,256,14,none,1,0,[⟨9,none,1,0,[257]⟩]⟩]⟩,⟨2,none,1,0,[⟨320,12,7⟩],none,0,0,[]⟩]
 |_=>[⟨1,none,1,0,[⟨256,10,7⟩],none,1,0,[⟨4,256,14,none,1,0,[⟨9,none,1,0,[257]⟩]⟩]⟩,⟨2,none,0,0,[],none,0,0,[]⟩]
def aK:Nat->List (Int×Int)
 |0|1|2|3|4|5=>[]
 |_=>[(1,2)]
def St:Nat->fQ->Prop
 |0,s=>s=⟨0,[],[],[]⟩
 |j+1,s=>wX (aL (j+1)) (aV (j+1)) (aK (j+1)) s
theorem wX.re{V:List Vn}(h:wX ls V L s)(hV:V=V')(hL:L=L'):wX ls V' L' s:=hV▸hL▸h
theorem L8{r:fQ}{E a l n:Int}(hj:j<10)(h:St j s)(hN:EM s (cdAt planL j) E a l n r):E=(if j=9 then 9 else 0)/\St (j+1) r:=by
 match j,hj with
 |0,_=>
  have h:s=_:=h
  rw[h]at hN
  exact WP hN
 |1,_=>
  have:=LZ h (by kernel_rfl) hN
  exact⟨this.1,this.2.re (by kernel_rfl) rfl⟩
 |2,_=>
  have:=LZ h (by kernel_rfl) hN
  exact⟨this.1,this.2.re (by kernel_rfl) rfl⟩
 |3,_=>
  have:=L0 (ls':=[⟨256,10,1,1,0⟩]) (k:=0) (a0:=256) (l0:=10) h (fun x c=>by kernel_rfl) (fun x c=>by kernel_rfl) (by kernel_rfl) (by kernel_rfl) (fun m hm=>WO hm) hN
  exact⟨congrArg Prod.fst this.1,this.2.re (by kernel_rfl) rfl⟩
 |4,_=>
  have:=L0 (ls':=[⟨256,10,1,1,0⟩,⟨320,12,1,2,0⟩]) (k:=1) (a0:=320) (l0:=12) h (fun x c=>by kernel_rfl) (fun x c=>by kernel_rfl) (by kernel_rfl) (by kernel_rfl) (fun m hm=>WU hm) hN
  exact⟨congrArg Prod.fst this.1,this.2.re (by kernel_rfl) rfl⟩
 |5,_=>
  have:=WQ h (by kernel_rfl) hN
  exact⟨this.1,this.2.re rfl (by kernel_rfl)⟩
 |6,_=>
  have:=aAf (k:=0) (vid:=1) (rs:=[⟨256,10,7⟩]) h (by kernel_rfl) (by kernel_rfl) (by kernel_rfl) hN
  exact⟨this.1,this.2.re (by kernel_rfl) rfl⟩
 |7,_=>
  have:=WR (k:=0) (vid:=1) (c:=256) (m:=14) (y0:=257) (rs:=[⟨256,10,7⟩]) h (by kernel_rfl) (by kernel_rfl) (fun x d=>by kernel_rfl) (fun x d=>by kernel_rfl) (fun x d=>⟨by kernel_rfl,by simp[aT],fun z h1 h2=>by simp only at h1;omega⟩) hN
  exact⟨congrArg Prod.fst this.1,this.2.re (by kernel_rfl) rfl⟩
 |8,_=>
  have:=WS (ls':=[⟨256,10,1,1,0⟩,⟨320,12,3,0,3⟩]) (k:=1) (j0:=1) (vid:=2) (g:=⟨320,12,7⟩) h (by kernel_rfl) (by kernel_rfl) (by kernel_rfl) rfl (fun x d=>by kernel_rfl) (fun x d=>by kernel_rfl) (fun x d=>by kernel_rfl) hN
  exact⟨this.1,this.2.re (by kernel_rfl) rfl⟩
 |9,_=>exact WT (o:=1) h (fun x c=>by kernel_rfl) (by decide+kernel) hN
theorem AV(hj:j<=10)(h:St j s):aX s.t s.ps=0/\bQ s.vs.length s.vs s.ls.length s.ls=0/\AZ (bL s.ps) (gV s.vs)=true:=by
 cases j with
 |zero=>
  have h:s=_:=h
  rw[h]
  exact⟨by kernel_rfl,by kernel_rfl,by kernel_rfl⟩
 |succ j=>
  have h:wX (aL (j+1)) (aV (j+1)) (aK (j+1)) s:=h
  obtain⟨x,c,hp⟩:=h.ps
  have hl:=dO h.vs
  rw[h.t0,hp,<-TJ s.vs,<-sM,h.vs,h.lk,hl]
  have:j=0\/j=1\/j=2\/j=3\/j=4\/j=5\/j=6\/j=7\/j=8\/j=9:=by omega
  rcases this with rfl|rfl|rfl|rfl|rfl|rfl|rfl|rfl|rfl|rfl<;>exact⟨by kernel_rfl,by kernel_rfl,by kernel_rfl⟩
theorem PN{cs:List Cd}(h:j<k):cdAt (cs.take k) j=cdAt cs j:=by
 unfold cdAt;rw[zF,zF,List.getElem?_take_of_lt h]
theorem aAw(hk:k<=10):Rgt (fun j s=>j<=10/\St j s) (planL.take k) where
 zero:=⟨by omega,rfl⟩
 ok j s h:=⟨(AV h.1 h.2).1,(AV h.1 h.2).2.1⟩
 step j s r E a l n hj h hN _:=by
  have hjk:j<k:=by simp at hj;omega
  rw[PN hjk]at hN;exact⟨by omega,(L8 (by omega) h.2 hN).2⟩
theorem L9(hj:j<=10)(h:St j s):hZ s.t s.ps s.vs.length s.vs s.ls.length s.ls=0:=by
 obtain⟨h1,h2,h3⟩:=AV hj h;unfold hZ;rw[if_neg (by rw[h1];decide),if_neg (by rw[h2];decide),if_pos h3]
def cm(c:Cd):Cm:=⟨c.op,c.A,c.B,c.C,c.a,c.l,c.mn,c.mx,c.us,c.co⟩
theorem MA:∀cs:List Cm,A1 (jS cs)
 |[]=>fun x hx=>by cases hx
 |c::cs=>by
  rw[uO];exact qQ (uN (AS c) (by rw[lN];decide)) (MA cs)
theorem aAx(f:Nat):rp f []=[]:=YL rfl
theorem E3:∀c∈planL.map cm,okCm c=true:=by decide+kernel
theorem MB:∀c∈planL,CdP c:=by
 intro c hc;simp only[planL,List.mem_cons,List.not_mem_nil,or_false]at hc;rcases hc with rfl|rfl|rfl|rfl|rfl|rfl|rfl|rfl|rfl|rfl<;>exact⟨⟨by decide,by decide,by decide⟩,by decide⟩
def lgB(k:Nat):List Int:=jS ((planL.take k).map cm)
def AW(k:Nat):ByteArray:=strOfNums (lgB k)
theorem YN(k:Nat):bs (AW k)=lgB k:=EZ (MA _)
theorem aAy(hk:k<=10):(lgB k).length=42*k:=by
 unfold lgB;rw[AM,List.length_map,List.length_take];have:planL.length=10:=rfl;omega
theorem E4(hk:k<=10):(AW k).size=42*k:=by rw[<-gG,YN,aAy hk]
theorem YO(hk:k<=10):rp 200 (bs (AW k))=(planL.take k).map cm:=by
 rw[YN];have hl:((planL.take k).map cm).length<=200:=by rw[List.length_map,List.length_take];omega
 have h:=L6 ((planL.take k).map cm) 200 [] (fun c hc=>E3 c (by
  obtain⟨d,hd,rfl⟩:=List.mem_map.1 hc;exact List.mem_map.2 ⟨d,List.mem_of_mem_take hd,rfl⟩)) hl
 rw[List.append_nil,aAx,List.append_nil]at h;exact h
theorem YH.of{cs:List Cd}(h:CS w x n (cs.map cm))(hw:∀c∈cs,CdP c):YH w x n cs:=by
 have hl:cs.length=n:=by rw[<-h.len,List.length_map]
 have e:∀i,i<n->gI (cs.map cm) i=cm (cdAt cs i):=fun i hi=>by
  unfold gI cdAt;rw[zF,zF,List.getElem?_map,List.getElem?_eq_getElem (by omega)];rfl
 refine⟨hl,fun i hi=>hw _ (bS _ (by omega)),fun i hi=>?_⟩;have h1:=h.cells i hi;rw[e i hi]at h1;exact h1
def aAz(k:Nat)(w:World)(e:Ending)(w':World):Prop:=
 ∃s vB vV vK,e= .returned (.tuple #[IE s.t vB vV vK, .int .i64 k, .int .i64 0])/\Below w.heap.size w w'/\SO w' w.heap.size s.ps s.vs s.ls vB vV vK/\St k s
theorem sS(hk:k<=10)(w:World):Calls Tryz.prog 22 #[.string (AW k)] w (aAz k w):=by
 have hz:=E4 hk;have hre:=fun W=>AU (AW k) W (by omega);unfold AT at hre;rw[YO hk]at hre;have hkl:Hid (((planL.take k).map cm).length=k):=by unfold Hid;rw[List.length_map,List.length_take];have:planL.length=10:=rfl;omega
 rw[hkl.out]at hre;generalize AW k=S at*;go_enter Tryz.func22,Tryz.ntmps22;go_upto_region 1 with fail
 obtain⟨w0,hw0⟩:∃w0,w0=w.alloc (lH 0 (.slice none 0 0) (.slice none 0 0) (.slice none 0 0)):=⟨_,rfl⟩;have hB0:Below w.heap.size w w0:=by rw[hw0];exact bl1 w _
 have hq0:w0.heap[w.heap.size]?=some (lH 0 (.slice none 0 0) (.slice none 0 0) (.slice none 0 0)):=by rw[hw0];exact aB _ rfl
 rw[<-hw0];clear hw0;go_wp2_with fail;refine(hre w0).mono ?_;rintro _ w1 ⟨x,cap,rfl,hb1,hkc,hc63,hCS⟩;have hB1:=hB0.trans (hb1.mono hB0.size);have hq1:=aA hb1 hq0;have hpl:=TP (R:=fun j s=>j<=10/\St j s) x k cap (planL.take k) w1 (YH.of hCS fun c hc=>MB c (List.mem_of_mem_take hc)) (by omega) (aAw hk);clear hre hCS hb1 hq0;go_wp2_with fail;refine hpl.mono ?_;rintro _ w2 ⟨-,hpy⟩;obtain⟨f,g,vB,vV,vK,ba,rfl,hb2,hSO, -,hPl⟩:=hpy (by omega);have hSt:=(hPl.right k (zE)).2;clear hPl hpl hpy;obtain⟨x3,c3,X3,C3,Y3,D3,rfl,rfl,rfl⟩:=hSO.slices;go_upto_region 5 with fail
 have hq2:=aA hb2 hq1;have hB2:=hB1.trans (hb2.mono hB1.size);obtain⟨w3,hw3⟩:∃w3,w3=w2.alloc (lH (f k).t (.slice x3 (f k).ps.length c3) (.slice X3 (f k).vs.length C3) (.slice Y3 (f k).ls.length D3)):=⟨_,rfl⟩;have hb3:Below w2.heap.size w2 w3:=by rw[hw3];exact bl1 w2 _
 have hS3:lI w3 w.heap.size w2.heap.size (f k).t (f k).ps (f k).vs (f k).ls (.slice x3 (f k).ps.length c3) (.slice X3 (f k).vs.length C3) (.slice Y3 (f k).ls.length D3):=⟨by rw[hw3];exact aB _ rfl,hB2.size,(hSO.low hB1.size).later hb3⟩;rw[<-hw3];clear hw3 hSO;have hq3:=aA hb3 hq2;have hB3:=hB2.trans (hb3.mono hB2.size);have hne:w2.heap.size≠w.heap.size:=by have:=(zG hq2);omega
 obtain⟨g0,g1,g2,g3⟩:=fW hS3.box rfl rfl rfl rfl;obtain⟨c0,c1,c2⟩:=bZ hq3 rfl rfl rfl;have c3':=(aD hq3).1 3;obtain⟨z0,z1,z2,z3⟩:=pG hq3;simp only[List.getElem?_toArray,List.getElem?_cons_zero,List.getElem?_cons_succ]at c3';have hS4:=lI.all (t':=(f k).t) (w:=w3) (base:=w.heap.size) (bs:=w.heap.size) ⟨hq3,zE,LY _ _⟩ hS3.own;have hB4:Below w.heap.size w ((((w3.setCell ⟨w.heap.size,0,none⟩ (.int .i64 (f k).t)).setCell ⟨w.heap.size,1,none⟩ (.slice x3 (f k).ps.length c3)).setCell ⟨w.heap.size,2,none⟩ (.slice X3 (f k).vs.length C3)).setCell ⟨w.heap.size,3,none⟩ (.slice Y3 (f k).ls.length D3)):=
  (((hB3.setCell (p:=⟨w.heap.size,0,none⟩) (zE) _).setCell (p:=⟨w.heap.size,1,none⟩) (zE) _).setCell (p:=⟨w.heap.size,2,none⟩) (zE) _).setCell (p:=⟨w.heap.size,3,none⟩) (zE) _
 go_wp2;refine bodyPost_ret (v:= .tuple #[IE (f k).t (.slice x3 (f k).ps.length c3) (.slice X3 (f k).vs.length C3) (.slice Y3 (f k).ls.length D3), .int .i64 k, .int .i64 0]) (by simp[results,Tryz.results22,go_sem,c0,c1,c2,c3']) rfl ?_;exact⟨f k,_,_,_,rfl,hB4,hS4.own,hSt⟩
theorem PO(s:ByteArray)(w:World)(h:s.size<=16384):Calls Tryz.prog 46 #[.string s] w fun e w'=>e= .returned (.string s)/\Below w.heap.size w w':=by
 go_enter Tryz.func46,Tryz.ntmps46;go_wp2_with (go_at_call 74;refine(stringslite_Clone s _ (by omega)).mono ?_;rintro e w1 ⟨rfl,hb1⟩);go_ret;exact⟨rfl,hb1⟩
theorem XP(hj:j<10):AW (j+1)=AW j++strOfNums (PX [cm (cdAt planL j)]):=by
 have hl:j<planL.length:=hj;have h1:planL.take (j+1)=planL.take j++[cdAt planL j]:=by
  unfold cdAt;rw[List.take_add_one,zF,List.getElem?_eq_getElem hl];rfl
 have hok:okCm (cm (cdAt planL j))=true:=E3 _ (List.mem_map.2 ⟨_,bS _ hl,rfl⟩);have h2:PX [cm (cdAt planL j)]=jS [cm (cdAt planL j)]:=(UF (fun i hi=>by
  obtain rfl:i=0:=by simp at hi;omega
  exact hok) (by simp)).2
 rw[h2];unfold AW lgB;rw[h1,List.map_append,XM];simp[jS]
theorem XQ(hj:j<10):XJ [cm (cdAt planL j)]=0:=by
 have hok:okCm (cm (cdAt planL j))=true:=E3 _ (List.mem_map.2 ⟨_,bS _ (show j<planL.length from hj),rfl⟩);exact(UF (fun i hi=>by
  obtain rfl:i=0:=by simp at hi;omega
  exact hok) (by simp)).1
def nxt(j:Nat):Nat:=if j=9 then 9 else j+1
def aBa(j:Nat)(w:World)(e:Ending)(w':World):Prop:=∃a,e= .returned (.tuple #[.string (AW (nxt j)),a, .int .i64 0])/\Below w.heap.size w w'
theorem KU(hj:j<10)(w:World):Calls Tryz.prog 21 #[.string (AW j),WF (cdAt planL j)] w (aBa j w):=by
 have hz:=E4 (k:=j) (by omega);have hre:=fun W=>AU (AW j) W (by omega);unfold AT at hre;rw[YO (by omega)]at hre;have hkl:Hid (((planL.take j).map cm).length=j):=by unfold Hid;rw[List.length_map,List.length_take];have:planL.length=10:=rfl;omega
 rw[hkl.out]at hre;have hrc:=fun W=>sS (k:=j) (by omega) W;have hlo:=XQ hj;have hnx:Hid (AW (j+1)=AW j++strOfNums (PX [cm (cdAt planL j)])):=XP hj;have hwf:=MB (cdAt planL j) (bS _ (show j<planL.length from hj));obtain⟨C,hC⟩:∃C,Hid (C=cdAt planL j):=⟨_,rfl⟩;rw[<-hC.out]at hlo hwf hnx⊢;have hst:=fun(s r:fQ) (E a l n:Int) (h:St j s) (hN:EM s C E a l n r)=>(L8 hj h (hC.out▸hN)).1;obtain⟨S,hS⟩:∃S,Hid (S=AW j):=⟨_,rfl⟩;rw[<-hS.out]at hz hre hrc hnx⊢;go_enter Tryz.func21,Tryz.ntmps21;go_upto_region 1 with fail
 obtain⟨w0,hw0⟩:∃w0,w0=(w.alloc (AA C)).alloc (.cells #[.int .i64 0, .int .i64 0, .int .i64 0, .int .i64 0] 81):=⟨_,rfl⟩;have hB0:Below w.heap.size w w0:=by rw[hw0];exact bP w _ _
 have hq0:w0.heap[w.heap.size]?=some (AA C):=by rw[hw0];exact aH _ (aB _ rfl)
 have hp0:w0.heap[w.heap.size+1]?=some (.cells #[.int .i64 0, .int .i64 0, .int .i64 0, .int .i64 0] 81):=by rw[hw0];exact aB _ (by simp)
 rw[<-hw0];clear hw0;go_wp2_with fail;refine(hrc w0).mono ?_;rintro _ w1 ⟨s,vB,vV,vK,rfl,hb1,hSO,hSt⟩;obtain⟨x3,c3,X3,C3,Y3,D3,rfl,rfl,rfl⟩:=hSO.slices;have hB1:=hB0.trans (hb1.mono hB0.size);go_upto_region 4 with fail
 obtain⟨w2,hw2⟩:∃w2,w2=w1.alloc (lH s.t (.slice x3 s.ps.length c3) (.slice X3 s.vs.length C3) (.slice Y3 s.ls.length D3)):=⟨_,rfl⟩;have hb2:Below w1.heap.size w1 w2:=by rw[hw2];exact bl1 w1 _
 have hS2:lI w2 w0.heap.size w1.heap.size s.t s.ps s.vs s.ls (.slice x3 s.ps.length c3) (.slice X3 s.vs.length C3) (.slice Y3 s.ls.length D3):=⟨by rw[hw2];exact aB _ rfl,hb1.size,hSO.later hb2⟩;rw[<-hw2];clear hw2 hSO;have hB2:=hB1.trans (hb2.mono hB1.size);have hb02:=hb1.trans (hb2.mono hb1.size);have hq2:=aA hb02 hq0;obtain⟨k0,k1,k2,k3,k4,k5,k6,k7,k8,k9⟩:w2.cell? ⟨w.heap.size,0,none⟩=some (.int .i64 C.op)/\w2.cell? ⟨w.heap.size,1,none⟩=some (.int .i64 C.A)/\w2.cell? ⟨w.heap.size,2,none⟩=some (.int .i64 C.B)/\w2.cell? ⟨w.heap.size,3,none⟩=some (.int .i64 C.C)/\w2.cell? ⟨w.heap.size,4,none⟩=some (.int .i64 C.a)/\w2.cell? ⟨w.heap.size,5,none⟩=some (.int .i64 C.l)/\w2.cell? ⟨w.heap.size,6,none⟩=some (.int .i64 C.mn)/\w2.cell? ⟨w.heap.size,7,none⟩=some (.int .i64 C.mx)/\w2.cell? ⟨w.heap.size,8,none⟩=some (.int .i64 C.us)/\w2.cell? ⟨w.heap.size,9,none⟩=some (.int .i64 C.co):=
  ⟨(aD hq2).1 0,(aD hq2).1 1,(aD hq2).1 2,(aD hq2).1 3,(aD hq2).1 4,(aD hq2).1 5,(aD hq2).1 6,(aD hq2).1 7,(aD hq2).1 8,(aD hq2).1 9⟩
 have hlg:=fun(W:World) (b:Nat) (hb:W.heap[b]?=some (AA C))=>XL (some ⟨b,0,none⟩) 1 1 [cm C] W ⟨rfl,fun i hi=>by
  obtain rfl:i=0:=by omega
  exact⟨b,0,rfl,(aD hb).1 0,(aD hb).1 1,(aD hb).1 2,(aD hb).1 3,(aD hb).1 4,(aD hb).1 5,(aD hb).1 6,(aD hb).1 7,(aD hb).1 8,(aD hb).1 9⟩⟩ (by omega)
 rw[hlo]at hlg;obtain⟨F,hF⟩:∃F,Hid (F=strOfNums (PX [cm C])):=⟨_,rfl⟩;rw[<-hF.out]at hlg hnx;have hFs:F.size=42:=by
  have h1:=E4 (k:=j+1) (by omega);rw[hnx.out,ByteArray.size_append]at h1;omega
 go_wp2_with fail;refine(hlg _ w2.heap.size (aB _ rfl)).mono ?_;rintro _ w3 ⟨rfl,hb3⟩;have hb23:Below w2.heap.size w2 w3:=(bl1 w2 (AA C)).trans (hb3.mono (by simp));clear hb3 hlg k0 k1 k2 k3 k4 k5 k6 k7 k8 k9;have hB3:=hB2.trans (hb23.mono hB2.size);have hS3:=hS2.later hb23;have hj200:((j:Int)==200)=false:=by simp;omega
 go_wp2_with fail;refine(hre w3).mono ?_;rintro _ w4 ⟨x,cap,rfl,hb4, -, -, -⟩;have hB4:=hB3.trans (hb4.mono hB3.size);have hS4:=hS3.later hb4;have hb04:=hb02.trans ((hb23.trans (hb4.mono hb23.size)).mono hb02.size);have hq4:=aA hb04 hq0;have hp4:=aA hb04 hp0;clear hre hrc hS3 hS2 hb4 hb23 hq2;obtain⟨hcB,hcN, -⟩:=AV (by omega) hSt;obtain⟨x',c',X',C',Y',D',e1,e2,e3,hbk,hvs,hvc,hv63,hps,hl63⟩:=hS4.see hcB;simp only[Value.slice.injEq]at e1 e2 e3;obtain⟨rfl, -,rfl⟩:=e1;obtain⟨rfl, -,rfl⟩:=e2;obtain⟨rfl, -,rfl⟩:=e3;have hdo:=WV s.t x3 s.ps.length c3 s.ps X3 s.vs.length C3 s.vs Y3 s.ls.length D3 s.ls C w4 ⟨hbk,hvs,hvc,hv63,hps,hl63⟩ hcB hcN (L9 (by omega) hSt) hwf;obtain⟨k0,k1,k2,k3,k4,k5,k6,k7,k8,k9⟩:w4.cell? ⟨w.heap.size,0,none⟩=some (.int .i64 C.op)/\w4.cell? ⟨w.heap.size,1,none⟩=some (.int .i64 C.A)/\w4.cell? ⟨w.heap.size,2,none⟩=some (.int .i64 C.B)/\w4.cell? ⟨w.heap.size,3,none⟩=some (.int .i64 C.C)/\w4.cell? ⟨w.heap.size,4,none⟩=some (.int .i64 C.a)/\w4.cell? ⟨w.heap.size,5,none⟩=some (.int .i64 C.l)/\w4.cell? ⟨w.heap.size,6,none⟩=some (.int .i64 C.mn)/\w4.cell? ⟨w.heap.size,7,none⟩=some (.int .i64 C.mx)/\w4.cell? ⟨w.heap.size,8,none⟩=some (.int .i64 C.us)/\w4.cell? ⟨w.heap.size,9,none⟩=some (.int .i64 C.co):=
  ⟨(aD hq4).1 0,(aD hq4).1 1,(aD hq4).1 2,(aD hq4).1 3,(aD hq4).1 4,(aD hq4).1 5,(aD hq4).1 6,(aD hq4).1 7,(aD hq4).1 8,(aD hq4).1 9⟩
 obtain⟨s0,s1,s2,s3⟩:=fW hS4.box rfl rfl rfl rfl;go_wp2_with fail;refine hdo.mono ?_;rintro _ w5 ⟨E,a,l,n',r,uB,uV,uK,rfl,hb5,hO5,hN5⟩;have hE:Hid (E=if j=9 then 9 else 0):=hst s r E a l n' hSt hN5;obtain⟨x5,c5,X5,C5,Y5,D5,rfl,rfl,rfl⟩:=hO5.slices;have hB5:=hB4.trans (hb5.mono hB4.size);have hp5:=aA hb5 hp4;clear k0 k1 k2 k3 k4 k5 k6 k7 k8 k9 s0 s1 s2 s3 hdo hst hN5 hO5 hbk hvs hvc hv63 hps hl63 hS4 hcB hcN hq4 hp4;go_upto_region 11 with fail
 obtain⟨w6,hw6⟩:∃w6,w6=(w5.alloc (lH r.t (.slice x5 r.ps.length c5) (.slice X5 r.vs.length C5) (.slice Y5 r.ls.length D5))).alloc (.cells #[.int .i64 E, .int .i64 a, .int .i64 l, .int .i64 n'] 81):=⟨_,rfl⟩;have hb6:Below w5.heap.size w5 w6:=by rw[hw6];exact bP w5 _ _
 have hq6:w6.heap[w5.heap.size+1]?=some (.cells #[.int .i64 E, .int .i64 a, .int .i64 l, .int .i64 n'] 81):=by rw[hw6];exact aB _ (by simp)
 rw[<-hw6];clear hw6;have hB6:=hB5.trans (hb6.mono hB5.size);have hp6:=aA hb6 hp5;have c0:=aO hq6 0 rfl;have hex:S.extract 0 (42*j)=S:=by rw[<-hz];exact ByteArray.extract_zero_size
 have hws:((42*j:Nat):Int)<=(S.size:Int):=by omega
 by_cases h9:j=9
 ·subst h9;rw[if_pos rfl]at hE;have hE2:E=9:=hE.out;subst hE2;have hnn:Hid (AW (nxt 9)=S):=hS.out.symm;go_upto_region 12 with fail
  have t0:=Ws.here c0;have t1:=Ws.here (aO hq6 1 rfl);have t2:=Ws.here (aO hq6 2 rfl);have t3:=Ws.here (aO hq6 3 rfl);refine aR [0,1,2] [4] [3,5] [6,7] (by kernel_rfl) (by kernel_rfl) (fun d _ _ _ _ h=>by cases d<;>exact h) ?_;simp only[zK,zM,zI,zJ];repeat(go_big_quiet_step (fail))
  refine wpQuiet_nil ?_;repeat(go_big_quiet_step (fail))
  refine wpQuiet_nil ?_;clear t0 t1 t2 t3 c0 hq6;have hBd:Below w6.heap.size w6 w6.drew:=(zD).drew;refine aJ fun K hK=>?_;go_wp2_with fail;refine(PO S _ (by omega)).mono ?_;rintro _ w7 ⟨rfl,hb7⟩;have hC7:=hBd.trans (hb7.mono hBd.size);go_wp2_with fail;refine aC (hK.out _ _ hC7 ?_);clear hK K;refine aJ fun K hK=>?_;go_wp2_with fail;refine aC (hK.out _ _ hC7 ?_);clear hK K;refine bR ?_;have hp7:=aA hC7 hp6;have hB7:=hB6.trans (hC7.mono hB6.size);obtain⟨p0,p1,p2,p3⟩:=fW hp7 rfl rfl rfl rfl;obtain⟨z0,z1,z2,z3⟩:=pG hp7;have hB8:Below w.heap.size w ((((w7.setCell ⟨w.heap.size+1,0,none⟩ (.int .i64 9)).setCell ⟨w.heap.size+1,1,none⟩ (.int .i64 a)).setCell ⟨w.heap.size+1,2,none⟩ (.int .i64 l)).setCell ⟨w.heap.size+1,3,none⟩ (.int .i64 n')):=
   (((hB7.setCell (p:=⟨w.heap.size+1,0,none⟩) (Nat.le_succ _) _).setCell (p:=⟨w.heap.size+1,1,none⟩) (Nat.le_succ _) _).setCell (p:=⟨w.heap.size+1,2,none⟩) (Nat.le_succ _) _).setCell (p:=⟨w.heap.size+1,3,none⟩) (Nat.le_succ _) _
  go_wp2;refine bodyPost_ret (v:= .tuple #[.string S, .agg #[.int .i64 9, .int .i64 a, .int .i64 l, .int .i64 n'], .int .i64 0]) (by simp[results,Tryz.results21,go_sem,p0,p1,p2,p3]) rfl ?_;exact⟨_,by rw[hnn.out],hB8⟩
 ·rw[if_neg h9]at hE;have hE2:E=0:=hE.out;subst hE2;have hnn:Hid (AW (nxt j)=S++F):=by unfold Hid nxt;rw[if_neg h9];exact hnx.out
  go_upto_region 13 with fail
  have t0:=Ws.here c0;have t1:=Ws.here (aO hq6 1 rfl);have t2:=Ws.here (aO hq6 2 rfl);have t3:=Ws.here (aO hq6 3 rfl);refine aR [0,1,2,3,4,6] [5] [] [7,8] (by kernel_rfl) (by kernel_rfl) (fun d _ _ _ _ h=>by cases d<;>exact h) ?_;simp only[zK,zM,zI,zJ];repeat(go_big_quiet_step (fail))
  refine wpQuiet_nil ?_;repeat(go_big_quiet_step (fail))
  refine wpQuiet_nil ?_;clear t0 t1 t2 t3 c0 hq6;have hBd:Below w6.heap.size w6 w6.drew:=(zD).drew;refine bR ?_;have hp7:=aA hBd hp6;have hB7:=hB6.trans (hBd.mono hB6.size);generalize w6.drew=w7 at*;obtain⟨p0,p1,p2,p3⟩:=fW hp7 rfl rfl rfl rfl;obtain⟨z0,z1,z2,z3⟩:=pG hp7;have hB8:Below w.heap.size w ((((w7.setCell ⟨w.heap.size+1,0,none⟩ (.int .i64 0)).setCell ⟨w.heap.size+1,1,none⟩ (.int .i64 a)).setCell ⟨w.heap.size+1,2,none⟩ (.int .i64 l)).setCell ⟨w.heap.size+1,3,none⟩ (.int .i64 n')):=
   (((hB7.setCell (p:=⟨w.heap.size+1,0,none⟩) (Nat.le_succ _) _).setCell (p:=⟨w.heap.size+1,1,none⟩) (Nat.le_succ _) _).setCell (p:=⟨w.heap.size+1,2,none⟩) (Nat.le_succ _) _).setCell (p:=⟨w.heap.size+1,3,none⟩) (Nat.le_succ _) _
  go_wp2;refine bodyPost_ret (v:= .tuple #[.string (S++F), .agg #[.int .i64 0, .int .i64 a, .int .i64 l, .int .i64 n'], .int .i64 0]) (by simp[results,Tryz.results21,go_sem,p0,p1,p2,p3]) rfl ?_;exact⟨_,by rw[hnn.out],hB8⟩
theorem aBb:Lib.decDigits 257=[50,53,55]:=by
 simp[Lib.decDigits]
theorem aDz:Lib.decDigits 64=[54,52]:=by simp[Lib.decDigits]
theorem aEa:Lib.decDigits 10=[49,48]:=by simp[Lib.decDigits]
theorem aEb:Lib.decDigits 12=[49,50]:=by simp[Lib.decDigits]
theorem aEc:Lib.decDigits 14=[49,52]:=by simp[Lib.decDigits]
theorem aFa:Lib.decDigits 0=[48]:=by simp[Lib.decDigits]
theorem aFb:Lib.decDigits 1=[49]:=by simp[Lib.decDigits]
theorem aFc:Lib.decDigits 2=[50]:=by simp[Lib.decDigits]
theorem aFd:Lib.decDigits 3=[51]:=by simp[Lib.decDigits]
theorem aFe:Lib.decDigits 4=[52]:=by simp[Lib.decDigits]
theorem aFf:Lib.decDigits 7=[55]:=by simp[Lib.decDigits]
theorem aFg:Lib.decDigits 8=[56]:=by simp[Lib.decDigits]
theorem aFh:Lib.decDigits 9=[57]:=by simp[Lib.decDigits]
theorem uR{E F:Type}{f g:E->List F}:∀l:List E,(∀x∈l,f x=g x)->l.flatMap f=l.flatMap g
 |[],_=>rfl
 |e::l,h=>by rw[List.flatMap_cons,List.flatMap_cons,h e (by simp),uR l fun x hx=>h x (by simp[hx])]
theorem XR(v:Vn):qP (cY v)=qP v:=by
 have hf:∀f:Fc,IG (uD f)=IG f:=fun f=>rfl;have hs:∀s:Sb,wY (mJ s)=wY s:=fun s=>by
  unfold wY mJ;simp only[List.map_map];congr 1
 unfold qP cY;simp only[List.flatMap_map];congr 2;exact uR _ fun s _=>hs s
def UJ:ByteArray:=⟨#[116,105,99,107,32,48,10,112,111,111,108,32,55,32,117,112,32,48,32,49,46,48,47,56,10,117,115,101,114,32,49,32,49,46,48,47,49,48,10,99,111,111,108,32,51,32,49,46,54,52,47,49,50,10,110,101,116,32,49,10,114,97,110,103,101,32,49,46,48,47,49,48,32,55,10,115,117,98,32,52,32,49,46,48,47,49,52,10,102,97,99,101,32,57,32,50,53,55,10,110,101,116,32,50,10,108,105,110,107,32,49,32,50,10]⟩
theorem PP(h:St 9 s):TZ (T0 s.t s.ps s.vs s.ls)=UJ:=by
 have h:wX (aL 9) (aV 9) (aK 9) s:=h;obtain⟨x,c,hp⟩:=h.ps;have hv:s.vs.flatMap qP=(aV 9).flatMap qP:=by
  rw[<-h.vs,List.flatMap_map];exact(uR _ fun v _=>XR v).symm
 unfold T0 bkL ntL;rw[h.t0,hp,hv,h.lk];unfold TZ UJ;simp[aL,aV,aK,AG,vU,qP,KK,wY,IG,O8,lnB,aQ,lK,L2,Lib.join,List.intercalate,aBb,aDz,aEa,aEb,aEc,aFa,aFb,aFc,aFd,aFe,aFf,aFg,aFh]
theorem aFi:AW 0=⟨#[]⟩:=rfl
theorem pR(w:World)(hE:A0 w):Calls Tryz.prog 7 #[] w fun e w'=>e= .returned (.bool true)/\Below w.heap.size w w':=by
 go_enter Tryz.func7,Tryz.ntmps7;go_wp2;go_loopw [1,2] (fun s i wr=>∃j:Nat,i= .int .i64 j/\j<=10/\s= .string (AW (if j=10 then 9 else j))/\Below w.heap.size w wr) (fun _ i _=>10- (intOf i).toNat)
 case atStart=>exact⟨0,rfl,by omega,by rw[if_neg (by omega),aFi],zD⟩
 case round=>
  obtain⟨j,rfl,hj,rfl,hBr⟩:=hrel
  by_cases hlt:j<10
  ·have hlt':Hid (j<10):=hlt;rw[if_neg (show¬j=10 by omega)];have hst:=fun W=>KU (j:=j) hlt W;have hnx:Hid (AW (nxt j)=AW (if j+1=10 then 9 else j+1)):=by
    unfold Hid nxt;congr 1;by_cases h9:j=9
    ·subst h9;rfl
    ·rw[if_neg h9,if_neg (by omega)]
   generalize AW j=S at*;go_wp2_with fail;refine(AD wr).mono ?_;rintro _ w1 ⟨b1,rfl, -,hb1⟩;have hB1:=hBr.trans (hb1.mono hBr.size);go_wp2_with fail;refine(AD w1).mono ?_;rintro _ w2 ⟨b2,rfl,hc,hb2⟩;have hB2:=hB1.trans (hb2.mono hB1.size);obtain⟨b,o,hx,d0,d1,d2,d3,d4,d5,d6,d7,d8,d9⟩:=hc.cells j hlt
   cases hx;simp only[Nat.zero_add]at d0 d1 d2 d3 d4 d5 d6 d7 d8 d9;have hi1:(j:Int)<10:=by omega
   have hi2:(0:Int)<=j:=by omega
   clear hc;generalize cdAt planL j=C at*;go_wp2_with fail;refine(hst w2).mono ?_;rintro _ w3 ⟨a,rfl,hb3⟩;have hB3:=hB2.trans (hb3.mono hB2.size);clear d0 d1 d2 d3 d4 d5 d6 d7 d8 d9 hst;go_wp2;go_roundw
   case rel=>exact⟨j+1,by go_num,hlt'.out,by rw[<-hnx.out],hB3⟩
   case measure=>simp[intOf];have:=hlt'.out;omega
  ·obtain rfl:j=10:=by omega
   rw[if_pos rfl];have hrc:=fun W=>sS (k:=9) (by omega) W;generalize AW 9=S at*;go_wp2_with fail;refine(AD wr).mono ?_;rintro _ w1 ⟨b1,rfl, -,hb1⟩;have hB1:=hBr.trans (hb1.mono hBr.size);go_wp2_with fail;refine(hrc w1).mono ?_;rintro _ w2 ⟨s,vB,vV,vK,rfl,hb2,hSO,hSt⟩;obtain⟨x3,c3,X3,C3,Y3,D3,rfl,rfl,rfl⟩:=hSO.slices;have hB2:=hB1.trans (hb2.mono hB1.size);go_upto_region 10 with fail
   obtain⟨w3,hw3⟩:∃w3,w3=w2.alloc (lH s.t (.slice x3 s.ps.length c3) (.slice X3 s.vs.length C3) (.slice Y3 s.ls.length D3)):=⟨_,rfl⟩;have hb3:Below w2.heap.size w2 w3:=by rw[hw3];exact bl1 w2 _
   have hS3:lI w3 w1.heap.size w2.heap.size s.t s.ps s.vs s.ls (.slice x3 s.ps.length c3) (.slice X3 s.vs.length C3) (.slice Y3 s.ls.length D3):=⟨by rw[hw3];exact aB _ rfl,hb2.size,hSO.later hb3⟩;rw[<-hw3];clear hw3 hSO;have hB3:=hB2.trans (hb3.mono hB2.size);obtain⟨hcB,hcN, -⟩:=AV (by omega) hSt;have hcT:=L9 (by omega) hSt;obtain⟨x',c',X',C',Y',D',e1,e2,e3,hbk,hvs,hvc,hv63,hps,hl63⟩:=hS3.see hcB;simp only[Value.slice.injEq]at e1 e2 e3;obtain⟨rfl, -,rfl⟩:=e1;obtain⟨rfl, -,rfl⟩:=e2;obtain⟨rfl, -,rfl⟩:=e3;have hSi:Si w3 x3 s.ps.length c3 s.ps X3 s.vs.length C3 s.vs Y3 s.ls.length s.ls:=⟨hbk,hvs,hvc,hv63,hps,hl63⟩;have hsh:=HW s.t x3 s.ps.length c3 s.ps X3 s.vs.length C3 s.vs Y3 s.ls.length D3 s.ls w3 hSi (hE.later hB3) (YI.of hSi);have hte:shE s.t s.ps s.vs.length s.vs s.ls.length s.ls=UJ:=by unfold shE;rw[if_pos hcT,PP hSt]
   rw[hte,hcT]at hsh;obtain⟨s0,s1,s2,s3⟩:=fW hS3.box rfl rfl rfl rfl;clear hte hcT hcB hcN hbk hvs hvc hv63 hps hl63 hSi;go_wp2_with fail;refine hsh.mono ?_;rintro _ w4 ⟨rfl,hb4⟩;have hB4:=hB3.trans (hb4.mono hB3.size);clear s0 s1 s2 s3 hsh;go_wp2;go_ret;refine⟨?_,hB4⟩;refine aI ?_;rw[ByteArray.toList_eq];rfl
theorem BT(t:Int)(x:Option Addr)(n c:Nat)(ps:List Po)(vx:Option Addr)(vn vc:Nat)(vs:List Vn)(lx:Option Addr)(ln lc:Nat)(ls:List (Int×Int))(w:World)(hs:Si w x n c ps vx vn vc vs lx ln ls)(hE:A0 w):
  Calls Tryz.prog 3 #[.agg #[.int .i64 t, .slice x n c, .slice vx vn vc, .slice lx ln lc]] w fun e w'=>e= .returned (.bool true)/\Below w.heap.size w w':=by
 have hsh:=fun W (hW:Below w.heap.size w W)=>HW t x n c ps vx vn vc vs lx ln lc ls W (hs.later hW) (hE.later hW) (YI.of (hs.later hW));have hck:=fun W (hW:Below w.heap.size w W)=>BQ t x n c ps vx vn vc vs lx ln lc ls W (hs.later hW);have htx:=fun W (hW:Below w.heap.size w W) (h:hZ t ps vn vs ln ls=0)=>ET t x n c ps vx vn vc vs lx ln lc ls W (hs.later hW) (YI.of (hs.later hW) h);have hT:Hid (shE t ps vn vs ln ls=if hZ t ps vn vs ln ls=0 then TZ (T0 t ps vs ls)else⟨#[]⟩):=rfl;generalize shE t ps vn vs ln ls=X at*;generalize TZ (T0 t ps vs ls)=Y at*;generalize hZ t ps vn vs ln ls=E at*;go_enter Tryz.func3,Tryz.ntmps3;go_upto_region 1 with fail
 obtain⟨w0,hw0⟩:∃w0,w0=w.alloc (lH t (.slice x n c) (.slice vx vn vc) (.slice lx ln lc)):=⟨_,rfl⟩;have hB0:Below w.heap.size w w0:=by rw[hw0];exact bl1 w _
 have hq0:w0.heap[w.heap.size]?=some (lH t (.slice x n c) (.slice vx vn vc) (.slice lx ln lc)):=by rw[hw0];exact aB _ rfl
 rw[<-hw0];clear hw0;have cells:∀W,Below w0.heap.size w0 W->W.cell? ⟨w.heap.size,0,none⟩=some (.int .i64 t)/\W.cell? ⟨w.heap.size,1,none⟩=some (.slice x n c)/\W.cell? ⟨w.heap.size,2,none⟩=some (.slice vx vn vc)/\W.cell? ⟨w.heap.size,3,none⟩=some (.slice lx ln lc):=fun W hW=>
  ⟨(aD (aA hW hq0)).1 0,(aD (aA hW hq0)).1 1,(aD (aA hW hq0)).1 2,(aD (aA hW hq0)).1 3⟩
 have hcl:Hid _:=cells;clear cells;obtain⟨s0,s1,s2,s3⟩:=hcl.out w0 (zD);go_wp2_with fail;refine(hsh w0 hB0).mono ?_;rintro _ w1 ⟨rfl,hb1⟩;have hB1:=hB0.trans (hb1.mono hB0.size);clear s0 s1 s2 s3 hsh;obtain⟨s0,s1,s2,s3⟩:=hcl.out w1 hb1;go_wp2_with fail;refine(hck w1 hB1).mono ?_;rintro _ w2 ⟨rfl,hb2⟩;have hb02:=hb1.trans (hb2.mono hb1.size);have hB2:=hB1.trans (hb2.mono hB1.size);clear s0 s1 s2 s3 hck;by_cases hz:E=0
 ·subst hz;rw[if_pos rfl]at hT;obtain⟨s0,s1,s2,s3⟩:=hcl.out w2 hb02;have htx2:=htx w2 hB2 rfl;rw[show X=Y from hT.out];clear htx;go_wp2_with fail;refine htx2.mono ?_;rintro _ w3 ⟨rfl,hb3⟩;have hB3:=hB2.trans (hb3.mono hB2.size);clear s0 s1 s2 s3 htx2;go_wp2_with fail;refine(pR w3 (hE.later hB3)).mono ?_;rintro _ w4 ⟨rfl,hb4⟩;have hyy:(Y.toList==Y.toList)=true:=by simp
  go_wp2;go_ret;exact⟨rfl,hB3.trans (hb4.mono hB3.size)⟩
 ·rw[if_neg hz]at hT;rw[show X=⟨#[]⟩from hT.out];have hne:(E==0)=false:=by simpa using hz
  go_wp2_with fail;refine(pR w2 (hE.later hB2)).mono ?_;rintro _ w4 ⟨rfl,hb4⟩;go_wp2;go_ret;exact⟨rfl,hB2.trans (hb4.mono hB2.size)⟩
open Go.ChangeShapes Go.WideShapes Go.ChangeAt Go.RowKit Go.Joins
theorem XS:Tryz.prog.cellsOf 30=4:=by kernel_rfl
theorem XT:Tryz.prog.cellsOf 25=1:=by kernel_rfl
theorem XU:Tryz.prog.cellsOf 26=1:=by kernel_rfl
theorem aBc{α:Type}{a:Array α}(h:a.size=4):∃x y z u,a=#[x,y,z,u]:=by
 obtain⟨l⟩:=a;match l,h with
 |[x,y,z,u],_=>exact⟨x,y,z,u,rfl⟩
theorem UK{H:Type}{enc:TypeId×Value->H}{y1:DataW H×List MemPlace}(hy1:DataW.trod enc Tryz.prog w 0 (fun _=>true) true n 22 [v]=some y1)(hby:Rows.uptoBulk y1.1<=1048576):
  ∃(x:Option Addr) (n c:Nat) (ps:List Po),v= .slice x n c/\Bk w x n c ps:=by
 rcases Deep.open_slice Tryz.underlying22 hy1 with ⟨h0, -⟩|⟨a,len,cap,m,k,D,Pl,h1, -,hl,hm,hmm,hx,hcell⟩
 ·simp at h0;subst h0;exact⟨none,0,0,[],rfl,Bk.nil w⟩
 ·simp at h1;subst h1;simp at hmm;have hmm':=hmm.symm;subst hmm';clear hmm;have hdy:y1.1= .slice ((List.range len).map D) ((List.range (cap- len)).map fun j=>D (len+j)):=by rw[hx]
  rw[hdy,Rows.uptoBulk]at hby;have hbl:=GA ((List.range len).map D);rw[List.length_map,List.length_range]at hbl;have hDb:∀i,i<len->Rows.uptoBulk (D i)<=1048576:=fun i hi=>by
   have:=tG (d:=D i) (l:=(List.range len).map D) (List.mem_map.2 ⟨i,List.mem_range.2 hi,rfl⟩);omega
  have each:∀i,i<cap->∃q:Po,(∀j,j<9->w.cell? (a.add (i*9+j))=(cP q)[j]?)/\LS w q.x q.n q.ls/\q.n<=q.c/\q.n<=Rows.uptoBulk (D i):=fun i hi=>by
   obtain⟨cs',e1,e2⟩:=hcell i hi;rw[VE]at e1;obtain⟨-,hlen,hc⟩:=World.cells?_some e1;obtain⟨q,rfl,hq⟩:=M3 hlen e2;exact⟨q,fun j hj=>by
    have:=hc j hj;rw[Deep.add_add]at this;exact this,hq⟩
  have:Inhabited Po:=⟨YX⟩;obtain⟨Q,hQ⟩:=Deep.choose_lt each;have hmax:cap<=9223372036854775807:=by unfold maxLen at hm;omega
  by_cases hn0:len=0
  ·subst hn0;exact⟨some a,0,cap,[],rfl,⟨⟨rfl,fun i hi=>by omega,fun i hi=>by omega⟩,by omega,hmax⟩⟩
  ·have hsp:a.spot=none:=by
    have h0:=(hQ 0 (by omega)).1 0 (by omega);have h1:w.cell? (a.add (0*9+0))=some (.int .i64 (Q 0).id):=h0;have:=World.cell?_spot h1;simpa[Addr.add]using this
   obtain⟨b,o,sp⟩:=a;simp only at hsp;subst hsp;have hat:∀i,i<len->poAt ((List.range len).map Q) i=Q i:=fun i hi=>by unfold poAt;rw[zF,List.getElem?_map,List.getElem?_range hi];rfl
   refine⟨some ⟨b,o,none⟩,len,cap,(List.range len).map Q,rfl,⟨⟨by simp,fun i hi=>⟨b,o,rfl,?_⟩,fun i hi=>?_⟩,hl,hmax⟩⟩
   ·rw[hat i hi];have e:∀j,j<9->∀u,(cP (Q i))[j]?=some u->w.cell? ⟨b,o+i*9+j,none⟩=some u:=fun j hj u hu=>by
     have:=(hQ i (by omega)).1 j hj;rw[cA,hu,<-Nat.add_assoc]at this;exact this
    exact⟨e 0 (by omega) _ rfl,e 1 (by omega) _ rfl,e 2 (by omega) _ rfl,e 3 (by omega) _ rfl,e 4 (by omega) _ rfl,e 5 (by omega) _ rfl,e 6 (by omega) _ rfl,e 7 (by omega) _ rfl,e 8 (by omega) _ rfl⟩
   ·rw[hat i hi];obtain⟨-,q1,q2,q3⟩:=hQ i (by omega);exact⟨q2,Nat.le_trans q3 (hDb i hi),q1⟩
theorem PQ{H:Type}{enc:TypeId×Value->H}{r:Reach}{d:DataW H}{p:List MemPlace}
 (hv:Value.okWide Tryz.prog w r b0 30 v)(h:DataW.Trod enc Tryz.prog w 0 (fun _=>true) true 30 v d p)(hbulk:Rows.uptoBulk d<=1048576):
  ∃(t:Int) (x:Option Addr) (n c:Nat) (ps:List Po) (vx:Option Addr) (vn vc:Nat) (vs:List Vn) (lx:Option Addr) (ln lc:Nat) (ls:List (Int×Int)),v= .agg #[.int .i64 t, .slice x n c, .slice vx vn vc, .slice lx ln lc]/\Si w x n c ps vx vn vc vs lx ln ls:=by
 obtain⟨cs,rfl,hsz⟩:=okWide_struct Tryz.underlying30 hv;obtain⟨c0,c1,c2,c3,rfl⟩:=aBc (hsz.trans XS);obtain⟨fuel,hf⟩:=h;obtain⟨y0,y1,n,hx, -,h0,h1⟩:=trod_struct2 Tryz.underlying30 hf;simp[Value.cells,ZD,V1]at h0 h1;obtain⟨z0,z1,m,hz, -,g0,g1⟩:=trod_struct2 Tryz.underlying24 h0;obtain⟨u0,u1,k,hu, -,e0,e1⟩:=trod_struct2 Tryz.underlying28 h1;simp[gA,VG]at g0 g1;simp[XT,XU]at e0 e1;obtain⟨t,et, -, -⟩:=DataW.trod_int Tryz.underlying3 g0;simp at et;subst et;have hd:Rows.uptoBulk z1.1<=1048576:=by
  have e1:d= .agg [y0.1,y1.1]:=congrArg Prod.fst hx;have e2:y0.1= .agg [z0.1,z1.1]:=by rw[hz]
  rw[e1,Rows.uptoBulk,Rows.uptoBulkAll,e2,Rows.uptoBulk,Rows.uptoBulkAll,Rows.uptoBulkAll]at hbulk;omega
 obtain⟨x,n,c,ps,rfl,hB⟩:=UK g1 hd;obtain⟨vx,vn,vc,vs,rfl,v1,v2,v3⟩:=S1 e0;obtain⟨lx,ln,lc,ls,rfl,l1,l2,l3⟩:=S2 e1;exact⟨t,x,n,c,ps,vx,vn,vc,vs,lx,ln,lc,ls,rfl,⟨hB,v1,v2,Nat.le_trans v2 v3,l1,Nat.le_trans l2 l3⟩⟩
end Go.Proofs.YtkgeoeglidnnnaaGreatDoor
namespace Go.Proofs.YtkgeoeglidnnnaaGreatDoor.deskShows
variable {w V w' w2 W : World} {V' : List Vn} {r : Option Nat} {base g n cap k i f j b0 : Nat} {v : Value} {xs : List Int} {ops : Array Oper} {rest : List Oper} {o : Oper} {a : Act} {Q : Exit → Act → World → Prop} {l : List Value} {b x0 x1 x2 x3 p : Int} {c : Cm} {x : Option Addr} {cs : List Cm} {ls : List Le} {L L' : List (Int × Int)} {s : fQ}
open Go.ChangeShapes Go.WideShapes Go.ChangeAt Go.RowKit Go.Joins
theorem gTabType:(Tryz.prog.globals[1]?).map (·.type)=some 284:=by kernel_rfl
theorem gT6:Tryz.prog.globalNamed "math/bits.deBruijn64tab" =some 3:=by kernel_rfl
theorem gT6Type:(Tryz.prog.globals[3]?).map (·.type)=some 337:=by kernel_rfl
theorem cT:Tryz.prog.cellsOf 284=20:=by kernel_rfl
theorem cT6:Tryz.prog.cellsOf 337=64:=by kernel_rfl
theorem cU:Tryz.prog.cellsOf 231=1:=by kernel_rfl
theorem cU6:Tryz.prog.cellsOf 5=1:=by kernel_rfl
theorem env_of_laid(h:laidMetH Tryz.prog Rows.deskShowsUptoRow.laid W):A0 W:=by
 have h0:laidMet Tryz.prog Rows.deskShowsUptoRow.laid W:=h;have h1:=laidMet.tail h0;have h2:=laidMet.tail h1;have t6:Lib.TabIs Tryz.prog W "math/bits.deBruijn64tab" .u8 [0,1,56,2,57,49,28,3,61,58,42,50,38,29,17,4,62,47,59,36,45,43,51,22,53,39,33,30,24,18,12,5,63,55,48,27,60,41,37,16,46,35,44,21,52,32,23,11,54,26,40,15,34,20,31,10,25,14,19,9,13,8,7,6]:=Lib.tabIs_of_head gT6 gT6Type Tryz.underlying337 Tryz.underlying5 cU6 cT6 h1;have tab:Lib.TabIs Tryz.prog W "internal/strconv.uint64pow10" .u64 Lib.pow10Tab:=Lib.tabIs_of_head aDq gTabType Tryz.underlying284 Tryz.underlying231 cU cT h2;have c:=t6.cell gT6 0 (by decide);refine⟨tab,?_⟩;rcases Nat.lt_or_ge 3 W.heap.size with h'|h'
 ·exact h'
 ·unfold World.cell? at c;simp[Array.getElem?_eq_none h']at c
theorem contract(H:Type)(enc:TypeId×Value->H)(W:World)(base:Nat)(args:Array Value)(ds gs:List (DataW H))(before:List MemPlace)
 (hval:∀(j:Nat) t v,Tryz.f3.params[j]?=some t->args[j]?=some v->Value.okWide Tryz.prog W .any base t v)
 (hW:DataW.Whole enc Tryz.prog Tryz.f3.params.toList Rows.deskShowsSpec.vars false W args.toList ds gs before)(hk:Rows.uptoSmall H (ds++gs)=true)(hL:laidMetH Tryz.prog Rows.deskShowsUptoRow.laid W):
  Calls Tryz.prog 3 args W fun e W'=>∃v,e= .returned v/\Rows.deskShowsSpec.post enc Tryz.prog Tryz.f3 false true false false W args v W':=by
 have hW':=hW;obtain⟨p,q,hA0,hV,rfl,hfz,hnd⟩:=hW;have hA:DataW.TrodAll enc Tryz.prog W 0 (fun _=>true) true Tryz.f3.params.toList args.toList ds p:=hA0;rw[Tryz.params3]at hA hval;obtain⟨v0,vs0,d0,ds0,p0,q0,hargs0,rfl,rfl,h0,r0⟩:=trodAll_cons hA;obtain⟨rfl,rfl,rfl⟩:=trodAll_nil r0;obtain rfl:args=#[v0]:=by cases args;simp_all
 obtain⟨rfl,rfl⟩:=trodVars_none hV;clear hA0;have hall:Rows.uptoBulkAll [d0]<=1048576:=by
  have h:=of_decide_eq_true hk;simpa using h
 obtain⟨t,x,n,c,ps,vx,vn,vc,vs,lx,ln,lc,ls,rfl,hB⟩:=PQ (hval 0 30 v0 rfl rfl) h0 (Nat.le_trans (tG (by simp)) hall);have hlt0:∀z∈p0,z.block<W.heap.size:=fun z hz=>hW'.lt z (by simp[hz]);simp only[List.append_nil]at hW';refine(BT t x n c ps vx vn vc vs lx ln lc ls W hB (env_of_laid hL)).mono fun e W' ⟨he,hb⟩=>?_;subst he;refine⟨_,rfl,_,_,_,[],p0++[],[],hW',?_,?_,rfl,hb.frame _,fun h=>by cases h⟩
 ·exact trodAll_cons_mk (shut_bool Tryz.underlying4 _) trodAll_mk0
 ·exact trodAll_cons_mk (Below.trod U0 (by kernel_rfl) (of_decide_eq_true (by kernel_rfl)) h0 hb hlt0) trodAll_mk0
def layW(w0:World):World:=
 {w0 with heap:=((w0.heap.modify 2 fun
   | .cells _ t frozen=> .cells #[.int .u8 0, .int .u8 1, .int .u8 28, .int .u8 2, .int .u8 29, .int .u8 14, .int .u8 24, .int .u8 3, .int .u8 30, .int .u8 22, .int .u8 20, .int .u8 15, .int .u8 25, .int .u8 17, .int .u8 4, .int .u8 8, .int .u8 31, .int .u8 27, .int .u8 13, .int .u8 23, .int .u8 21, .int .u8 19, .int .u8 16, .int .u8 7, .int .u8 26, .int .u8 12, .int .u8 18, .int .u8 6, .int .u8 11, .int .u8 5, .int .u8 10, .int .u8 9] t frozen
   |o=>o).modify 3 fun
   | .cells _ t frozen=> .cells #[.int .u8 0, .int .u8 1, .int .u8 56, .int .u8 2, .int .u8 57, .int .u8 49, .int .u8 28, .int .u8 3, .int .u8 61, .int .u8 58, .int .u8 42, .int .u8 50, .int .u8 38, .int .u8 29, .int .u8 17, .int .u8 4, .int .u8 62, .int .u8 47, .int .u8 59, .int .u8 36, .int .u8 45, .int .u8 43, .int .u8 51, .int .u8 22, .int .u8 53, .int .u8 39, .int .u8 33, .int .u8 30, .int .u8 24, .int .u8 18, .int .u8 12, .int .u8 5, .int .u8 63, .int .u8 55, .int .u8 48, .int .u8 27, .int .u8 60, .int .u8 41, .int .u8 37, .int .u8 16, .int .u8 46, .int .u8 35, .int .u8 44, .int .u8 21, .int .u8 52, .int .u8 32, .int .u8 23, .int .u8 11, .int .u8 54, .int .u8 26, .int .u8 40, .int .u8 15, .int .u8 34, .int .u8 20, .int .u8 31, .int .u8 10, .int .u8 25, .int .u8 14, .int .u8 19, .int .u8 9, .int .u8 13, .int .u8 8, .int .u8 7, .int .u8 6] t frozen
   |o=>o).modify 1 fun
   | .cells _ t frozen=> .cells #[.int .u64 1, .int .u64 10, .int .u64 100, .int .u64 1000, .int .u64 10000, .int .u64 100000, .int .u64 1000000, .int .u64 10000000, .int .u64 100000000, .int .u64 1000000000, .int .u64 10000000000, .int .u64 100000000000, .int .u64 1000000000000, .int .u64 10000000000000, .int .u64 100000000000000, .int .u64 1000000000000000, .int .u64 10000000000000000, .int .u64 100000000000000000, .int .u64 1000000000000000000, .int .u64 10000000000000000000] t frozen
   |o=>o}
theorem laid_met(os:Os)(args:Array Value):laidMet Tryz.prog Rows.deskShowsUptoRow.laid ((layW (World.holding Tryz.prog os ⟨#[],#[],[]⟩)).forCall (fun _ _=>0) ⟨#[],args,[]⟩).memory:=
 laidMet_of_run' 8 (by kernel_rfl) (by kernel_rfl)
theorem reads(os:Os){H:Type}(enc:TypeId×Value->H):∃places,DataW.whole enc Tryz.prog ((layW (World.holding Tryz.prog os ⟨#[],#[],[]⟩)).forCall (fun _ _=>0) ⟨#[],#[.agg #[.int .i64 0, .slice none 0 0, .slice none 0 0, .slice none 0 0]],[]⟩).memory Tryz.f3.params.toList Rows.deskShowsSpec.vars false #[(.agg #[.int .i64 0, .slice none 0 0, .slice none 0 0, .slice none 0 0]:Value)].toList 8=some ([.agg [.agg [.lit (.int .i64 0), .nil], .agg [.nil, .nil]]],[],places):=
 ⟨[],by kernel_rfl⟩
theorem lifted(os:Os)(started:os.Started)(H:Type)(enc:TypeId×Value->H)(F:Stop.Interp):
  ReturnsInHanded {} Tryz.checked os 3 .any ((Rows.OpenSpec.upto Rows.deskShowsSpec).preRow enc Tryz.prog Tryz.f3 Rows.deskShowsUptoRow.domain false Rows.deskShowsUptoRow.laid) (((Rows.OpenSpec.upto Rows.deskShowsSpec).at F).post enc Tryz.prog Tryz.f3 false true false false):=by
 obtain⟨places,hx⟩:=reads os enc;refine returnsInHanded_of_row (C:=Tryz.checked) (s:=Rows.OpenSpec.upto Rows.deskShowsSpec) own started (by kernel_rfl) Tryz.func3
  (witness_row_at (enc:=enc) (C:=Tryz.checked) false (layW (World.holding Tryz.prog os ⟨#[],#[],[]⟩)) #[.agg #[.int .i64 0, .slice none 0 0, .slice none 0 0, .slice none 0 0]] rfl (by kernel_rfl) (by kernel_rfl) (by kernel_rfl)
   (OpenSpec.preRow_of_cond 8 hx (by kernel_rfl) (fun k hk=>by cases hk;kernel_rfl) (by kernel_rfl) (laid_met os _))) ?_
 intro W base args ds gs before hval hW _ hcond _ hL _ _;exact contract H enc W base args ds gs before hval hW (hcond _ rfl) hL
abbrev Rw:=Rows.deskShowsUptoRow
theorem k1:(Rw.inPlace==Tryz.prog.inPlace 3)=true:=by kernel_rfl
theorem k2:(Rw.unfollowed==Tryz.prog.unfollowed 3)=true:=by kernel_rfl
theorem k3:(Rw.recurses==Tryz.prog.recurses 3)=true:=by kernel_rfl
theorem k4:(Rw.named==Tryz.prog.varsNamed 3)=true:=by kernel_rfl
theorem closed:joinedFacts Tryz.prog 3 Tryz.f3 (Rows.OpenSpec.upto Rows.deskShowsSpec).bare Rw=true:=by
 unfold joinedFacts;rw[k1,k2,k3,k4];kernel_rfl
theorem said:Rows.DeskShowsUptoSaid:=
 OpenClaim.holds_of_cond 3 Tryz.f3 rfl rfl rfl rfl rfl rfl rfl ⟨rfl,rfl,rfl,rfl,rfl⟩ rfl rfl rfl rfl rfl (by kernel_rfl) Tryz.func3 closed
  (of_decide_eq_true (by kernel_rfl)) (by unfold Func.isWrapper;first|(rw[if_pos (by decide+kernel)];kernel_rfl)|(rw[if_neg (by decide+kernel)];exact⟨rfl,rfl⟩))
  (fun os started H enc _ F=>by rw[OpenClaim.pre_eq_preRow];exact lifted os started H enc F)
theorem plain(f:FuncId)(fn:Func)(hf:Tryz.pinned.checked.prog.funcNamed "parcelway/parcelwaylaw.DeskShows" =some f)(hfn:Tryz.pinned.checked.prog.funcs[f]?=some fn):
  false=Tryz.pinned.checked.prog.looks []/\∀(j:Nat) t,fn.params[j]?=some t->Tryz.pinned.checked.prog.wantsStandIn t=false:=by
 obtain rfl:f=3:=Option.some.inj ((show Tryz.prog.funcNamed "parcelway/parcelwaylaw.DeskShows" =some 3 by kernel_rfl).symm.trans hf)|>.symm;obtain rfl:fn=Tryz.f3:=(Option.some.inj (Tryz.func3.symm.trans hfn)).symm;refine⟨by kernel_rfl,fun j t ht=>?_⟩;rw[Tryz.params3]at ht;obtain rfl:t=30:=by simpa using Array.mem_of_getElem? ht
 exact(show Tryz.prog.wantsStandIn 30=false by kernel_rfl)
end Go.Proofs.YtkgeoeglidnnnaaGreatDoor.deskShows
namespace Go.Proofs.YtkgeoeglidnnnaaGreatDoor
variable {w V w' w2 W : World} {V' : List Vn} {r : Option Nat} {base g n cap k i f j b0 : Nat} {v : Value} {xs : List Int} {ops : Array Oper} {rest : List Oper} {o : Oper} {a : Act} {Q : Exit → Act → World → Prop} {l : List Value} {b x0 x1 x2 x3 p : Int} {c : Cm} {x : Option Addr} {cs : List Cm} {ls : List Le} {L L' : List (Int × Int)} {s : fQ}
theorem deskShows_card:Rows.DeskShowsUptoCardSaid:=
 Claim7.holds_tied_plain_at .later [] _ _ _ _ deskShows.said (fun _ h=>by cases h) (by kernel_rfl) (fun _ h=>by cases h) deskShowsUpto_row_tie rfl ⟨rfl,rfl⟩ (by kernel_rfl) rfl deskShows.plain (by kernel_rfl)
end Go.Proofs.YtkgeoeglidnnnaaGreatDoor
